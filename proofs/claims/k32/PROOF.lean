import PyProof.Rows.All
import Wide.All
import OpenK.AllK
import Wide.FinOn
import HandS.ForMost
import HandS.Exc
import HandS.CallSlots
import HandS.TupAny
import HandS.IsInst
import HandS.Defaults
import HandS.MakeKw
import HandS.FStr
import HandS.DictComp
import HandS.Conv
import HandS.Wide
import HandS.Lambda
import HandS.Style
import PyProof.ExcBaseAll.LookupError
import HandS.ExcInit
import HandS.ExcField
import HandS.ExcIs
import HandS.TryMany
import KE.KExcIs
import HandS.Iter
import KE.GoesMore
import KE.GoesEnum
import PyProof.InstNe
import OpenK.KOwn
import HandS.Replace
import PyProof.MeetsStr3
import HandS.Ends
import HandS.EndTab
import HandS.NestedK
import HandS.Rev
import HandS.SortKw
import KE.KRevSl
import KE.DatumOrd
import HandS.WideBits
import HandS.SortInts
import HandS.SetFor
import HandS.More
import HandS.Strs
import HandS.Small
import HandS.TupLe
import HandS.Words
import PySem.Challenge.RW_agedcopy_k32_whole_a_store_with_a_note_a
set_option Elab.async false
set_option autoImplicit false
set_option linter.all false
set_option maxRecDepth 100000
set_option maxHeartbeats 3900000
/-! DL: data level. What a reading of the layer means for plain data: slots hold data or lists of one's own, nothing of the heap is left. -/
namespace DL
open L2 PyProof.Rows PySem PySem.Spec
/-- t: the tables of code objects, each with the name that stands in it; gs, gf: what is known to stay -/
structure Tb where
  t : List (Addr × Str)
  gs : Hp
  gf : Hp
abbrev tb0 (t : List (Addr × Str)) : Tb := ⟨t, fun _ => none, fun _ => none⟩
variable {τ : Tb}

abbrev Fg := PySem.W.Frag
/-- plain data -/
inductive D where
  | non | bl (b : Bool) | int (i : Int) | str (s : Str)
  | lst (xs : List D) | tup (xs : List D)
  | obj (c : Addr) (ns : List Str) (ds : List D)
  | dic (ks : List Key) (ds : List D)
  | dct (ks : List (List Key)) (ds : List D)
  | scr (is : List Int)
  | raw (v : V)
  | exn (v : V) (dd : Addr) (f : Str) (d : D)
  | err (c : Addr) (f : Str) (d : D)

/-- at a an error of the class C, its dict at dd -/
def ErrO (C dd a : Addr) (o : HO) : Prop := ∃ φ, o = .ext φ ∧ ∀ h, φ h → ∃ (oe : Obj) (vs : Array Value), h.get? a = some oe ∧ Zc (.ref C) (some dd) oe ∧ oe.data = .fields vs
/-- a tuple that stands in the program's own part -/
def KT (K : Fg) (a : Addr) (vs : List V) : Prop := ∃ (o : Obj) (its : Array Value) (n : Nat), K.lookup a = some o ∧ o.cls = .type "tuple" ∧ o.data = .seq its n ∧ its.size ≤ sizeLine ∧ Vals vs its.toList
mutual
inductive Is (K : Fg) (S : Hp) : V → D → Prop
  | non : Is K S .non .non
  | bl (b : Bool) : Is K S (.bl b) (.bl b)
  | int (i : Int) : Is K S (.int i) (.int i)
  | str (s : Str) : Is K S (.str s) (.str s)
  | lst {a vs ds} : S a = some (.lst vs) → IsAll K S vs ds → Is K S (.ref a) (.lst ds)
  | tup {a vs ds} : S a = some (.tup vs) → IsAll K S vs ds → Is K S (.ref a) (.tup ds)
  | obj {a C dx vs ns ds} : S a = some (.ins C dx vs) → vs.map (·.1) = ns → IsAll K S (vs.map (·.2)) ds → Is K S (.ref a) (.obj C ns ds)
  | dic {a kvs ks ds} : S a = some (.dK kvs) → kvs.map (·.1) = ks → IsAll K S (kvs.map (·.2)) ds → Is K S (.ref a) (.dic ks ds)
  | dct {a kvs ks ds} : S a = some (.dT kvs) → kvs.map (·.1) = ks → IsAll K S (kvs.map (·.2)) ds → Is K S (.ref a) (.dct ks ds)
  | scr {a} {is : List Int} : SqL K S a (is.map V.int) → Is K S (.ref a) (.scr is)
  | raw (v : V) : Is K S v (.raw v)
  | exn {v dd f u d} : S dd = some (.xd [(f, u)]) → Is K S u d → Is K S v (.exn v dd f d)
  | err {a o dd C f u d} : S a = some o → ErrO C dd a o → S dd = some (.xd [(f, u)]) → Is K S u d → Is K S (.ref a) (.err C f d)
  | ktup {a vs ds} : KT K a vs → IsAll K S vs ds → ds = [] → Is K S (.ref a) (.tup ds)
inductive IsAll (K : Fg) (S : Hp) : List V → List D → Prop
  | nil : IsAll K S [] []
  | cons {v vs d ds} : Is K S v d → IsAll K S vs ds → IsAll K S (v :: vs) (d :: ds)
end

section
variable {K : Fg} {S S' : Hp}
theorem both_mono (e : Same S S') : (∀ v d, Is K S v d → Is K S' v d) ∧ (∀ vs ds, IsAll K S vs ds → IsAll K S' vs ds) := by
  refine ⟨fun v d h => ?_, fun vs ds h => ?_⟩
  · exact Is.rec (motive_1 := fun v d _ => Is K S' v d) (motive_2 := fun vs ds _ => IsAll K S' vs ds) .non .bl .int .str
      (fun h _ ih => .lst (e _ _ h) ih) (fun h _ ih => .tup (e _ _ h) ih) (fun h hn _ ih => .obj (e _ _ h) hn ih) (fun h hn _ ih => .dic (e _ _ h) hn ih) (fun h hn _ ih => .dct (e _ _ h) hn ih) (fun h => .scr (e.seq h)) .raw (fun h _ ih => .exn (e _ _ h) ih) (fun h1 h2 h3 _ ih => .err (e _ _ h1) h2 (e _ _ h3) ih) (fun h _ q ih => .ktup h ih q) .nil (fun _ _ a b => .cons a b) h
  · exact IsAll.rec (motive_1 := fun v d _ => Is K S' v d) (motive_2 := fun vs ds _ => IsAll K S' vs ds) .non .bl .int .str
      (fun h _ ih => .lst (e _ _ h) ih) (fun h _ ih => .tup (e _ _ h) ih) (fun h hn _ ih => .obj (e _ _ h) hn ih) (fun h hn _ ih => .dic (e _ _ h) hn ih) (fun h hn _ ih => .dct (e _ _ h) hn ih) (fun h => .scr (e.seq h)) .raw (fun h _ ih => .exn (e _ _ h) ih) (fun h1 h2 h3 _ ih => .err (e _ _ h1) h2 (e _ _ h3) ih) (fun h _ q ih => .ktup h ih q) .nil (fun _ _ a b => .cons a b) h
theorem Is.mono {v d} (h : Is K S v d) (e : Same S S') : Is K S' v d := (both_mono e).1 v d h
theorem IsAll.mono {vs ds} (h : IsAll K S vs ds) (e : Same S S') : IsAll K S' vs ds := (both_mono e).2 vs ds h
theorem Is.tup_inv {v : V} {ds : List D} (h : Is K S v (.tup ds)) : ∃ a vs, v = .ref a ∧ IsAll K S vs ds ∧ ∀ H, Same S H → SqT K H a vs := by
  cases h with
  | tup h1 h2 => exact ⟨_, _, rfl, h2, fun H e => .inl (.inl (e _ _ h1))⟩
  | ktup h1 h2 a3 => exact ⟨_, _, rfl, h2, fun H e => .inr h1⟩
theorem IsAll.length : ∀ {vs : List V} {ds : List D}, IsAll K S vs ds → vs.length = ds.length
  | _, _, .nil => rfl
  | _, _, .cons _ q => congrArg (· + 1) q.length
theorem IsAll.get : ∀ {vs : List V} {ds : List D} {i : Nat} {d : D}, IsAll K S vs ds → ds[i]? = some d → ∃ v, vs[i]? = some v ∧ Is K S v d
  | _, _, _, _, .nil, e => nomatch e
  | _, _, 0, _, .cons r _, e => by cases (Option.some.inj e); exact ⟨_, rfl, r⟩
  | _, _, i + 1, d, .cons _ t, e => by
    obtain ⟨u, h1, h2⟩ := IsAll.get (i := i) (d := d) t (by simpa using e)
    exact ⟨_, (by simpa using h1), h2⟩
theorem IsAll.append : ∀ {xs ys : List V} {us ws : List D}, IsAll K S xs us → IsAll K S ys ws → IsAll K S (xs ++ ys) (us ++ ws)
  | _, _, _, _, .nil, s => s
  | _, _, _, _, .cons r t, s => .cons r (t.append s)
theorem IsAll.take : ∀ {xs : List V} {us : List D} (n : Nat), IsAll K S xs us → IsAll K S (xs.take n) (us.take n)
  | _, _, 0, _ => .nil
  | _, _, _ + 1, .nil => .nil
  | _, _, n + 1, .cons r t => .cons r (t.take n)
theorem IsAll.drop : ∀ {xs : List V} {us : List D} (n : Nat), IsAll K S xs us → IsAll K S (xs.drop n) (us.drop n)
  | _, _, 0, r => r
  | _, _, _ + 1, .nil => .nil
  | _, _, n + 1, .cons _ t => t.drop n
theorem IsAll.set {v : V} {d : D} (r : Is K S v d) : ∀ {xs : List V} {us : List D} (i : Nat), IsAll K S xs us → IsAll K S (xs.set i v) (us.set i d)
  | _, _, _, .nil => .nil
  | _, _, 0, .cons _ z => .cons r z
  | _, _, i + 1, .cons q t => .cons q (IsAll.set r i t)
theorem IsAll.reverse {xs : List V} {us : List D} (h : IsAll K S xs us) : IsAll K S xs.reverse us.reverse := by
  induction xs generalizing us with
  | nil => cases h; exact .nil
  | cons x xs ih => cases h with
    | cons r t => rw [List.reverse_cons, List.reverse_cons]; exact (ih t).append (.cons r .nil)
end

/-- an object of one's own -/
inductive OD where
  | l (xs : List D) | k (ks : List Key) (ds : List D) | t (ks : List (List Key)) (ds : List D) | i (c : Addr) (ns : List Str) (ds : List D)
def OD.d : OD → D
  | .l xs => .lst xs
  | .k ks ds => .dic ks ds
  | .t ks ds => .dct ks ds
  | .i c ns ds => .obj c ns ds
inductive OIs (K : Fg) (S : Hp) : HO → OD → Prop
  | l {vs ds} : IsAll K S vs ds → OIs K S (.lst vs) (.l ds)
  | k {kvs ks ds} : kvs.map (·.1) = ks → IsAll K S (kvs.map (·.2)) ds → OIs K S (.dK kvs) (.k ks ds)
  | t {kvs ks ds} : kvs.map (·.1) = ks → IsAll K S (kvs.map (·.2)) ds → OIs K S (.dT kvs) (.t ks ds)
  | i {c dx vs ns ds} : vs.map (·.1) = ns → IsAll K S (vs.map (·.2)) ds → OIs K S (.ins c dx vs) (.i c ns ds)
theorem OIs.mono {K : Fg} {S S' : Hp} {o od} (h : OIs K S o od) (e : Same S S') : OIs K S' o od := by
  cases h with
  | l h => exact .l (h.mono e)
  | k hn h => exact .k hn (h.mono e)
  | t hn h => exact .t hn (h.mono e)
  | i hn h => exact .i hn (h.mono e)
theorem OIs.notX {K : Fg} {S : Hp} {o od} (h : OIs K S o od) : (∀ ps, o ≠ .tbl ps) ∧ ∀ c q, o ≠ LamX.CodeO c q := by
  cases h <;> exact ⟨(fun _ z => by cases z), (fun _ _ z => by unfold LamX.CodeO at z; cases z)⟩
def TupO (o : HO) : Prop := ∃ xs, o = .tup xs
theorem OIs.nt {K : Fg} {S : Hp} {o od} (h : OIs K S o od) : ¬ TupO o := by
  cases h <;> exact fun ⟨_, z⟩ => by cases z
/-- the tables of code objects: tracked, and nothing of the data -/
structure TbOk (τ : Tb) (S F H : Hp) : Prop where
  tab : LamX.Tabs τ.t H
  nS : ∀ p ∈ τ.t, S p.1 = none
  nF : ∀ p ∈ τ.t, F p.1 = none
  ks : ∀ a o, τ.gs a = some o → S a = some o
  kf : ∀ a o, τ.gf a = some o → F a = some o
inductive Sl where
  | un | val (d : D) | own (l : Addr) (o : OD)
abbrev Rho := List Sl
/-- the slots σ and the heap H are what ρ says; S: what never changes; F: what others own -/
structure ER (K : Fg) (τ : Tb) (S F H : Hp) (ρ : Rho) (σ : L2.St) : Prop where
  len : ρ.length = σ.length
  ex : Same S H
  fr : ∀ a o, F a = some o → H a = some o ∧ (S a = none ∨ TupO o)
  val : ∀ (i : Nat) (d : D), ρ[i]? = some (Sl.val d) → ∃ v, σ[i]? = some (some v) ∧ Is K S v d
  own : ∀ (i : Nat) (l : Addr) (od : OD), ρ[i]? = some (Sl.own l od) → σ[i]? = some (some (V.ref l)) ∧ S l = none ∧ F l = none ∧ ∃ o, H l = some o ∧ OIs K S o od
  dis : ∀ (i j : Nat) (l : Addr) (o o' : OD), ρ[i]? = some (Sl.own l o) → ρ[j]? = some (Sl.own l o') → i = j
  tb : TbOk τ S F H
theorem TbOk.at {τ : Tb} {S F H : Hp} (t : TbOk τ S F H) {p : Addr × Str} (h : p ∈ τ.t) : ∃ ps, H p.1 = some (.tbl ps) := by
  obtain ⟨ps, h1, -⟩ := t.tab p h; exact ⟨ps, h1⟩
theorem TbOk.new {τ : Tb} {S F H : Hp} {a : Addr} {o : HO} (t : TbOk τ S F H) (ha : H a = none) (sa : S a = none) : TbOk τ (upd S a o) F (upd H a o) := by
  have ne : ∀ p ∈ τ.t, p.1 ≠ a := fun p hp => by obtain ⟨ps, h⟩ := t.at hp; exact ne_of_none h ha
  exact ⟨t.tab.ext fun b u e => by rw [upd_ne (ne_of_none e ha)]; exact e, fun p hp => by rw [upd_ne (ne p hp)]; exact t.nS p hp, t.nF, fun b u e => by rw [upd_ne (ne_of_none (t.ks b u e) sa)]; exact t.ks b u e, t.kf⟩
theorem TbOk.newH {τ : Tb} {S F H : Hp} {a : Addr} {o : HO} (t : TbOk τ S F H) (ha : H a = none) : TbOk τ S F (upd H a o) :=
  ⟨t.tab.ext fun b u e => by rw [upd_ne (ne_of_none e ha)]; exact e, t.nS, t.nF, t.ks, t.kf⟩
theorem TbOk.chg {τ : Tb} {S F H : Hp} {a : Addr} {o o' : HO} (t : TbOk τ S F H) (ha : H a = some o) (n1 : ∀ ps, o ≠ .tbl ps) (n2 : ∀ c q, o ≠ LamX.CodeO c q) : TbOk τ S F (upd H a o') := by
  refine ⟨fun p hp => ?_, t.nS, t.nF, t.ks, t.kf⟩
  obtain ⟨ps, h1, h2, h3⟩ := t.tab p hp
  have ne : p.1 ≠ a := fun z => by rw [z, ha] at h1; exact n1 ps (Option.some.inj h1)
  refine ⟨ps, by rw [upd_ne ne]; exact h1, h2, fun pos cv hc => ?_⟩
  obtain ⟨c, e1, e2⟩ := h3 pos cv hc
  have nc : c ≠ a := fun z => by rw [z, ha] at e2; exact n2 _ _ (Option.some.inj e2)
  exact ⟨c, e1, by rw [upd_ne nc]; exact e2⟩
theorem TbOk.addS {τ : Tb} {S F H : Hp} {a : Addr} {o o' : HO} (t : TbOk τ S F H) (ha : H a = some o) (sa : S a = none) (n1 : ∀ ps, o ≠ .tbl ps) : TbOk τ (upd S a o') F H := by
  refine ⟨t.tab, fun p hp => ?_, t.nF, fun b u e => by rw [upd_ne (ne_of_none (t.ks b u e) sa)]; exact t.ks b u e, t.kf⟩
  obtain ⟨ps, h⟩ := t.at hp
  have ne : p.1 ≠ a := fun z => by rw [z, ha] at h; exact n1 ps (Option.some.inj h)
  rw [upd_ne ne]; exact t.nS p hp
section
variable {K : Fg} {S F H : Hp} {ρ : Rho} {σ : L2.St} {p : Addr} {o : HO}
/-- a new object that never changes -/
theorem TbOk.newF {τ : Tb} {S F H : Hp} {a : Addr} {o : HO} (t : TbOk τ S F H) (ha : H a = none) (fa : F a = none) : TbOk τ S (upd F a o) (upd H a o) := by
  have ne : ∀ p ∈ τ.t, p.1 ≠ a := fun p hp => by obtain ⟨ps, h⟩ := t.at hp; exact ne_of_none h ha
  exact ⟨t.tab.ext fun b u e => by rw [upd_ne (ne_of_none e ha)]; exact e, t.nS, fun p hp => by rw [upd_ne (ne p hp)]; exact t.nF p hp, t.ks, fun b u e => by rw [upd_ne (ne_of_none (t.kf b u e) fa)]; exact t.kf b u e⟩
theorem TbOk.addF {τ : Tb} {S F H : Hp} {a : Addr} {o o' : HO} (t : TbOk τ S F H) (ha : H a = some o) (fa : F a = none) (n1 : ∀ ps, o ≠ .tbl ps) : TbOk τ S (upd F a o') H := by
  refine ⟨t.tab, t.nS, fun p hp => ?_, t.ks, fun b u e => by rw [upd_ne (ne_of_none (t.kf b u e) fa)]; exact t.kf b u e⟩
  obtain ⟨ps, h⟩ := t.at hp
  have ne : p.1 ≠ a := fun z => by rw [z, ha] at h; exact n1 ps (Option.some.inj h)
  rw [upd_ne ne]; exact t.nF p hp
theorem TbOk.free {τ : Tb} {S F H : Hp} {a : Addr} (t : TbOk τ S F H) (fa : F a = none) : τ.gf a = none := by
  cases h : τ.gf a with
  | none => rfl
  | some u => rw [t.kf a u h] at fa; cases fa
theorem TbOk.lessF {τ : Tb} {S F H : Hp} {a : Addr} {o : HO} (t : TbOk τ S (upd F a o) H) (fa : F a = none) (ga : τ.gf a = none) : TbOk τ S F H := by
  refine ⟨t.tab, t.nS, fun p hp => ?_, t.ks, fun b u e => ?_⟩
  · by_cases hb : p.1 = a
    · rw [hb]; exact fa
    · have := t.nF p hp; rw [upd_ne hb] at this; exact this
  · have := t.kf b u e; rw [upd_ne (ne_of_none e ga)] at this; exact this
theorem TbOk.inF {τ : Tb} {S F H : Hp} {a : Addr} {o : HO} (t : TbOk τ S (upd F a o) H) : ∀ p ∈ τ.t, p.1 ≠ a := fun p hp z => by
  have := t.nF p hp; rw [z, upd_same] at this; cases this
theorem ER.new (e : ER K τ S F H ρ σ) (hp : H p = none) : ER K τ (upd S p o) F (upd H p o) ρ σ := by
  have sp : S p = none := by
    cases h : S p with
    | none => rfl
    | some u => rw [e.ex p u h] at hp; cases hp
  have sS : Same S (upd S p o) := fun b u h => by rw [upd_ne (ne_of_none h sp)]; exact h
  refine ⟨e.len, fun b u h => ?_, fun a u h => ?_, fun i d h => ?_, fun i l od h => ?_, e.dis, e.tb.new hp sp⟩
  · by_cases hb : b = p
    · subst hb; rw [upd_same] at h ⊢; exact h
    · rw [upd_ne hb] at h ⊢; exact e.ex b u h
  · obtain ⟨h1, h2⟩ := e.fr a u h
    have ne := ne_of_none h1 hp
    rw [upd_ne ne, upd_ne ne]; exact ⟨h1, h2⟩
  · obtain ⟨v, h1, h2⟩ := e.val i d h
    exact ⟨v, h1, h2.mono sS⟩
  · obtain ⟨h1, h2, h3, ob, h4, h5⟩ := e.own i l od h
    have ne := ne_of_none h4 hp
    rw [upd_ne ne]
    exact ⟨h1, h2, h3, ob, by rw [upd_ne ne]; exact h4, h5.mono sS⟩
theorem ER.sp (e : ER K τ S F H ρ σ) (hp : H p = none) : S p = none := by
  cases h : S p with
  | none => rfl
  | some u => rw [e.ex p u h] at hp; cases hp
theorem ER.fp (e : ER K τ S F H ρ σ) (hp : H p = none) : F p = none := by
  cases h : F p with
  | none => rfl
  | some u => rw [(e.fr p u h).1] at hp; cases hp
theorem ER.sn (e : ER K τ S F H ρ σ) (hp : H p = none) : Same S (upd S p o) := fun b u h => by rw [upd_ne (ne_of_none h (e.sp hp))]; exact h
theorem ER.at (e : ER K τ S F H ρ σ) {a u} (h : S a = some u) : H a = some u := e.ex a u h
/-- an object of one's own changes -/
theorem ER.wr (e : ER K τ S F H ρ σ) {i : Nat} {l : Addr} {od od' : OD} {o' : HO} (h : ρ[i]? = some (Sl.own l od)) (ho : OIs K S o' od') : ER K τ S F (upd H l o') (ρ.set i (.own l od')) σ := by
  obtain ⟨h1, h2, h3, ob, h4, h5⟩ := e.own i l od h
  have hi : i < ρ.length := (List.getElem?_eq_some_iff.mp h).1
  refine ⟨by rw [List.length_set]; exact e.len, fun b u q => ?_, fun a u q => ?_, fun j d q => ?_, fun j m od2 q => ?_, fun j k m o1 o2 q1 q2 => ?_, e.tb.chg h4 h5.notX.1 h5.notX.2⟩
  · rw [upd_ne (ne_of_none q h2)]; exact e.ex b u q
  · obtain ⟨a1, a2⟩ := e.fr a u q
    rw [upd_ne (ne_of_none q h3)]; exact ⟨a1, a2⟩
  · by_cases hj : j = i
    · subst hj; rw [List.getElem?_set_self hi] at q; cases q
    · rw [List.getElem?_set_ne (Ne.symm hj)] at q; exact e.val j d q
  · by_cases hj : j = i
    · subst hj; rw [List.getElem?_set_self hi] at q; cases q
      exact ⟨h1, h2, h3, o', upd_same, ho⟩
    · rw [List.getElem?_set_ne (Ne.symm hj)] at q
      obtain ⟨a1, a2, a3, ob2, a4, a5⟩ := e.own j m od2 q
      have ne : m ≠ l := fun z => by subst z; exact hj (e.dis _ _ _ _ _ q h)
      exact ⟨a1, a2, a3, ob2, by rw [upd_ne ne]; exact a4, a5⟩
  · have back : ∀ {k : Nat} {o1 : OD}, (ρ.set i (.own l od'))[k]? = some (Sl.own m o1) → ∃ o3, ρ[k]? = some (Sl.own m o3) := fun {k o1} q => by
      by_cases hk : k = i
      · subst hk; rw [List.getElem?_set_self hi] at q; cases q; exact ⟨od, h⟩
      · rw [List.getElem?_set_ne (Ne.symm hk)] at q; exact ⟨o1, q⟩
    obtain ⟨o3, q3⟩ := back q1
    obtain ⟨o4, q4⟩ := back q2
    exact e.dis _ _ _ _ _ q3 q4
/-- an object of one's own is no longer changed -/
theorem ER.frz (e : ER K τ S F H ρ σ) {i : Nat} {l : Addr} {od : OD} (h : ρ[i]? = some (Sl.own l od)) : ∃ S', Same S S' ∧ ER K τ S' F H (ρ.set i (.val od.d)) σ ∧ Is K S' (.ref l) od.d := by
  obtain ⟨h1, h2, h3, ob, h4, h5⟩ := e.own i l od h
  have hi : i < ρ.length := (List.getElem?_eq_some_iff.mp h).1
  have sS : Same S (upd S l ob) := fun b u q => by rw [upd_ne (ne_of_none q h2)]; exact q
  have hv : Is K (upd S l ob) (.ref l) od.d := by
    cases h5 with
    | l r => exact .lst upd_same (r.mono sS)
    | k hn r => exact .dic upd_same hn (r.mono sS)
    | t hn r => exact .dct upd_same hn (r.mono sS)
    | i hn r => exact .obj upd_same hn (r.mono sS)
  refine ⟨upd S l ob, sS, ⟨by rw [List.length_set]; exact e.len, fun b u q => ?_, fun a u q => ?_, fun j d q => ?_, fun j m od2 q => ?_, fun j k m o1 o2 q1 q2 => ?_, e.tb.addS h4 h2 h5.notX.1⟩, hv⟩
  · by_cases hb : b = l
    · subst hb; rw [upd_same] at q; cases q; exact h4
    · rw [upd_ne hb] at q; exact e.ex b u q
  · obtain ⟨a1, a2⟩ := e.fr a u q
    rw [upd_ne (ne_of_none q h3)]; exact ⟨a1, a2⟩
  · by_cases hj : j = i
    · subst hj; rw [List.getElem?_set_self hi] at q; cases q
      exact ⟨_, h1, hv⟩
    · rw [List.getElem?_set_ne (Ne.symm hj)] at q
      obtain ⟨v, a1, a2⟩ := e.val j d q
      exact ⟨v, a1, a2.mono sS⟩
  · by_cases hj : j = i
    · subst hj; rw [List.getElem?_set_self hi] at q; cases q
    · rw [List.getElem?_set_ne (Ne.symm hj)] at q
      obtain ⟨a1, a2, a3, ob2, a4, a5⟩ := e.own j m od2 q
      have ne : m ≠ l := fun z => by subst z; exact hj (e.dis _ _ _ _ _ q h)
      exact ⟨a1, by rw [upd_ne ne]; exact a2, a3, ob2, a4, a5.mono sS⟩
  · have back : ∀ {k : Nat} {o1 : OD}, (ρ.set i (.val od.d))[k]? = some (Sl.own m o1) → ρ[k]? = some (Sl.own m o1) := fun {k o1} q => by
      by_cases hk : k = i
      · subst hk; rw [List.getElem?_set_self hi] at q; cases q
      · rw [List.getElem?_set_ne (Ne.symm hk)] at q; exact q
    exact e.dis _ _ _ _ _ (back q1) (back q2)
/-- a slot gets a value -/
theorem ER.set (e : ER K τ S F H ρ σ) {i : Nat} {v : V} {d : D} (hv : Is K S v d) : ER K τ S F H (ρ.set i (.val d)) (σ.set i (some v)) := by
  refine ⟨by rw [List.length_set, List.length_set]; exact e.len, e.ex, e.fr, fun j d' q => ?_, fun j m od2 q => ?_, fun j k m o1 o2 q1 q2 => ?_, e.tb⟩
  · by_cases hj : j = i
    · subst hj
      have hi : j < ρ.length := by
        have := (List.getElem?_eq_some_iff.mp q).1
        rwa [List.length_set] at this
      rw [List.getElem?_set_self hi] at q; cases q
      exact ⟨v, by rw [List.getElem?_set_self (by rw [← e.len]; exact hi)], hv⟩
    · rw [List.getElem?_set_ne (Ne.symm hj)] at q ⊢; exact e.val j d' q
  · by_cases hj : j = i
    · subst hj
      have hi : j < ρ.length := by
        have := (List.getElem?_eq_some_iff.mp q).1
        rwa [List.length_set] at this
      rw [List.getElem?_set_self hi] at q; cases q
    · rw [List.getElem?_set_ne (Ne.symm hj)] at q ⊢; exact e.own j m od2 q
  · have back : ∀ {k : Nat} {o1 : OD}, (ρ.set i (.val d))[k]? = some (Sl.own m o1) → ρ[k]? = some (Sl.own m o1) := fun {k o1} q => by
      by_cases hk : k = i
      · subst hk
        have hi : k < ρ.length := by
          have := (List.getElem?_eq_some_iff.mp q).1
          rwa [List.length_set] at this
        rw [List.getElem?_set_self hi] at q; cases q
      · rw [List.getElem?_set_ne (Ne.symm hk)] at q; exact q
    exact e.dis _ _ _ _ _ (back q1) (back q2)
/-- a slot gets a new object of one's own -/
theorem ER.setOwn (e : ER K τ S F H ρ σ) {i : Nat} {l : Addr} {o : HO} {od : OD} (h1 : H l = some o) (h2 : S l = none) (h3 : F l = none) (h4 : OIs K S o od) (h5 : ∀ (j : Nat) (od' : OD), ρ[j]? ≠ some (Sl.own l od')) : ER K τ S F H (ρ.set i (.own l od)) (σ.set i (some (.ref l))) := by
  refine ⟨by rw [List.length_set, List.length_set]; exact e.len, e.ex, e.fr, fun j d' q => ?_, fun j m od2 q => ?_, fun j k m o1 o2 q1 q2 => ?_, e.tb⟩
  · by_cases hj : j = i
    · subst hj
      have hi : j < ρ.length := by
        have := (List.getElem?_eq_some_iff.mp q).1
        rwa [List.length_set] at this
      rw [List.getElem?_set_self hi] at q; cases q
    · rw [List.getElem?_set_ne (Ne.symm hj)] at q ⊢; exact e.val j d' q
  · by_cases hj : j = i
    · subst hj
      have hi : j < ρ.length := by
        have := (List.getElem?_eq_some_iff.mp q).1
        rwa [List.length_set] at this
      rw [List.getElem?_set_self hi] at q; cases q
      exact ⟨by rw [List.getElem?_set_self (by rw [← e.len]; exact hi)], h2, h3, o, h1, h4⟩
    · rw [List.getElem?_set_ne (Ne.symm hj)] at q ⊢; exact e.own j m od2 q
  · have back : ∀ {k : Nat} {o1 : OD}, (ρ.set i (.own l od))[k]? = some (Sl.own m o1) → (k = i ∧ m = l) ∨ (k ≠ i ∧ ρ[k]? = some (Sl.own m o1)) := fun {k o1} q => by
      by_cases hk : k = i
      · subst hk
        have hi : k < ρ.length := by
          have := (List.getElem?_eq_some_iff.mp q).1
          rwa [List.length_set] at this
        rw [List.getElem?_set_self hi] at q; cases q; exact .inl ⟨rfl, rfl⟩
      · rw [List.getElem?_set_ne (Ne.symm hk)] at q; exact .inr ⟨hk, q⟩
    rcases back q1 with ⟨a1, a2⟩ | ⟨a1, a2⟩ <;> rcases back q2 with ⟨b1, b2⟩ | ⟨b1, b2⟩
    · exact a1.trans b1.symm
    · rw [a2] at b2; exact absurd b2 (h5 _ _)
    · rw [b2] at a2; exact absurd a2 (h5 _ _)
    · exact e.dis _ _ _ _ _ a2 b2
end

/-! ### what a reading means for data -/
abbrev XC := Addr → Str → D → Rho → Prop
abbrev WE := Rho → XC → (D → Rho → Prop) → Prop
abbrev WT := Rho → XC → (Bool → Rho → Prop) → Prop
abbrev WL := Rho → XC → (List D → Rho → Prop) → Prop
structure DE where
  nx : Rho → Prop
  rt : D → Rho → Prop
  bk : Rho → Prop
  ct : Rho → Prop
  xc : XC
  ro : Addr → OD → Rho → Prop := fun _ _ _ => False
abbrev WS := Rho → DE → Prop
def XOk (K : Fg) (τ : Tb) (F : Hp) (W : WX) (S : Hp) (χ : XC) : Prop := ∀ C f d v dd ρ' S' σ' H', χ C f d ρ' → Same S S' → ER K τ S' F H' ρ' σ' → S' dd = some (.xd [(f, v)]) → Is K S' v d → W (.ref C) (some dd) σ' H'
theorem XOk.mono {K : Fg} {F : Hp} {W : WX} {S S1 : Hp} {χ : XC} (h : XOk K τ F W S χ) (e : Same S S1) : XOk K τ F W S1 χ := fun C f d v dd ρ' S' σ' H' a b c d' e' => h C f d v dd ρ' S' σ' H' a (e.trans b) c d' e'
abbrev W0 : WX := fun _ _ _ _ => False
abbrev χ0 : XC := fun _ _ _ _ => False
theorem XOk.none {K : Fg} {F : Hp} {W : WX} {S : Hp} : XOk K τ F W S χ0 := fun _ _ _ _ _ _ _ _ _ h => h.elim

def lE (K : Fg) (τ : Tb) (W : WX) (w : WE) : TE := fun σ H Q => ∃ ρ S F χ Φ, ER K τ S F H ρ σ ∧ w ρ χ Φ ∧ XOk K τ F W S χ ∧ ∀ v d ρ' S' H', Φ d ρ' → Same S S' → Is K S' v d → ER K τ S' F H' ρ' σ → Q v H'
def lT (K : Fg) (τ : Tb) (W : WX) (w : WT) : TT := fun σ H Q => ∃ ρ S F χ Φ, ER K τ S F H ρ σ ∧ w ρ χ Φ ∧ XOk K τ F W S χ ∧ ∀ b ρ' S' H', Φ b ρ' → Same S S' → ER K τ S' F H' ρ' σ → Q b H'
def lL (K : Fg) (τ : Tb) (W : WX) (w : WL) : TA := fun σ H Q => ∃ ρ S F χ Φ, ER K τ S F H ρ σ ∧ w ρ χ Φ ∧ XOk K τ F W S χ ∧ ∀ vs ds ρ' S' H', Φ ds ρ' → Same S S' → IsAll K S' vs ds → ER K τ S' F H' ρ' σ → Q vs H'
def lS (K : Fg) (τ : Tb) (W : WX) (w : WS) : TS := fun D σ H => ∃ ρ S F Δ, ER K τ S F H ρ σ ∧ w ρ Δ ∧ XOk K τ F W S Δ.xc ∧
  (∀ ρ' S' σ' H', Δ.nx ρ' → Same S S' → ER K τ S' F H' ρ' σ' → D.nx σ' H') ∧
  (∀ d v ρ' S' σ' H', Δ.rt d ρ' → Same S S' → Is K S' v d → ER K τ S' F H' ρ' σ' → D.rt v H') ∧
  (∀ ρ' S' σ' H', Δ.bk ρ' → Same S S' → ER K τ S' F H' ρ' σ' → D.bk σ' H') ∧
  (∀ ρ' S' σ' H', Δ.ct ρ' → Same S S' → ER K τ S' F H' ρ' σ' → D.ct σ' H') ∧
  (∀ l od o ρ' S' σ' H', Δ.ro l od ρ' → Same S S' → H' l = some o → OIs K S' o od → S' l = none → F l = none → ER K τ S' F H' ρ' σ' → D.rt (.ref l) H')

theorem PE.imp {X : Cx} {e : Expr} {t t' : TE} (h : PE X e t) (m : ∀ σ H Q, t' σ H Q → t σ H Q) : PE X e t' := ⟨fun pins s σ H Q I q => h.run pins s σ H Q I (m σ H Q q)⟩
theorem PT.imp {X : Cx} {e : Expr} {t t' : TT} (h : PT X e t) (m : ∀ σ H Q, t' σ H Q → t σ H Q) : PT X e t' := ⟨fun pins s σ H Q I q => h.run pins s σ H Q I (m σ H Q q)⟩
theorem PW.imp {X : Cx} {e : Expr} {t t' : TT} (h : PW X e t) (m : ∀ σ H Q, t' σ H Q → t σ H Q) : PW X e t' := ⟨fun wh pins s σ H Q I q => h.run wh pins s σ H Q I (m σ H Q q)⟩
theorem PA.imp {X : Cx} {es : List Expr} {t t' : TA} (h : PA X es t) (m : ∀ σ H Q, t' σ H Q → t σ H Q) : PA X es t' := ⟨fun pos pins s σ H Q I q => h.run pos pins s σ H Q I (m σ H Q q)⟩
theorem PS.imp {X : Cx} {st : Stmt} {t t' : TS} (h : PS X st t) (m : ∀ D σ H, t' D σ H → t D σ H) : PS X st t' := ⟨fun pins s σ H D I q => h.run pins s σ H D I (m D σ H q)⟩
theorem PSs.imp {X : Cx} {st : List Stmt} {t t' : TS} (h : PSs X st t) (m : ∀ D σ H, t' D σ H → t D σ H) : PSs X st t' := ⟨fun pins s σ H D I q => h.run pins s σ H D I (m D σ H q)⟩
end DL
set_option Elab.async false
set_option autoImplicit false
set_option linter.all false
set_option maxRecDepth 100000
set_option maxHeartbeats 3900000
namespace DL
open L2 PyProof.Rows PySem PySem.Spec
variable {τ : Tb}

/-! ### operators on data -/
def OpOk (K : Fg) (τ : Tb) (r : R2) (wr : D → D → (D → Prop) → Prop) : Prop := ∀ (S F H : Hp) (ρ : Rho) (σ : L2.St) (x y : V) (dx dy : D) (Φ : D → Prop) (Q : VK), ER K τ S F H ρ σ → Is K S x dx → Is K S y dy → wr dx dy Φ →
  (∀ v d S' H', Φ d → Same S S' → Is K S' v d → ER K τ S' F H' ρ σ → Q v H') → r x y H Q
def UnOk (K : Fg) (τ : Tb) (r : V → Hp → VK → Prop) (wr : D → (D → Prop) → Prop) : Prop := ∀ (S F H : Hp) (ρ : Rho) (σ : L2.St) (x : V) (dx : D) (Φ : D → Prop) (Q : VK), ER K τ S F H ρ σ → Is K S x dx → wr dx Φ →
  (∀ v d S' H', Φ d → Same S S' → Is K S' v d → ER K τ S' F H' ρ σ → Q v H') → r x H Q
def CallOk (K : Fg) (τ : Tb) (r : List V → Hp → VK → Prop) (wr : List D → (D → Prop) → Prop) : Prop := ∀ (S F H : Hp) (ρ : Rho) (σ : L2.St) (xs : List V) (ds : List D) (Φ : D → Prop) (Q : VK), ER K τ S F H ρ σ → IsAll K S xs ds → wr ds Φ →
  (∀ v d S' H', Φ d → Same S S' → Is K S' v d → ER K τ S' F H' ρ σ → Q v H') → r xs H Q
theorem OpOk.or {K : Fg} {r r' : R2} {w w' : D → D → (D → Prop) → Prop} (h : OpOk K τ r w) (h' : OpOk K τ r' w') : OpOk K τ (fun x y H Q => r x y H Q ∨ r' x y H Q) (fun x y Φ => w x y Φ ∨ w' x y Φ) :=
  fun S F H ρ σ x y dx dy Φ Q e ix iy hw hp => hw.elim (fun z => .inl (h S F H ρ σ x y dx dy Φ Q e ix iy z hp)) fun z => .inr (h' S F H ρ σ x y dx dy Φ Q e ix iy z hp)
theorem OpOk.imp {K : Fg} {r : R2} {w w' : D → D → (D → Prop) → Prop} (h : OpOk K τ r w) (m : ∀ x y Φ, w' x y Φ → w x y Φ) : OpOk K τ r w' :=
  fun S F H ρ σ x y dx dy Φ Q e ix iy hw hp => h S F H ρ σ x y dx dy Φ Q e ix iy (m _ _ _ hw) hp

def wOp (wr : D → D → (D → Prop) → Prop) (wa wb : WE) : WE := fun ρ χ Φ => wa ρ χ fun x ρ1 => wb ρ1 χ fun y ρ2 => wr x y fun z => Φ z ρ2
def wUn (wr : D → (D → Prop) → Prop) (wa : WE) : WE := fun ρ χ Φ => wa ρ χ fun x ρ1 => wr x fun z => Φ z ρ1
def wCB (wr : List D → (D → Prop) → Prop) (wa : WL) : WE := fun ρ χ Φ => wa ρ χ fun xs ρ1 => wr xs fun z => Φ z ρ1
def wC (d : D) : WE := fun ρ _ Φ => Φ d ρ
def wVar (i : Nat) : WE := fun ρ _ Φ => match ρ[i]? with
  | some (.val d) => Φ d ρ
  | some (.own _ o) => Φ o.d (ρ.set i (.val o.d))
  | _ => False

section
variable {K : Fg} {W : WX} {wa wb wc : WE} {σ : L2.St} {H : Hp} {Q : VK}
theorem l_op {r : R2} {wr : D → D → (D → Prop) → Prop} (hr : OpOk K τ r wr) : ∀ σ H Q, lE K τ W (wOp wr wa wb) σ H Q → tOp r (lE K τ W wa) (lE K τ W wb) σ H Q := by
  rintro σ H Q ⟨ρ, S, F, χ, Φ, e, hw, hx, hp⟩
  refine ⟨ρ, S, F, χ, _, e, hw, hx, fun x dx ρ1 S1 H1 h1 s1 i1 e1 => ?_⟩
  refine ⟨ρ1, S1, F, χ, _, e1, h1, hx.mono s1, fun y dy ρ2 S2 H2 h2 s2 i2 e2 => ?_⟩
  exact hr S2 F H2 ρ2 σ x y dx dy _ Q e2 (i1.mono s2) i2 h2 fun v d S3 H3 h3 s3 i3 e3 => hp v d ρ2 S3 H3 h3 ((s1.trans s2).trans s3) i3 e3
theorem l_un {r : V → Hp → VK → Prop} {wr : D → (D → Prop) → Prop} (hr : UnOk K τ r wr) : ∀ σ H Q, lE K τ W (wUn wr wa) σ H Q → tUn r (lE K τ W wa) σ H Q := by
  rintro σ H Q ⟨ρ, S, F, χ, Φ, e, hw, hx, hp⟩
  refine ⟨ρ, S, F, χ, _, e, hw, hx, fun x dx ρ1 S1 H1 h1 s1 i1 e1 => ?_⟩
  exact hr S1 F H1 ρ1 σ x dx _ Q e1 i1 h1 fun v d S3 H3 h3 s3 i3 e3 => hp v d ρ1 S3 H3 h3 (s1.trans s3) i3 e3
theorem l_cb {r : List V → Hp → VK → Prop} {wr : List D → (D → Prop) → Prop} {wl : WL} (hr : CallOk K τ r wr) : ∀ σ H Q, lE K τ W (wCB wr wl) σ H Q → tCB r (lL K τ W wl) σ H Q := by
  rintro σ H Q ⟨ρ, S, F, χ, Φ, e, hw, hx, hp⟩
  refine ⟨ρ, S, F, χ, _, e, hw, hx, fun xs ds ρ1 S1 H1 h1 s1 i1 e1 => ?_⟩
  exact hr S1 F H1 ρ1 σ xs ds _ Q e1 i1 h1 fun v d S3 H3 h3 s3 i3 e3 => hp v d ρ1 S3 H3 h3 (s1.trans s3) i3 e3
theorem l_c {v : V} {d : D} (hd : ∀ S, Is K S v d) : ∀ σ H Q, lE K τ W (wC d) σ H Q → tC v σ H Q := by
  rintro σ H Q ⟨ρ, S, F, χ, Φ, e, hw, hx, hp⟩
  exact hp v d ρ S H hw (Same.refl S) (hd S) e
theorem l_var {i : Nat} : ∀ σ H Q, lE K τ W (wVar i) σ H Q → tVar i σ H Q := by
  rintro σ H Q ⟨ρ, S, F, χ, Φ, e, hw, hx, hp⟩
  unfold wVar at hw
  split at hw
  · rename_i d hd
    obtain ⟨v, h1, h2⟩ := e.val i d hd
    exact ⟨v, h1, hp v d ρ S H hw (Same.refl S) h2 e⟩
  · rename_i l o hd
    obtain ⟨S', s', e', iv⟩ := e.frz hd
    exact ⟨_, (e.own i l o hd).1, hp _ _ _ S' H hw s' iv e'⟩
  · exact hw.elim
end

/-! ### lists of data -/
def wNil : WL := fun ρ _ Φ => Φ [] ρ
def wCons (wa : WE) (wr : WL) : WL := fun ρ χ Φ => wa ρ χ fun x ρ1 => wr ρ1 χ fun xs ρ2 => Φ (x :: xs) ρ2
section
variable {K : Fg} {W : WX} {wa wb wc : WE} {wl wm : WL} {σ : L2.St} {H : Hp} {Q : VK}
theorem l_nil : ∀ σ H Q, lL K τ W wNil σ H Q → tNil σ H Q := by
  rintro σ H Q ⟨ρ, S, F, χ, Φ, e, hw, hx, hp⟩
  exact hp [] [] ρ S H hw (Same.refl S) .nil e
theorem l_cons : ∀ σ H Q, lL K τ W (wCons wa wl) σ H Q → tCons (lE K τ W wa) (lL K τ W wl) σ H Q := by
  rintro σ H Q ⟨ρ, S, F, χ, Φ, e, hw, hx, hp⟩
  refine ⟨ρ, S, F, χ, _, e, hw, hx, fun x dx ρ1 S1 H1 h1 s1 i1 e1 => ?_⟩
  refine ⟨ρ1, S1, F, χ, _, e1, h1, hx.mono s1, fun ys dys ρ2 S2 H2 h2 s2 i2 e2 => ?_⟩
  exact hp (x :: ys) (dx :: dys) ρ2 S2 H2 h2 (s1.trans s2) (.cons (i1.mono s2) i2) e2
def wTup (wl : WL) : WE := fun ρ χ Φ => wl ρ χ fun xs ρ1 => xs.length ≤ sizeLine ∧ Φ (.tup xs) ρ1
def wLst (wl : WL) : WE := fun ρ χ Φ => wl ρ χ fun xs ρ1 => xs.length ≤ sizeLine ∧ Φ (.lst xs) ρ1
theorem l_tup : ∀ σ H Q, lE K τ W (wTup wl) σ H Q → tTup (lL K τ W wl) σ H Q := by
  rintro σ H Q ⟨ρ, S, F, χ, Φ, e, hw, hx, hp⟩
  refine ⟨ρ, S, F, χ, _, e, hw, hx, fun xs ds ρ1 S1 H1 h1 s1 i1 e1 => ⟨by rw [i1.length]; exact h1.1, fun p hp1 => ?_⟩⟩
  exact hp _ _ ρ1 _ _ h1.2 (s1.trans (e1.sn hp1)) (.tup upd_same (i1.mono (e1.sn hp1))) (e1.new hp1)
theorem l_lst : ∀ σ H Q, lE K τ W (wLst wl) σ H Q → tLst (lL K τ W wl) σ H Q := by
  rintro σ H Q ⟨ρ, S, F, χ, Φ, e, hw, hx, hp⟩
  refine ⟨ρ, S, F, χ, _, e, hw, hx, fun xs ds ρ1 S1 H1 h1 s1 i1 e1 => ⟨by rw [i1.length]; exact h1.1, fun p hp1 => ?_⟩⟩
  exact hp _ _ ρ1 _ _ h1.2 (s1.trans (e1.sn hp1)) (.lst upd_same (i1.mono (e1.sn hp1))) (e1.new hp1)
end

/-! ### tests -/
def wB (wa : WE) : WT := fun ρ χ Φ => wa ρ χ fun x ρ1 => match x with
  | .bl b => Φ b ρ1
  | _ => False
def wAnd (wa wb : WT) : WT := fun ρ χ Φ => wa ρ χ fun b ρ1 => if b = true then wb ρ1 χ Φ else Φ false ρ1
def wOr (wa wb : WT) : WT := fun ρ χ Φ => wa ρ χ fun b ρ1 => if b = true then Φ true ρ1 else wb ρ1 χ Φ
def wNot (wa : WT) : WT := fun ρ χ Φ => wa ρ χ fun b ρ1 => Φ (!b) ρ1
def wAndV (wa wb : WE) : WE := fun ρ χ Φ => wa ρ χ fun x ρ1 => match x with
  | .bl b => if b = true then wb ρ1 χ Φ else Φ (.bl false) ρ1
  | _ => False
def wOrV (wa wb : WE) : WE := fun ρ χ Φ => wa ρ χ fun x ρ1 => match x with
  | .bl b => if b = true then Φ (.bl true) ρ1 else wb ρ1 χ Φ
  | _ => False
def wNotV (wa : WE) : WE := fun ρ χ Φ => wa ρ χ fun x ρ1 => match x with
  | .bl b => Φ (.bl (!b)) ρ1
  | _ => False
def wIf (wt : WT) (wa wb : WE) : WE := fun ρ χ Φ => wt ρ χ fun b ρ1 => if b = true then wa ρ1 χ Φ else wb ρ1 χ Φ
def wChain (wr wr' : D → D → (D → Prop) → Prop) (wa wb wc : WE) : WE := fun ρ χ Φ => wa ρ χ fun x ρ1 => wb ρ1 χ fun y ρ2 => wr x y fun z => match z with
  | .bl b => if b = true then wc ρ2 χ fun u ρ3 => wr' y u fun z' => Φ z' ρ3 else Φ (.bl false) ρ2
  | _ => False
section
variable {K : Fg} {W : WX} {wa wb wc : WE} {wt wu : WT} {σ : L2.St} {H : Hp} {Q : VK}
theorem l_B : ∀ σ H Q, lT K τ W (wB wa) σ H Q → tB (lE K τ W wa) σ H Q := by
  rintro σ H Q ⟨ρ, S, F, χ, Φ, e, hw, hx, hp⟩
  refine ⟨ρ, S, F, χ, _, e, hw, hx, fun x dx ρ1 S1 H1 h1 s1 i1 e1 => ?_⟩
  cases dx with
  | bl b => cases i1; exact ⟨b, rfl, hp b ρ1 S1 H1 h1 s1 e1⟩
  | _ => exact False.elim h1
theorem l_test : ∀ σ H Q, lT K τ W (wB wa) σ H Q → tTest (lE K τ W wa) σ H Q := l_B
theorem l_and : ∀ σ H Q, lT K τ W (wAnd wt wu) σ H Q → tAnd (lT K τ W wt) (lT K τ W wu) σ H Q := by
  rintro σ H Q ⟨ρ, S, F, χ, Φ, e, hw, hx, hp⟩
  refine ⟨ρ, S, F, χ, _, e, hw, hx, fun b ρ1 S1 H1 h1 s1 e1 => ?_⟩
  cases b with
  | true => exact ⟨ρ1, S1, F, χ, _, e1, h1, hx.mono s1, fun b ρ2 S2 H2 h2 s2 e2 => hp b ρ2 S2 H2 h2 (s1.trans s2) e2⟩
  | false => exact hp false ρ1 S1 H1 h1 s1 e1
theorem l_or : ∀ σ H Q, lT K τ W (wOr wt wu) σ H Q → tOr (lT K τ W wt) (lT K τ W wu) σ H Q := by
  rintro σ H Q ⟨ρ, S, F, χ, Φ, e, hw, hx, hp⟩
  refine ⟨ρ, S, F, χ, _, e, hw, hx, fun b ρ1 S1 H1 h1 s1 e1 => ?_⟩
  cases b with
  | false => exact ⟨ρ1, S1, F, χ, _, e1, h1, hx.mono s1, fun b ρ2 S2 H2 h2 s2 e2 => hp b ρ2 S2 H2 h2 (s1.trans s2) e2⟩
  | true => exact hp true ρ1 S1 H1 h1 s1 e1
theorem l_not : ∀ σ H Q, lT K τ W (wNot wt) σ H Q → tNot (lT K τ W wt) σ H Q := by
  rintro σ H Q ⟨ρ, S, F, χ, Φ, e, hw, hx, hp⟩
  exact ⟨ρ, S, F, χ, _, e, hw, hx, fun b ρ1 S1 H1 h1 s1 e1 => hp (!b) ρ1 S1 H1 h1 s1 e1⟩
theorem l_andV : ∀ σ H Q, lE K τ W (wAndV wa wb) σ H Q → tAndV (lE K τ W wa) (lE K τ W wb) σ H Q := by
  rintro σ H Q ⟨ρ, S, F, χ, Φ, e, hw, hx, hp⟩
  refine ⟨ρ, S, F, χ, _, e, hw, hx, fun x dx ρ1 S1 H1 h1 s1 i1 e1 => ?_⟩
  cases dx with
  | bl b =>
    cases i1
    refine ⟨b, rfl, ?_⟩
    cases b with
    | true => exact ⟨ρ1, S1, F, χ, _, e1, h1, hx.mono s1, fun v d ρ2 S2 H2 h2 s2 i2 e2 => hp v d ρ2 S2 H2 h2 (s1.trans s2) i2 e2⟩
    | false => exact hp _ _ ρ1 S1 H1 h1 s1 (.bl false) e1
  | _ => exact False.elim h1
theorem l_orV : ∀ σ H Q, lE K τ W (wOrV wa wb) σ H Q → tOrV (lE K τ W wa) (lE K τ W wb) σ H Q := by
  rintro σ H Q ⟨ρ, S, F, χ, Φ, e, hw, hx, hp⟩
  refine ⟨ρ, S, F, χ, _, e, hw, hx, fun x dx ρ1 S1 H1 h1 s1 i1 e1 => ?_⟩
  cases dx with
  | bl b =>
    cases i1
    refine ⟨b, rfl, ?_⟩
    cases b with
    | false => exact ⟨ρ1, S1, F, χ, _, e1, h1, hx.mono s1, fun v d ρ2 S2 H2 h2 s2 i2 e2 => hp v d ρ2 S2 H2 h2 (s1.trans s2) i2 e2⟩
    | true => exact hp _ _ ρ1 S1 H1 h1 s1 (.bl true) e1
  | _ => exact False.elim h1
theorem l_notV : ∀ σ H Q, lE K τ W (wNotV wa) σ H Q → tNotV (lE K τ W wa) σ H Q := by
  rintro σ H Q ⟨ρ, S, F, χ, Φ, e, hw, hx, hp⟩
  refine ⟨ρ, S, F, χ, _, e, hw, hx, fun x dx ρ1 S1 H1 h1 s1 i1 e1 => ?_⟩
  cases dx with
  | bl b => cases i1; exact ⟨b, rfl, hp _ _ ρ1 S1 H1 h1 s1 (.bl _) e1⟩
  | _ => exact False.elim h1
theorem l_if : ∀ σ H Q, lE K τ W (wIf wt wa wb) σ H Q → tIf (lT K τ W wt) (lE K τ W wa) (lE K τ W wb) σ H Q := by
  rintro σ H Q ⟨ρ, S, F, χ, Φ, e, hw, hx, hp⟩
  refine ⟨ρ, S, F, χ, _, e, hw, hx, fun b ρ1 S1 H1 h1 s1 e1 => ?_⟩
  cases b with
  | true => exact ⟨ρ1, S1, F, χ, _, e1, h1, hx.mono s1, fun v d ρ2 S2 H2 h2 s2 i2 e2 => hp v d ρ2 S2 H2 h2 (s1.trans s2) i2 e2⟩
  | false => exact ⟨ρ1, S1, F, χ, _, e1, h1, hx.mono s1, fun v d ρ2 S2 H2 h2 s2 i2 e2 => hp v d ρ2 S2 H2 h2 (s1.trans s2) i2 e2⟩
theorem l_chain {r r' : R2} {wr wr' : D → D → (D → Prop) → Prop} (hr : OpOk K τ r wr) (hr' : OpOk K τ r' wr') : ∀ σ H Q, lE K τ W (wChain wr wr' wa wb wc) σ H Q → tChain r r' (lE K τ W wa) (lE K τ W wb) (lE K τ W wc) σ H Q := by
  rintro σ H Q ⟨ρ, S, F, χ, Φ, e, hw, hx, hp⟩
  refine ⟨ρ, S, F, χ, _, e, hw, hx, fun x dx ρ1 S1 H1 h1 s1 i1 e1 => ?_⟩
  refine ⟨ρ1, S1, F, χ, _, e1, h1, hx.mono s1, fun y dy ρ2 S2 H2 h2 s2 i2 e2 => ?_⟩
  refine hr S2 F H2 ρ2 σ x y dx dy _ _ e2 (i1.mono s2) i2 h2 fun v d S3 H3 h3 s3 i3 e3 => ?_
  cases d with
  | bl b =>
    cases i3
    refine ⟨b, rfl, ?_⟩
    cases b with
    | true =>
      refine ⟨ρ2, S3, F, χ, _, e3, h3, hx.mono ((s1.trans s2).trans s3), fun u du ρ4 S4 H4 h4 s4 i4 e4 => ?_⟩
      exact hr' S4 F H4 ρ4 σ y u dy du _ Q e4 (i2.mono (s3.trans s4)) i4 h4 fun v d S5 H5 h5 s5 i5 e5 => hp v d ρ4 S5 H5 h5 ((((s1.trans s2).trans s3).trans s4).trans s5) i5 e5
    | false => exact hp _ _ ρ2 S3 H3 h3 ((s1.trans s2).trans s3) (.bl false) e3
  | _ => exact False.elim h3
end
end DL
set_option Elab.async false
set_option autoImplicit false
set_option linter.all false
set_option maxRecDepth 100000
set_option maxHeartbeats 3900000
namespace DL
open L2 PyProof.Rows PySem PySem.Spec
variable {τ : Tb}

/-! ### where code runs: what it may raise, how much room there is, no text is being made around it -/
structure Cok (X : Cx) (W : WX) (k : Nat) : Prop where
  tk : Takes X W
  gd : X.A.guards = some []
  rm : Room k X.A
theorem Cok.mono {X : Cx} {W : WX} {j k : Nat} (c : Cok X W k) (h : j ≤ k) : Cok X W j := ⟨c.tk, c.gd, c.rm.mono h⟩
theorem Cok.hu {X : Cx} {W : WX} {k : Nat} (c : Cok X W k) : X.A.units + 1 < cLine := hu_of c.rm
theorem takesB {X : Cx} {s : Shared} {H : Hp} {scope : Scope} {cenv : Env} {fp : List Addr} : Takes (X.blk s H scope cenv fp) W0 := fun _ _ x => by
  rcases x with ⟨_, _, _, _, _, _, _, _, _, _, _, _, _, _, _, _, z⟩; exact absurd z id
theorem Cok.blk {X : Cx} {W : WX} {k : Nat} (c : Cok X W k) (s : Shared) (H : Hp) (scope : Scope) (cenv : Env) (fp : List Addr) : Cok (X.blk s H scope cenv fp) W0 k := ⟨takesB, c.gd, c.rm⟩

/-! ### a def's promise -/
structure FnG (P : Program) (w : World) (K : Fg) (mg : Str → Option Value) (base : Heap) (k : Nat) (f : Addr) (fd : FuncData) (ps : List Str) (sp : Sp) : Prop where
  len : ∀ (vs : List V) (H : Hp) (Q : VK) (E : XK), sp vs H Q E → vs.length = ps.length
  run : ∀ (A : Around) (outer : List Env) (s : Shared) (H : Hp) (args : Args) (us : List Value) (vs : List V) (Q : VK) (E : XK), Room k A → A.guards = some [] → Env0 P w K mg base A outer s H → BindsTo s fd args (ps.zip us) → Vals vs us → sp vs H Q E →
    codeAny (model P w) A (.call (.ref f) args) (CR (L2.CX P w) outer P w H s Q E) s
theorem FnG.mono {P : Program} {w : World} {K : Fg} {mg : Str → Option Value} {base : Heap} {j k : Nat} {f : Addr} {fd : FuncData} {ps : List Str} {sp : Sp} (F : FnG P w K mg base j f fd ps sp) (h : j ≤ k) :
    FnG P w K mg base k f fd ps sp := ⟨F.len, fun A outer s H args us vs Q E hr => F.run A outer s H args us vs Q E (hr.mono h)⟩
/-- the code object of a def -/
def codeOf8 (K : Fg) (f : Addr) : Option Value := match K.lookup f with
  | some ⟨_, _, .func fd, _⟩ => some fd.code
  | _ => none
/-- the body's entry: one more level -/
theorem fnG_of {P : Program} {w : World} {K : Fg} {mg : Str → Option Value} {base : Heap} {x qual : Str} {params : Arguments} {body : List Stmt} {scope : Scope} {dvs : List V} {kws : List (Str × V)} {f : Addr} {fd : FuncData}
    {N ps : List Str} {k : Nat} {sp : Sp} (F : FunD K x qual params body scope dvs kws f fd) (S : FnScope N ps scope) (len : ∀ vs H Q E, sp vs H Q E → vs.length = ps.length)
    (hbody : ∀ (cdv : Value) (A : Around) (outer : List Env) (s : Shared) (H : Hp) (vs : List V) (Q : VK) (E : XK), codeOf8 K f = some cdv → Cok (cxOf (L2.CX P w) P w K mg base N qual scope f cdv A outer s H E) (fun cls d _ H' => E cls d H') k → sp vs H Q E →
      ∃ t, PSs (cxOf (L2.CX P w) P w K mg base N qual scope f cdv A outer s H E) body t ∧ t { nx := fun _ H' => Q .non H', rt := Q } (start N vs) H) :
    FnG P w K mg base (k + 1) f fd ps sp := by
  obtain ⟨_, _, dV, kV, doc, pm, an, cdv, ct, _, rfl, lk, hcd, _, _⟩ := F.ex; refine ⟨len, fun A outer s H args us vs Q E hr hg e0 hb r hsp => ?_⟩
  have hl := len _ _ _ _ hsp
  have kin : K.In s.heap := e0.mod.kin.keeps fun _ _ z => (e0.bs _ _ z).1
  have lim : s.heap.NoLimit := e0.mod.nolimit.keeps fun _ _ z => (e0.bs _ _ z).1
  have kinds := fun (y : Str × Value) (hy : y ∈ ps.zip us) => (S.par y.1 (List.of_mem_zip (a := y.1) (b := y.2) hy).1).imp id fun q => And.intro q (PySem.W.cellsFrom_some scope.names (s.heap.objs.size + 1) [] (.inl q))
  refine codeAny_call_function hr.depth (kin _ _ lk) rfl S.co S.gen rfl (PySem.W.codeRec_of kin hcd) (hb _ _ _ _ (wpAny_newFunctionEnv_cells S.kind kinds fun env he s1 x => ?_))
  cases he; refine ⟨lim.keeps x.toInCall.keep, codeAny_func ?_⟩
  obtain ⟨t, ht, hq⟩ := hbody cdv A outer s H vs Q E (by unfold codeOf8; rw [lk]) ⟨takes_of rfl rfl rfl rfl, hg, hr.deeper _⟩ hsp
  have I : Inv (cxOf (L2.CX P w) P w K mg base N qual scope f cdv A outer s H E) [] (start N vs) H s1 := inv_start S hr.hd e0 hl r x
  refine wpAny_mono (ht.run [] s1 _ H _ I hq) (fun fl s' hs => ?_) fun _ _ z => z
  have fin : ∀ {σ' : L2.St} {H' : Hp} {v : V} {u : Value}, Inv (cxOf (L2.CX P w) P w K mg base N qual scope f cdv A outer s H E) [] σ' H' s' → RelV v u → Q v H' → CE outer P w H s Q u s' :=
    fun J rv q => ⟨_, _, J.os, J.bare, J.base, J.hok, rv, q⟩
  cases fl with
  | ret u =>
    obtain ⟨_, _, _, J, rv, q⟩ := hs; exact fin J rv q
  | next =>
    obtain ⟨σ', H', J, q⟩ := hs
    exact fin (u := .none) (v := .non) J rfl q
  | brk =>
    obtain ⟨_, _, _, q⟩ := hs
    exact False.elim q
  | cont =>
    obtain ⟨_, _, _, q⟩ := hs
    exact False.elim q

section
variable {X : Cx} {W : WX} {k n : Nat} {f C : Addr} {fd : FuncData} {ps ks : List Str} {sp : Sp} {x : Str} {p pos : Pos} {e : Expr} {es : List Expr} {kws : List Keyword} {t tk : TA} {g : List Value → List Value → List Value} {gV : List V → List V → List V}
/-- f(..): E tells by the slots what is wanted of an exception -/
def tCallG (W : WX) (n m : Nat) (sp : Sp) (gV : List V → List V → List V) (t tk : TA) : TE := fun σ H Q => t σ H fun vs H1 => tk σ H1 fun zs H2 => vs.length = n ∧ zs.length = m ∧ sp (gV vs zs) H2 Q fun cls d H' => W cls d σ H'
theorem run_g {pn : List (Addr × Obj)} {σ : L2.St} {H : Hp} {s : Shared} {Q : VK} {us ws : List Value} {vs zs : List V} (F : FnG X.prog X.w X.K X.mg X.base k f fd ps sp) (c : Cok X W k) (hb : KBn X.K fd ps n ks g gV)
    (I : Inv X pn σ H s) (r : Vals vs us) (rz : Vals zs ws) (l1 : vs.length = n) (l2 : zs.length = ks.length) (h : sp (gV vs zs) H Q fun cls d H' => W cls d σ H') : wpAny (model X.prog X.w) X.A (call (.ref f) us (ks.zip ws)) (EP X pn σ Q) X.xe s := by
  have r2 := hb.rel r rz
  refine wpAny_call (codeAny_mono (F.run X.A X.stack s H ⟨us, ks.zip ws⟩ (g us ws) (gV vs zs) Q _ c.rm c.gd I.env0 (hb.to s us ws I.kIn (r.length.symm.trans l1) (rz.length.symm.trans l2)) r2 h) fun r s' hq => ?_)
  cases r with
  | error e => exact c.tk e s' (XE.of_call I (fun cls d H' h => h) hq)
  | ok fl =>
    cases fl with
    | ret u => exact I.after hq
    | next => exact False.elim hq
    | brk => exact False.elim hq
    | cont => exact False.elim hq
/-- f(e, ..) -/
theorem pe_g (F : FnG X.prog X.w X.K X.mg X.base k f fd ps sp) (c : Cok X W k) (hg : Gl X x) (hm : X.mg x = some (.ref f)) (hk : PySem.W.keepIn X.K (.ref f) = true) (hb : KBn X.K fd ps n [] g gV)
    (ha : PA X (e :: es) t) (hpl : (backTo pos (starEach es X.env)).any (·.1) = false := by rfl) (hdb : (x == ("__debug__" : Str)) = false := by decide) (he : starEach (e :: es) X.env = (false, eval e X.env) :: starEach es X.env := by rfl) :
    PE X (.Call (.Name x p) (e :: es) [] pos) (tCallG W n 0 sp gV t tNil) := by
  refine ⟨fun pn s σ H Q I h => ?_⟩
  refine wpAny_Call_Name_kw (ld_glob I hg hm (?_) hdb) <;> refine PySem.W.callWith_K (h₀ := X.base) I.ok.mod.kin hk (thn (ha.run pos pn s σ H _ I h) fun us s1 ⟨vs, H1, i1, r, l1, l2, q⟩ => ⟨i1.kIn, ?_⟩) he hpl
  have z := run_g (ws := []) (zs := []) F c hb i1 r .nil l1 l2 q
  exact z
/-- f(e, .., k = v, ..) -/
theorem pe_gk (F : FnG X.prog X.w X.K X.mg X.base k f fd ps sp) (c : Cok X W k) (hg : Gl X x) (hm : X.mg x = some (.ref f)) (hk : PySem.W.keepIn X.K (.ref f) = true) (hb : KBn X.K fd ps n ks g gV)
    (ha : PA X (e :: es) t) (hkw : PK X kws tk)
    (hall : ((backToKw pos (keywordEach kws X.env)).all (·.1.isSome)) = true := by rfl) (hks : (backToKw pos (keywordEach kws X.env)).filterMap (·.1) = ks := by rfl)
    (he : starEach (e :: es) X.env = (false, eval e X.env) :: starEach es X.env := by rfl) (hdb : (x == ("__debug__" : Str)) = false := by decide) (hpl : ((backTo pos (starEach (e :: es) X.env)).any (·.1) || (backToKw pos (keywordEach kws X.env)).any (·.1.isNone)) = false := by rfl) :
    PE X (.Call (.Name x p) (e :: es) kws pos) (tCallG W n ks.length sp gV t tk) := by
  refine ⟨fun pn s σ H Q I h => ?_⟩
  refine wpAny_Call_Name_kw (ld_glob I hg hm (?_) hdb) <;> refine PySem.W.callWith_KW (h₀ := X.base) I.ok.mod.kin hk hall (thn (ha.run pos pn s σ H _ I h) fun us s1 ⟨vs, H1, i1, r, q⟩ => ?_) hpl he
  refine thn (hkw.run pos pn s1 σ H1 _ i1 q) fun ws s2 ⟨zs, H2, i2, rz, l1, l2, q2⟩ => ⟨i2.kIn, ?_⟩
  rw [hks]
  exact run_g F c hb i2 r rz l1 l2 q2
/-- f(k = v, ..) -/
theorem pe_gk0 (F : FnG X.prog X.w X.K X.mg X.base k f fd ps sp) (c : Cok X W k) (hg : Gl X x) (hm : X.mg x = some (.ref f)) (hk : PySem.W.keepIn X.K (.ref f) = true) (hb : KBn X.K fd ps 0 ks g gV)
    (hkw : PK X kws tk) (hall : (backToKw pos (keywordEach kws X.env)).all (·.1.isSome) = true := by rfl) (hks : (backToKw pos (keywordEach kws X.env)).filterMap (·.1) = ks := by rfl)
    (hpl : ((backTo pos (starEach [] X.env)).any (·.1) || (backToKw pos (keywordEach kws X.env)).any (·.1.isNone)) = false := by rfl) (hdb : (x == ("__debug__" : Str)) = false := by decide) :
    PE X (.Call (.Name x p) [] kws pos) (tCallG W 0 ks.length sp gV tNil tk) := by
  refine ⟨fun pn s σ H Q I h => ?_⟩
  refine wpAny_Call_Name_kw (ld_glob I hg hm (?_) hdb) <;> refine PySem.W.callWith_KW0 (h₀ := X.base) I.ok.mod.kin hk hall ?_ hpl
  refine thn (hkw.run pos pn s σ H _ I h) fun ws s2 ⟨zs, H2, i2, rz, l1, l2, q2⟩ => ⟨i2.kIn, ?_⟩
  rw [hks]
  exact run_g (us := []) (vs := []) F c hb i2 .nil rz rfl l2 q2
/-- C(..), C(k = v, ..): an instance, then __init__ -/
def tMakeG (W : WX) (C : Addr) (n m : Nat) (sp : Sp) (gV : List V → List V → List V) (t tk : TA) : TE := fun σ H Q => t σ H fun vs H1 => tk σ H1 fun zs H2 => vs.length = n ∧ zs.length = m ∧
  ∀ x dx, H2 x = none → H2 dx = none → dx ≠ x → sp (gV (.ref x :: vs) zs) (upd (upd H2 dx (.own x)) x (.ins C dx [])) (fun v H3 => v = .non ∧ Q (.ref x) H3) fun cls d H' => W cls d σ H'
theorem run_makeG {pn : List (Addr × Obj)} {σ : L2.St} {H : Hp} {s : Shared} {Q : VK} {us ws : List Value} {vs zs : List V} (M : Mk X.K C f) (F : FnG X.prog X.w X.K X.mg X.base k f fd ps sp) (c : Cok X W (k + 1)) (hb : KBn X.K fd ps (n + 1) ks g gV)
    (I : Inv X pn σ H s) (r : Vals vs us) (rz : Vals zs ws) (l1 : vs.length = n) (l2 : zs.length = ks.length)
    (h : ∀ x dx, H x = none → H dx = none → dx ≠ x → sp (gV (.ref x :: vs) zs) (upd (upd H dx (.own x)) x (.ins C dx [])) (fun v H2 => v = .non ∧ Q (.ref x) H2) fun cls d H' => W cls d σ H') :
    wpAny (model X.prog X.w) X.A (call (.ref C) us (ks.zip ws)) (EP X pn σ Q) X.xe s := by
  have hq := h _ _ (I.hok.fresh (a := s.heap.objs.size + 1) (Nat.le_succ _)) (I.hok.fresh (a := s.heap.objs.size) (Nat.le_refl _)) (Nat.ne_of_lt (Nat.lt_succ_self _))
  have i2 := Inv.made (C := C) I
  have r2 := hb.rel (show Vals (V.ref _ :: vs) (Value.ref (s.heap.objs.size + 1) :: us) from .cons rfl r) rz
  have n1 : us.length + 1 = n + 1 := congrArg (· + 1) (r.length.symm.trans l1)
  have gd : (X.A.under (.builtin "type.__call__" ⟨.ref C :: us, ks.zip ws⟩)).guards = some [] := by
    rw [← c.gd]
    simp [Around.under, pushGuards, Code.guards, Code.isGuard, guardIds]
  refine wpAny_call (make_map (f := f) I.kIn M.makes M.init (beq_iff_eq.mp M.fn) (codeAny_mono (F.run _ X.stack _ _ ⟨Value.ref (s.heap.objs.size + 1) :: us, ks.zip ws⟩ (g (Value.ref (s.heap.objs.size + 1) :: us) ws) _ _ _ (c.rm.make C us (ks.zip ws)) gd
    (i2.env0.make C us (ks.zip ws)) (hb.to _ (Value.ref (s.heap.objs.size + 1) :: us) ws i2.kIn n1 (rz.length.symm.trans l2)) r2 hq) fun r s' hq' => ?_))
  cases r with
  | error e => exact c.tk e s' (XE.of_call i2 (fun cls d H' h => h) hq')
  | ok fl =>
    cases fl with
    | ret u =>
      obtain ⟨v, H', i3, rv, ev, q3⟩ := i2.after hq'
      subst ev
      exact ⟨rv, ⟨V.ref (s.heap.objs.size + 1), H', i3, rfl, q3⟩⟩
    | next => cases hq'
    | brk => cases hq'
    | cont => cases hq'
theorem pe_mk (M : Mk X.K C f) (F : FnG X.prog X.w X.K X.mg X.base k f fd ps sp) (c : Cok X W (k + 1)) (hg : Gl X x) (hm : X.mg x = some (.ref C)) (hb : KBn X.K fd ps (n + 1) [] g gV)
    (ha : PA X (e :: es) t) (hpl : (backTo pos (starEach es X.env)).any (·.1) = false := by rfl) (hdb : (x == ("__debug__" : Str)) = false := by decide) (he : starEach (e :: es) X.env = (false, eval e X.env) :: starEach es X.env := by rfl) :
    PE X (.Call (.Name x p) (e :: es) [] pos) (tMakeG W C n 0 sp gV t tNil) := by
  refine ⟨fun pn s σ H Q I h => ?_⟩
  refine wpAny_Call_Name_kw (ld_glob I hg hm (?_) hdb) <;> refine PySem.W.callWith_K (h₀ := X.base) I.ok.mod.kin M.kp (thn (ha.run pos pn s σ H _ I h) fun us s1 ⟨vs, H1, i1, r, l1, l2, q⟩ => ⟨i1.kIn, ?_⟩) he hpl
  have z := run_makeG (ws := []) (zs := []) M F c hb i1 r .nil l1 l2 q
  exact z
theorem pe_mkk0 (M : Mk X.K C f) (F : FnG X.prog X.w X.K X.mg X.base k f fd ps sp) (c : Cok X W (k + 1)) (hg : Gl X x) (hm : X.mg x = some (.ref C)) (hb : KBn X.K fd ps 1 ks g gV)
    (hkw : PK X kws tk) (hall : (backToKw pos (keywordEach kws X.env)).all (·.1.isSome) = true := by rfl) (hks : (backToKw pos (keywordEach kws X.env)).filterMap (·.1) = ks := by rfl) 
    (hdb : (x == ("__debug__" : Str)) = false := by decide) (hpl : ((backTo pos (starEach [] X.env)).any (·.1) || (backToKw pos (keywordEach kws X.env)).any (·.1.isNone)) = false := by rfl) :
    PE X (.Call (.Name x p) [] kws pos) (tMakeG W C 0 ks.length sp gV tNil tk) := by
  refine ⟨fun pn s σ H Q I h => ?_⟩
  refine wpAny_Call_Name_kw (ld_glob I hg hm (?_) hdb) <;> refine PySem.W.callWith_KW0 (h₀ := X.base) I.ok.mod.kin M.kp hall ?_ hpl
  refine thn (hkw.run pos pn s σ H _ I h) fun ws s2 ⟨zs, H2, i2, rz, l1, l2, q2⟩ => ⟨i2.kIn, ?_⟩
  rw [hks]
  exact run_makeG (us := []) (vs := []) M F c hb i2 .nil rz rfl l2 q2
end

/-! ### what a def means for data: at most one object of the caller's own, the first argument -/
abbrev Spc := Option OD → List D → (D → Option OD → Prop) → (Addr → Str → D → Prop) → Prop
def args (h : Option (Addr × OD)) (ds : List D) : Rho := (match h with
  | none => []
  | some p => [.own p.1 p.2]) ++ ds.map .val
def lSp (K : Fg) (t : List (Addr × Str)) (n : Nat) (sp : Spc) : Sp := fun vs H Q E => ∃ S F h ds Ψ Ξ, vs.length = n ∧ ER K (tb0 t) S F H (args h ds) (vs.map some) ∧ sp (h.map (·.2)) ds Ψ Ξ ∧
  (∀ d v o' S' H', Ψ d o' → o'.isSome = h.isSome → Same S S' → Is K S' v d → ER K (tb0 t) S' F H' (args (h.bind fun p => o'.map fun o => (p.1, o)) ds) (vs.map some) → Q v H') ∧
  (∀ C f d v dd S' H', Ξ C f d → Same S S' → Same S' H' → TbOk (tb0 t) S' F H' → (∀ a o, F a = some o → H' a = some o ∧ (S' a = none ∨ TupO o)) → S' dd = some (.xd [(f, v)]) → Is K S' v d → E (.ref C) (some dd) H')
theorem ER.vals {K : Fg} {S F H : Hp} {ρ : Rho} {σ : L2.St} (e : ER K τ S F H ρ σ) : Same S H := e.ex
theorem args_none (ds : List D) : args none ds = ds.map .val := rfl
theorem er_args {K : Fg} {S F H : Hp} {vs : List V} {ds : List D} (hi : IsAll K S vs ds) (ex : Same S H) (tb : TbOk τ S F H) (fr : ∀ a o, F a = some o → H a = some o ∧ (S a = none ∨ TupO o)) : ER K τ S F H (args none ds) (vs.map some) := by
  rw [args_none]
  refine ⟨by rw [List.length_map, List.length_map, hi.length], ex, fr, fun i d h => ?_, fun i l od h => ?_, fun i j l o o' h _ => ?_, tb⟩
  · rw [List.getElem?_map] at h
    cases q : ds[i]? with
    | none => rw [q] at h; cases h
    | some d' =>
      rw [q] at h
      have e' : Sl.val d' = Sl.val d := Option.some.inj h
      cases e'
      obtain ⟨v, h1, h2⟩ := hi.get q
      exact ⟨v, by rw [List.getElem?_map, h1]; rfl, h2⟩
  · rw [List.getElem?_map] at h
    cases q : ds[i]? with
    | none => rw [q] at h; cases h
    | some d' => rw [q] at h; cases h
  · rw [List.getElem?_map] at h
    cases q : ds[i]? with
    | none => rw [q] at h; cases h
    | some d' => rw [q] at h; cases h
theorem ER.nTb {K : Fg} {S F H : Hp} {ρ : Rho} {σ : L2.St} (e : ER K τ S F H ρ σ) {i : Nat} {l : Addr} {od : OD} (h : ρ[i]? = some (Sl.own l od)) : l ∉ τ.t.map (·.1) := fun z => by
  obtain ⟨q, hq, rfl⟩ := List.mem_map.mp z
  obtain ⟨-, -, -, o, h4, h5⟩ := e.own _ _ _ h
  obtain ⟨ps, h6⟩ := e.tb.at hq
  rw [h4] at h6; exact h5.notX.1 ps (Option.some.inj h6)
theorem fr_back {S S' H H' Fc : Hp} {a : Addr} {o : HO} (s : Same S S') (ex : Same S' H') (eS : Same S H) (h1 : H a = some o) (h2 : S a = none ∨ TupO o) (k : S a = none → H' a = some o ∧ (S' a = none ∨ TupO o)) : H' a = some o ∧ (S' a = none ∨ TupO o) := by
  cases hS : S a with
  | none => exact k hS
  | some u =>
    have e := eS _ _ hS
    rw [h1] at e
    cases e
    refine ⟨ex _ _ (s _ _ hS), h2.elim (fun z => by rw [hS] at z; cases z) .inr⟩
/-- a caller's view behind a call that owned nothing -/
theorem ER.back {K : Fg} {S F H S' Fc H' : Hp} {ρ : Rho} {σ : L2.St} (e : ER K τ S F H ρ σ) (s : Same S S') (ex : Same S' H') (tT : LamX.Tabs τ.t H') (tS : ∀ p ∈ τ.t, S' p.1 = none) (fc : ∀ a o, a ∉ τ.t.map (·.1) → S a = none → H a = some o → Fc a = some o) (fr : ∀ a o, Fc a = some o → H' a = some o ∧ (S' a = none ∨ TupO o)) : ER K τ S' F H' ρ σ := by
  have nt : ∀ a o, F a = some o → a ∉ τ.t.map (·.1) := fun a o h z => by
    obtain ⟨q, hq, rfl⟩ := List.mem_map.mp z
    rw [e.tb.nF q hq] at h; cases h
  refine ⟨e.len, ex, fun a o h => ?_, fun i d h => ?_, fun i l od h => ?_, e.dis, ⟨tT, tS, e.tb.nF, fun a o h => s _ _ (e.tb.ks a o h), e.tb.kf⟩⟩
  · obtain ⟨h1, h2⟩ := e.fr a o h
    exact fr_back (Fc := Fc) s ex e.ex h1 h2 fun h3 => fr a o (fc a o (nt a o h) h3 h1)
  · obtain ⟨v, h1, h2⟩ := e.val i d h
    exact ⟨v, h1, h2.mono s⟩
  · have nl := e.nTb h
    obtain ⟨h1, h2, h3, o, h4, h5⟩ := e.own i l od h
    obtain ⟨h6, h7⟩ := fr l o (fc l o nl h2 h4)
    exact ⟨h1, h7.resolve_right h5.nt, h3, o, h6, h5.mono s⟩
open Classical in
/-- all that is there, but what never changes and what the callee owns -/
noncomputable def others (t : List (Addr × Str)) (S H : Hp) (p : Addr → Prop) : Hp := fun a => if p a ∨ a ∈ t.map (·.1) then none else if S a = none then H a else none
theorem others_of {S H : Hp} {p : Addr → Prop} {a : Addr} {o : HO} (h0 : a ∉ τ.t.map (·.1)) (h1 : ¬ p a) (h2 : S a = none) (h3 : H a = some o) : others τ.t S H p a = some o := by
  unfold others; rw [if_neg (fun z => z.elim h1 h0), if_pos h2]; exact h3
theorem others_inv {S H : Hp} {p : Addr → Prop} {a : Addr} {o : HO} (h : others τ.t S H p a = some o) : ¬ p a ∧ S a = none ∧ H a = some o := by
  unfold others at h
  split at h
  · cases h
  · split at h
    · rename_i h1 h2; exact ⟨fun z => h1 (.inl z), h2, h⟩
    · cases h
theorem others_tb {S H : Hp} {p : Addr → Prop} {q : Addr × Str} (h : q ∈ τ.t) : others τ.t S H p q.1 = none := by
  unfold others; rw [if_pos (.inr (List.mem_map.mpr ⟨q, h, rfl⟩))]
theorem TbOk.oth {S F H : Hp} {p : Addr → Prop} {S' H' : Hp} (t : TbOk τ S F H) : TbOk (tb0 τ.t) S (others τ.t S' H' p) H := ⟨t.tab, t.nS, fun _ h => others_tb h, (fun _ _ z => nomatch z), fun _ _ z => nomatch z⟩
/-- f(..), all its arguments data -/
def wCallA (n m : Nat) (sp : Spc) (gD : List D → List D → List D) (wa wk : WL) : WE := fun ρ χ Φ => wa ρ χ fun ds ρ1 => wk ρ1 χ fun zs ρ2 => ds.length = n ∧ zs.length = m ∧ sp none (gD ds zs) (fun d _ => Φ d ρ2) fun C f d => χ C f d ρ2
/-- f(x, ..), x the slot i, an object of one's own -/
def wCallB (i : Nat) (n : Nat) (sp : Spc) (wa : WL) : WE := fun ρ χ Φ => (∃ l o, ρ[i]? = some (Sl.own l o)) ∧ wa ρ χ fun ds ρ1 => ds.length = n ∧ match ρ1[i]? with
  | some (.own l o) => sp (some o) ds (fun d o' => ∃ o2, o' = some o2 ∧ Φ d (ρ1.set i (.own l o2))) fun _ _ _ => False
  | _ => False
theorem er_argsO {K : Fg} {S F H : Hp} {vs : List V} {ds : List D} {l : Addr} {o : HO} {od : OD} (hi : IsAll K S vs ds) (ex : Same S H) (tb : TbOk τ S F H) (fr : ∀ a o, F a = some o → H a = some o ∧ (S a = none ∨ TupO o)) (h1 : H l = some o) (h2 : S l = none) (h3 : F l = none) (h4 : OIs K S o od) :
    ER K τ S F H (args (some (l, od)) ds) ((V.ref l :: vs).map some) := by
  have e := er_args hi ex tb fr
  have nov : ∀ (j : Nat) (m : Addr) (o2 : OD), (ds.map Sl.val)[j]? ≠ some (Sl.own m o2) := fun j m o2 h => by
    rw [List.getElem?_map] at h
    cases q : ds[j]? with
    | none => rw [q] at h; cases h
    | some d' => rw [q] at h; cases h
  refine ⟨congrArg Nat.succ e.len, ex, fr, fun i d h => ?_, fun i m o2 h => ?_, fun i j m o1 o2 a b => ?_, tb⟩
  · cases i with
    | zero => cases h
    | succ i => exact e.val i d h
  · cases i with
    | zero =>
      have h' : Sl.own l od = Sl.own m o2 := Option.some.inj h
      cases h'
      exact ⟨rfl, h2, h3, o, h1, h4⟩
    | succ i => exact absurd h (nov i m o2)
  · cases i with
    | zero =>
      cases j with
      | zero => rfl
      | succ j => exact absurd b (nov j m o2)
    | succ i => exact absurd a (nov i m o1)
/-- a caller's view behind a call that owned the object of the slot i -/
theorem ER.backO {K : Fg} {S F H S' Fc H' : Hp} {ρ : Rho} {σ : L2.St} {i : Nat} {l : Addr} {o : OD} {o2 : HO} {od2 : OD} (e : ER K τ S F H ρ σ) (hi : ρ[i]? = some (Sl.own l o)) (s : Same S S') (ex : Same S' H') (tT : LamX.Tabs τ.t H') (tS : ∀ p ∈ τ.t, S' p.1 = none) (fc : ∀ a o, a ∉ τ.t.map (·.1) → a ≠ l → S a = none → H a = some o → Fc a = some o) (fr : ∀ a o, Fc a = some o → H' a = some o ∧ (S' a = none ∨ TupO o))
    (h1 : H' l = some o2) (h2 : S' l = none) (h4 : OIs K S' o2 od2) : ER K τ S' F H' (ρ.set i (.own l od2)) σ := by
  obtain ⟨b1, b2, b3, ob, b4, b5⟩ := e.own i l o hi
  have hil : i < ρ.length := (List.getElem?_eq_some_iff.mp hi).1
  have nt : ∀ a o, F a = some o → a ∉ τ.t.map (·.1) := fun a o h z => by
    obtain ⟨q, hq, rfl⟩ := List.mem_map.mp z
    rw [e.tb.nF q hq] at h; cases h
  refine ⟨by rw [List.length_set]; exact e.len, ex, fun a o h => ?_, fun j d h => ?_, fun j m od h => ?_, fun j k m o1 o3 q1 q2 => ?_, ⟨tT, tS, e.tb.nF, fun a o h => s _ _ (e.tb.ks a o h), e.tb.kf⟩⟩
  · obtain ⟨a1, a2⟩ := e.fr a o h
    exact fr_back (Fc := Fc) s ex e.ex a1 a2 fun a3 => fr a o (fc a o (nt a o h) (fun z => by rw [z, b3] at h; cases h) a3 a1)
  · by_cases hj : j = i
    · subst hj; rw [List.getElem?_set_self hil] at h; cases h
    · rw [List.getElem?_set_ne (Ne.symm hj)] at h
      obtain ⟨v, a1, a2⟩ := e.val j d h
      exact ⟨v, a1, a2.mono s⟩
  · by_cases hj : j = i
    · subst hj; rw [List.getElem?_set_self hil] at h; cases h
      exact ⟨b1, h2, b3, o2, h1, h4⟩
    · rw [List.getElem?_set_ne (Ne.symm hj)] at h
      obtain ⟨a1, a2, a3, o4, a4, a5⟩ := e.own j m od h
      have ne : m ≠ l := fun z => by subst z; exact hj (e.dis _ _ _ _ _ h hi)
      obtain ⟨a6, a7⟩ := fr m o4 (fc m o4 (e.nTb h) ne a2 a4)
      exact ⟨a1, a7.resolve_right a5.nt, a3, o4, a6, a5.mono s⟩
  · have back : ∀ {k : Nat} {o1 : OD}, (ρ.set i (.own l od2))[k]? = some (Sl.own m o1) → ∃ o3, ρ[k]? = some (Sl.own m o3) := fun {k o1} q => by
      by_cases hk : k = i
      · subst hk; rw [List.getElem?_set_self hil] at q; cases q; exact ⟨o, hi⟩
      · rw [List.getElem?_set_ne (Ne.symm hk)] at q; exact ⟨o1, q⟩
    obtain ⟨o5, q3⟩ := back q1
    obtain ⟨o6, q4⟩ := back q2
    exact e.dis _ _ _ _ _ q3 q4
section
variable {K : Fg} {W : WX} {sp : Spc} {n m N : Nat} {gV : List V → List V → List V} {gD : List D → List D → List D} {wa wk : WL}
def GRel (n m N : Nat) (gV : List V → List V → List V) (gD : List D → List D → List D) : Prop := ∀ (K : Fg) (S : Hp) vs ds us es, IsAll K S vs ds → IsAll K S us es → vs.length = n → us.length = m → IsAll K S (gV vs us) (gD ds es) ∧ (gV vs us).length = N
theorem l_callA (hg : GRel n m N gV gD) : ∀ σ H Q, lE K τ W (wCallA n m sp gD wa wk) σ H Q → tCallG W n m (lSp K τ.t N sp) gV (lL K τ W wa) (lL K τ W wk) σ H Q := by
  rintro σ H Q ⟨ρ, S, F, χ, Φ, e, hw, hx, hp⟩
  refine ⟨ρ, S, F, χ, _, e, hw, hx, fun vs ds ρ1 S1 H1 h1 s1 i1 e1 => ?_⟩
  refine ⟨ρ1, S1, F, χ, _, e1, h1, hx.mono s1, fun us es ρ2 S2 H2 h2 s2 i2 e2 => ?_⟩
  obtain ⟨l1, l2, h3⟩ := h2
  have l1' : vs.length = n := by rw [i1.length]; exact l1
  have l2' : us.length = m := by rw [i2.length]; exact l2
  obtain ⟨ig, lg⟩ := hg K S2 vs ds us es (i1.mono s2) i2 l1' l2'
  refine ⟨l1', l2', S2, others τ.t S2 H2 fun _ => False, none, _, _, _, lg, er_args ig e2.ex e2.tb.oth fun a o h => ?_, h3, fun d v o' S' H' q _ s' iv er => ?_, fun C f d v dd S' H' q s' ex tb fr hd iv => ?_⟩
  · obtain ⟨_, a1, a2⟩ := others_inv h
    exact ⟨a2, .inl a1⟩
  · exact hp v d ρ2 S' H' q ((s1.trans s2).trans s') iv (e2.back s' er.ex er.tb.tab er.tb.nS (fun a o n a1 a2 => others_of n (fun z => z) a1 a2) er.fr)
  · exact hx C f d v dd ρ2 S' σ H' q ((s1.trans s2).trans s') (e2.back s' ex tb.tab tb.nS (fun a o n a1 a2 => others_of n (fun z => z) a1 a2) fr) hd iv
theorem l_callB {i : Nat} (hg : ∀ vs, gV vs [] = vs) : ∀ σ H Q, lE K τ W (wCallB i n sp wa) σ H Q → tCallG W (n + 1) 0 (lSp K τ.t (n + 1) sp) gV (tCons (tVar i) (lL K τ W wa)) tNil σ H Q := by
  rintro σ H Q ⟨ρ, S, F, χ, Φ, e, ⟨⟨l, o, hl⟩, hw⟩, hx, hp⟩
  obtain ⟨hσ, _⟩ := e.own i l o hl
  refine ⟨.ref l, hσ, ρ, S, F, χ, _, e, hw, hx, fun vs ds ρ1 S1 H1 h1 s1 i1 e1 => ?_⟩
  obtain ⟨l1, h2⟩ := h1
  have l1' : vs.length = n := by rw [i1.length]; exact l1
  split at h2
  · rename_i l' o' hl'
    obtain ⟨b1, b2, b3, ob, b4, b5⟩ := e1.own i l' o' hl'
    rw [hσ] at b1
    cases b1
    refine ⟨by rw [List.length_cons, l1'], rfl, S1, others τ.t S1 H1 (fun a => a = l), some (l, o'), ds, _, _, by rw [hg, List.length_cons, l1'], ?_, h2, fun d v o2 S' H' q hs s' iv er => ?_, fun C f d v dd S' H' q => q.elim⟩
    · rw [hg]
      exact er_argsO i1 e1.ex e1.tb.oth (fun a o h => by obtain ⟨_, a1, a2⟩ := others_inv h; exact ⟨a2, .inl a1⟩) b4 b2 (by unfold others; rw [if_pos (.inl rfl)]) b5
    · obtain ⟨od2, rfl, q⟩ := q
      rw [hg] at er
      obtain ⟨_, c2, _, o3, c4, c5⟩ := er.own 0 l od2 rfl
      exact hp v d _ S' H' q (s1.trans s') iv (e1.backO hl' s' er.ex er.tb.tab er.tb.nS (fun a o n a0 a1 a2 => others_of (p := fun a => a = l) n a0 a1 a2) er.fr c4 c2 c5)
  · exact h2.elim
end
end DL
set_option Elab.async false
set_option autoImplicit false
set_option linter.all false
set_option maxRecDepth 100000
set_option maxHeartbeats 3900000
namespace DL
open L2 PyProof.Rows PySem PySem.Spec
variable {τ : Tb}

/-! ### statements -/
def DE.withNx (Δ : DE) (n : Rho → Prop) : DE := { Δ with nx := n }
def wSeq (w u : WS) : WS := fun ρ Δ => w ρ { Δ with nx := fun ρ' => u ρ' Δ }
def wNext : WS := fun ρ Δ => Δ.nx ρ
def wBreak : WS := fun ρ Δ => Δ.bk ρ
def wCont : WS := fun ρ Δ => Δ.ct ρ
def wAsg (i : Nat) (wa : WE) : WS := fun ρ Δ => wa ρ Δ.xc fun d ρ1 => Δ.nx (ρ1.set i (.val d))
def wRet (wa : WE) : WS := fun ρ Δ => wa ρ Δ.xc fun d ρ1 => Δ.rt d ρ1
def wRetN : WS := fun ρ Δ => Δ.rt .non ρ
def wDrop (wa : WE) : WS := fun ρ Δ => wa ρ Δ.xc fun _ ρ1 => Δ.nx ρ1
def wIfS (wt : WT) (w u : WS) : WS := fun ρ Δ => wt ρ Δ.xc fun b ρ1 => if b = true then w ρ1 Δ else u ρ1 Δ
section
variable {K : Fg} {W : WX} {wa wb : WE} {wt : WT} {w u : WS}
theorem l_seq : ∀ D σ H, lS K τ W (wSeq w u) D σ H → tSeq (lS K τ W w) (lS K τ W u) D σ H := by
  rintro D σ H ⟨ρ, S, F, Δ, e, hw, hx, h1, h2, h3, h4, h5⟩
  refine ⟨ρ, S, F, _, e, hw, hx, fun ρ' S' σ' H' q s' e' => ?_, h2, h3, h4, h5⟩
  exact ⟨ρ', S', F, Δ, e', q, hx.mono s', fun ρ2 S2 σ2 H2 a b c => h1 ρ2 S2 σ2 H2 a (s'.trans b) c, fun d v ρ2 S2 σ2 H2 a b c f => h2 d v ρ2 S2 σ2 H2 a (s'.trans b) c f,
    fun ρ2 S2 σ2 H2 a b c => h3 ρ2 S2 σ2 H2 a (s'.trans b) c, fun ρ2 S2 σ2 H2 a b c => h4 ρ2 S2 σ2 H2 a (s'.trans b) c, fun l od o ρ2 S2 σ2 H2 a b => h5 l od o ρ2 S2 σ2 H2 a (s'.trans b)⟩
theorem l_next : ∀ D σ H, lS K τ W wNext D σ H → tNext D σ H := by
  rintro D σ H ⟨ρ, S, F, Δ, e, hw, hx, h1, h2, h3, h4, h5⟩
  exact h1 ρ S σ H hw (Same.refl S) e
theorem l_brk : ∀ D σ H, lS K τ W wBreak D σ H → tBreak D σ H := by
  rintro D σ H ⟨ρ, S, F, Δ, e, hw, hx, h1, h2, h3, h4, h5⟩
  exact h3 ρ S σ H hw (Same.refl S) e
theorem l_cnt : ∀ D σ H, lS K τ W wCont D σ H → tCont D σ H := by
  rintro D σ H ⟨ρ, S, F, Δ, e, hw, hx, h1, h2, h3, h4, h5⟩
  exact h4 ρ S σ H hw (Same.refl S) e
theorem l_asg {i : Nat} : ∀ D σ H, lS K τ W (wAsg i wa) D σ H → tAsg (lE K τ W wa) (gName i) D σ H := by
  rintro D σ H ⟨ρ, S, F, Δ, e, hw, hx, h1, h2, h3, h4, h5⟩
  exact ⟨ρ, S, F, _, _, e, hw, hx, fun v d ρ' S' H' q s' iv e' => h1 _ S' _ H' q s' (e'.set iv)⟩
theorem l_ret : ∀ D σ H, lS K τ W (wRet wa) D σ H → tRet (lE K τ W wa) D σ H := by
  rintro D σ H ⟨ρ, S, F, Δ, e, hw, hx, h1, h2, h3, h4, h5⟩
  exact ⟨ρ, S, F, _, _, e, hw, hx, fun v d ρ' S' H' q s' iv e' => h2 d v _ S' _ H' q s' iv e'⟩
theorem l_retN : ∀ D σ H, lS K τ W wRetN D σ H → tRetN D σ H := by
  rintro D σ H ⟨ρ, S, F, Δ, e, hw, hx, h1, h2, h3, h4, h5⟩
  exact h2 .non .non ρ S σ H hw (Same.refl S) .non e
theorem l_drop : ∀ D σ H, lS K τ W (wDrop wa) D σ H → tDrop (lE K τ W wa) D σ H := by
  rintro D σ H ⟨ρ, S, F, Δ, e, hw, hx, h1, h2, h3, h4, h5⟩
  exact ⟨ρ, S, F, _, _, e, hw, hx, fun v d ρ' S' H' q s' iv e' => h1 _ S' _ H' q s' e'⟩
theorem l_ifS : ∀ D σ H, lS K τ W (wIfS wt w u) D σ H → tIfS (lT K τ W wt) (lS K τ W w) (lS K τ W u) D σ H := by
  rintro D σ H ⟨ρ, S, F, Δ, e, hw, hx, h1, h2, h3, h4, h5⟩
  refine ⟨ρ, S, F, _, _, e, hw, hx, fun b ρ' S' H' q s' e' => ?_⟩
  have go : ∀ w' : WS, w' ρ' Δ → lS K τ W w' D σ H' := fun w' q => ⟨ρ', S', F, Δ, e', q, hx.mono s', fun ρ2 S2 σ2 H2 a b c => h1 ρ2 S2 σ2 H2 a (s'.trans b) c, fun d v ρ2 S2 σ2 H2 a b c f => h2 d v ρ2 S2 σ2 H2 a (s'.trans b) c f,
    fun ρ2 S2 σ2 H2 a b c => h3 ρ2 S2 σ2 H2 a (s'.trans b) c, fun ρ2 S2 σ2 H2 a b c => h4 ρ2 S2 σ2 H2 a (s'.trans b) c, fun l od o ρ2 S2 σ2 H2 a b => h5 l od o ρ2 S2 σ2 H2 a (s'.trans b)⟩
  cases b with
  | true => exact go w q
  | false => exact go u q
end

def wRetO (wo : Rho → XC → (Addr → OD → Rho → Prop) → Prop) : WS := fun ρ Δ => wo ρ Δ.xc fun l od ρ1 => Δ.ro l od ρ1
/-! ### targets -/
abbrev WG := D → Rho → (Rho → Prop) → Prop
abbrev WGs := List D → Rho → (Rho → Prop) → Prop
def lG (K : Fg) (τ : Tb) (g : WG) : TG := fun x σ H Q => ∃ ρ S F d Φ, ER K τ S F H ρ σ ∧ Is K S x d ∧ g d ρ Φ ∧ ∀ ρ' S' σ' H', Φ ρ' → Same S S' → ER K τ S' F H' ρ' σ' → Q σ' H'
def lGs (K : Fg) (τ : Tb) (g : WGs) : TGs := fun xs σ H Q => ∃ ρ S F ds Φ, ER K τ S F H ρ σ ∧ IsAll K S xs ds ∧ g ds ρ Φ ∧ ∀ ρ' S' σ' H', Φ ρ' → Same S S' → ER K τ S' F H' ρ' σ' → Q σ' H'
def wgName (i : Nat) : WG := fun d ρ Φ => Φ (ρ.set i (.val d))
def wgNil : WGs := fun ds ρ Φ => ds = [] ∧ Φ ρ
def wgCons (g : WG) (gs : WGs) : WGs := fun ds ρ Φ => match ds with
  | d :: ds => g d ρ fun ρ1 => gs ds ρ1 Φ
  | [] => False
def wgTup (n : Nat) (gs : WGs) : WG := fun d ρ Φ => match d with
  | .tup ds => ds.length = n ∧ gs ds ρ Φ
  | _ => False
theorem PG.imp {X : Cx} {e : Expr} {t t' : TG} (h : PG X e t) (m : ∀ x σ H Q, t' x σ H Q → t x σ H Q) : PG X e t' := ⟨fun pins s σ H v u Q I r q => h.run pins s σ H v u Q I r (m v σ H Q q)⟩
theorem PGs.imp {X : Cx} {e : List Expr} {t t' : TGs} (h : PGs X e t) (m : ∀ x σ H Q, t' x σ H Q → t x σ H Q) : PGs X e t' := ⟨fun pins s σ H v u Q I r q => h.run pins s σ H v u Q I r (m v σ H Q q)⟩
section
variable {K : Fg}
theorem g_name {i : Nat} : ∀ x σ H Q, lG K τ (wgName i) x σ H Q → gName i x σ H Q := by
  rintro x σ H Q ⟨ρ, S, F, d, Φ, e, hi, hg, hp⟩
  exact hp _ S _ H hg (Same.refl S) (e.set hi)
theorem g_nil : ∀ x σ H Q, lGs K τ wgNil x σ H Q → gNil x σ H Q := by
  rintro x σ H Q ⟨ρ, S, F, d, Φ, e, hi, ⟨h1, hg⟩, hp⟩
  subst h1
  cases hi
  exact ⟨rfl, hp _ S _ H hg (Same.refl S) e⟩
theorem g_cons {g : WG} {gs : WGs} : ∀ x σ H Q, lGs K τ (wgCons g gs) x σ H Q → gCons (lG K τ g) (lGs K τ gs) x σ H Q := by
  rintro x σ H Q ⟨ρ, S, F, ds, Φ, e, hi, hg, hp⟩
  cases hi with
  | nil => exact hg.elim
  | cons a b => exact ⟨_, _, rfl, ρ, S, F, _, _, e, a, hg, fun ρ' S' σ' H' q s' e' => ⟨ρ', S', F, _, _, e', b.mono s', q, fun ρ2 S2 σ2 H2 q2 s2 e2 => hp ρ2 S2 σ2 H2 q2 (s'.trans s2) e2⟩⟩
theorem g_tup {n : Nat} {gs : WGs} : ∀ x σ H Q, lG K τ (wgTup n gs) x σ H Q → gTup K n (lGs K τ gs) x σ H Q := by
  rintro x σ H Q ⟨ρ, S, F, d, Φ, e, hi, hg, hp⟩
  cases hi with
  | tup h1 h2 => exact ⟨_, _, rfl, .inl (.inl (e.ex _ _ h1)), h2.length.trans hg.1, ρ, S, F, _, Φ, e, h2, hg.2, hp⟩
  | ktup h1 h2 a3 => exact ⟨_, _, rfl, .inr h1, h2.length.trans hg.1, ρ, S, F, _, Φ, e, h2, hg.2, hp⟩
  | _ => exact False.elim hg
theorem l_asgG {W : WX} {wa : WE} {g : WG} : ∀ D σ H, lS K τ W (fun ρ Δ => wa ρ Δ.xc fun d ρ1 => g d ρ1 Δ.nx) D σ H → tAsg (lE K τ W wa) (lG K τ g) D σ H := by
  rintro D σ H ⟨ρ, S, F, Δ, e, hw, hx, h1, h2, h3, h4, h5⟩
  exact ⟨ρ, S, F, _, _, e, hw, hx, fun v d ρ' S' H' q s' iv e' => ⟨ρ', S', F, d, _, e', iv, q, fun ρ2 S2 σ2 H2 q2 s2 e2 => h1 ρ2 S2 σ2 H2 q2 (s'.trans s2) e2⟩⟩
end
def wAsgG (g : WG) (wa : WE) : WS := fun ρ Δ => wa ρ Δ.xc fun d ρ1 => g d ρ1 Δ.nx

/-! ### walks -/
structure DWk (K : Fg) (τ : Tb) (S : Hp) (J : It) (ds : List D) : Prop where
  go : ∀ i H, i < ds.length → Same S H → J.go i H
  stop : ∀ H, Same S H → J.stop ds.length H
  yld : ∀ i H x H', i < ds.length → Same S H → J.yld i H x H' → ∃ d, ds[i]? = some d ∧ ∀ S1 F (ρ : Rho) (σ : L2.St), Same S S1 → ER K τ S1 F H ρ σ → ∃ S2, Same S1 S2 ∧ Is K S2 x d ∧ ER K τ S2 F H' ρ σ
theorem DWk.mono {K : Fg} {S S' : Hp} {J : It} {ds : List D} (h : DWk K τ S J ds) (s : Same S S') : DWk K τ S' J ds :=
  ⟨fun i H a b => h.go i H a (s.trans b), fun H b => h.stop H (s.trans b), fun i H x H' a b c => by
    obtain ⟨d, h1, h2⟩ := h.yld i H x H' a (s.trans b) c
    exact ⟨d, h1, fun S1 F ρ σ q e => h2 S1 F ρ σ (s.trans q) e⟩⟩
def lI (K : Fg) (τ : Tb) (W : WX) (w : WL) : TI := fun σ H R => ∃ ρ S F χ Φ, ER K τ S F H ρ σ ∧ w ρ χ Φ ∧ XOk K τ F W S χ ∧ ∀ J ds ρ' S' H', Φ ds ρ' → Same S S' → ER K τ S' F H' ρ' σ → DWk K τ S' J ds → R J H'
theorem PI.imp {X : Cx} {tg e : Expr} {t t' : TI} (h : PI X tg e t) (m : ∀ σ H Q, t' σ H Q → t σ H Q) : PI X tg e t' := ⟨fun pins s σ H R I q => h.run pins s σ H R I (m σ H R q)⟩
theorem dwk_list {K : Fg} {S : Hp} {a : Addr} {vs : List V} {ds : List D} (h : S a = some (.lst vs)) (hi : IsAll K S vs ds) : DWk K τ S (Itl K a) ds := by
  have hl := hi.length
  refine ⟨fun i H h1 s => ⟨vs, vs[i]'(by omega), .inl (.inl (s _ _ h)), by simp⟩, fun H s => ⟨vs, .inl (.inl (s _ _ h)), by omega⟩, fun i H x H' h1 s y => ?_⟩
  obtain ⟨rfl, y⟩ := y
  have hx := y vs (.inl (.inl (s _ _ h)))
  obtain ⟨v, q1, q2⟩ := hi.get (i := i) (d := ds[i]) (by simp [h1])
  rw [q1] at hx
  cases hx
  exact ⟨ds[i], by simp [h1], fun S1 F ρ σ s1 e => ⟨S1, Same.refl S1, q2.mono s1, e⟩⟩
theorem dwk_tupQ {K : Fg} {S : Hp} {a : Addr} {vs : List V} {ds : List D} (h : ∀ H, Same S H → SqT K H a vs) (hi : IsAll K S vs ds) : DWk K τ S (Itt K a) ds := by
  have hl := hi.length
  refine ⟨fun i H h1 s => ⟨vs, vs[i]'(by omega), h H s, by simp⟩, fun H s => ⟨vs, h H s, by omega⟩, fun i H x H' h1 s y => ?_⟩
  obtain ⟨rfl, y⟩ := y
  have hx := y vs (h _ s)
  obtain ⟨v, q1, q2⟩ := hi.get (i := i) (d := ds[i]) (by simp [h1])
  rw [q1] at hx
  cases hx
  exact ⟨ds[i], by simp [h1], fun S1 F ρ σ s1 e => ⟨S1, Same.refl S1, q2.mono s1, e⟩⟩
theorem dwk_tup {K : Fg} {S : Hp} {a : Addr} {vs : List V} {ds : List D} (h : S a = some (.tup vs)) (hi : IsAll K S vs ds) : DWk K τ S (Itt K a) ds := dwk_tupQ (fun H s => .inl (.inl (s _ _ h))) hi
def rgD (lo : Int) (n : Nat) : List D := (List.range n).map fun i => D.int (lo + (i : Nat))
theorem dwk_range {K : Fg} {S : Hp} {lo : Int} {n : Nat} : DWk K τ S (Itr lo n) (rgD lo n) := by
  have hl : (rgD lo n).length = n := by simp [rgD]
  refine ⟨fun i H h1 s => ?_, fun H s => ?_, fun i H x H' h1 s y => ?_⟩
  · rw [hl] at h1; exact h1
  · rw [hl]; exact Nat.le_refl n
  · obtain ⟨rfl, rfl⟩ := y
    rw [hl] at h1
    exact ⟨.int (lo + i), by simp [rgD, h1], fun S1 F ρ σ s1 e => ⟨S1, Same.refl S1, .int _, e⟩⟩
/-- a list or a tuple, whichever it is -/
def wiSeq (wa : WE) : WL := fun ρ χ Φ => wa ρ χ fun d ρ1 => match d with
  | .lst ds => Φ ds ρ1
  | .tup ds => Φ ds ρ1
  | _ => False
theorem d_seq {X : Cx} {tg l : Expr} {W : WX} {wa : WE} (hl : PE X l (lE X.K τ W wa)) : PI X tg l (lI X.K τ W (wiSeq wa)) := by
  constructor; rintro pins s σ H R I ⟨ρ, S, F, χ, Φ, e, hw, hx, hp⟩
  have h' : lE X.K τ W wa σ H (fun x H1 => (∃ a xs, x = .ref a ∧ SqL X.K H1 a xs ∧ R (Itl X.K a) H1) ∨ ∃ a xs, x = .ref a ∧ SqT X.K H1 a xs ∧ R (Itt X.K a) H1) := by
    refine ⟨ρ, S, F, χ, _, e, hw, hx, fun v d ρ' S' H' q s' iv e' => ?_⟩
    cases iv with
    | lst h1 h2 => exact .inl ⟨_, _, rfl, .inl (.inl (e'.ex _ _ h1)), hp _ _ ρ' S' H' q s' e' (dwk_list h1 h2)⟩
    | tup h1 h2 => exact .inr ⟨_, _, rfl, .inl (.inl (e'.ex _ _ h1)), hp _ _ ρ' S' H' q s' e' (dwk_tup h1 h2)⟩
    | ktup h1 h2 a3 => exact .inr ⟨_, _, rfl, .inr h1, hp _ _ ρ' S' H' q s' e' (dwk_tupQ (fun _ _ => .inr h1) h2)⟩
    | _ => exact False.elim q
  refine thn (hl.run pins s σ H _ I h') fun v s1 ⟨x, H1, I1, r1, q1⟩ => ?_
  have fresh : ∀ b ∈ [s1.heap.objs.size], FpOk X pins H1 b := fun b hb => by
    cases List.mem_singleton.mp hb; exact Inv.fpOk I1 (Nat.le_refl _) (I1.hok.fresh (Nat.le_refl s1.heap.objs.size))
  rcases q1 with ⟨a, xs, rfl, hq, q⟩ | ⟨a, xs, rfl, hq, q⟩ <;> cases r1
  · obtain ⟨_, _, p, _⟩ := I1.list hq
    exact wpAny_pyIter_list p.isList ⟨_, _, _, _, H1, rfl, I1.kept (t' := s1.toks) fun _ _ z => Heap.get?_push_of_some _ z, turn_list a _, ⟨_, Heap.get?_push_size _ rfl, rfl, rfl⟩, fresh, q⟩
  · obtain ⟨_, _, p, _⟩ := I1.tuple hq
    exact wpAny_pyIter_tuple p ⟨_, _, _, _, H1, rfl, I1.kept (t' := s1.toks) fun _ _ z => Heap.get?_push_of_some _ z, turn_tuple a _, ⟨_, Heap.get?_push_size _ rfl, rfl, rfl⟩, fresh, q⟩
def wiRg1 (wa : WL) : WL := fun ρ χ Φ => wa ρ χ fun ds ρ1 => match ds with
  | [.int j] => (-(2 ^ 62) ≤ j ∧ j < 2 ^ 62) ∧ Φ (rgD 0 j.toNat) ρ1
  | _ => False
def wiRg2 (wa : WL) : WL := fun ρ χ Φ => wa ρ χ fun ds ρ1 => match ds with
  | [.int i, .int j] => (-(2 ^ 62) ≤ i ∧ i < 2 ^ 62 ∧ -(2 ^ 62) ≤ j ∧ j < 2 ^ 62) ∧ Φ (rgD i (j - i).toNat) ρ1
  | _ => False
theorem i_rg1 {K : Fg} {W : WX} {wa : WL} : ∀ σ H R, lI K τ W (wiRg1 wa) σ H R → iRng1 (lL K τ W wa) σ H R := by
  rintro σ H R ⟨ρ, S, F, χ, Φ, e, hw, hx, hp⟩
  refine ⟨ρ, S, F, χ, _, e, hw, hx, fun vs ds ρ1 S1 H1 h1 s1 i1 e1 => ?_⟩
  split at h1
  · cases i1 with
    | cons a b =>
      cases a
      cases b
      exact ⟨_, rfl, h1.1.1, h1.1.2, hp _ _ ρ1 S1 H1 h1.2 s1 e1 dwk_range⟩
  · exact h1.elim
theorem i_rg2 {K : Fg} {W : WX} {wa : WL} : ∀ σ H R, lI K τ W (wiRg2 wa) σ H R → iRng2 (lL K τ W wa) σ H R := by
  rintro σ H R ⟨ρ, S, F, χ, Φ, e, hw, hx, hp⟩
  refine ⟨ρ, S, F, χ, _, e, hw, hx, fun vs ds ρ1 S1 H1 h1 s1 i1 e1 => ?_⟩
  split at h1
  · cases i1 with
    | cons a b =>
      cases a
      cases b with
      | cons a b =>
        cases a
        cases b
        exact ⟨_, _, rfl, h1.1, hp _ _ ρ1 S1 H1 h1.2 s1 e1 dwk_range⟩
  · exact h1.elim

/-! ### for -/
def wForL (g : WG) (wb : WS) : List D → Rho → DE → Prop
  | [], ρ, Δ => Δ.nx ρ
  | d :: ds, ρ, Δ => g d ρ fun ρ1 => wb ρ1 { Δ with nx := fun ρ' => wForL g wb ds ρ' Δ, ct := fun ρ' => wForL g wb ds ρ' Δ, bk := Δ.nx }
def wFor (wi : WL) (g : WG) (wb : WS) : WS := fun ρ Δ => wi ρ Δ.xc fun ds ρ1 => wForL g wb ds ρ1 Δ
theorem l_for {K : Fg} {W : WX} {wi : WL} {g : WG} {wb : WS} : ∀ D σ H, lS K τ W (wFor wi g wb) D σ H → tFor (lI K τ W wi) (lG K τ g) (lS K τ W wb) D σ H := by
  rintro D σ H ⟨ρ, S, F, Δ, e, hw, hx, h1, h2, h3, h4, h5⟩
  refine ⟨ρ, S, F, _, _, e, hw, hx, fun J ds ρ1 S1 H1 q1 s1 e1 wk => ?_⟩
  refine ⟨fun i m σ' H' => m = ds.length - i ∧ i ≤ ds.length ∧ ∃ ρ' S', Same S1 S' ∧ ER K τ S' F H' ρ' σ' ∧ wForL g wb (ds.drop i) ρ' Δ, ⟨_, rfl, Nat.zero_le _, ρ1, S1, Same.refl S1, e1, q1⟩, ?_⟩
  rintro i m σ' H' ⟨rfl, hi, ρ', S', s', e', q⟩
  by_cases hlt : i < ds.length
  · refine .inr ⟨wk.go i H' hlt (s'.trans e'.ex), fun σ2 H2 => ∃ ρ2 S2, Same S1 S2 ∧ ER K τ S2 F H2 ρ2 σ2 ∧ wForL g wb (ds.drop (i + 1)) ρ2 Δ, fun σ2 H2 n2 => ⟨ds.length - (i + 1), by omega, rfl, hlt, n2⟩, fun x H2 y => ?_⟩
    obtain ⟨d, hd, y2⟩ := wk.yld i H' x H2 hlt (s'.trans e'.ex) y
    obtain ⟨S2, s2, i2, e2⟩ := y2 S' F ρ' σ' s' e'
    have ed : ds.drop i = d :: ds.drop (i + 1) := by
      rw [(List.drop_eq_getElem_cons hlt)]
      rw [List.getElem?_eq_getElem hlt] at hd
      rw [Option.some.inj hd]
    rw [ed] at q
    refine ⟨ρ', S2, F, d, _, e2, i2, q, fun ρ3 S3 σ3 H3 q3 s3 e3 => ?_⟩
    have t3 : Same S S3 := ((s1.trans s').trans s2).trans s3
    exact ⟨ρ3, S3, F, _, e3, q3, hx.mono t3, fun ρ4 S4 σ4 H4 a b c => ⟨ρ4, S4, ((s'.trans s2).trans s3).trans b, c, a⟩, fun d v ρ4 S4 σ4 H4 a b c f => h2 d v ρ4 S4 σ4 H4 a (t3.trans b) c f,
      fun ρ4 S4 σ4 H4 a b c => h1 ρ4 S4 σ4 H4 a (t3.trans b) c, fun ρ4 S4 σ4 H4 a b c => ⟨ρ4, S4, ((s'.trans s2).trans s3).trans b, c, a⟩, fun l od o ρ4 S4 σ4 H4 a b => h5 l od o ρ4 S4 σ4 H4 a (t3.trans b)⟩
  · have ei : i = ds.length := by omega
    subst ei
    rw [List.drop_length] at q
    exact .inl ⟨wk.stop H' (s'.trans e'.ex), h1 ρ' S' σ' H' q (s1.trans s') e'⟩
end DL
set_option Elab.async false
set_option autoImplicit false
set_option linter.all false
set_option maxRecDepth 100000
set_option maxHeartbeats 3900000
namespace DL
open L2 PyProof.Rows PySem PySem.Spec
variable {τ : Tb}

/-! ### operators -/
def wAdd : D → D → (D → Prop) → Prop := fun x y Φ => match x, y with
  | .int a, .int b => Φ (.int (a + b))
  | .str a, .str b => a.length + b.length ≤ sizeLine ∧ Φ (.str (a ++ b))
  | .lst a, .lst b => a.length + b.length ≤ sizeLine ∧ Φ (.lst (a ++ b))
  | .tup a, .tup b => a.length + b.length ≤ sizeLine ∧ Φ (.tup (a ++ b))
  | _, _ => False
def wSub : D → D → (D → Prop) → Prop := fun x y Φ => match x, y with
  | .int a, .int b => Φ (.int (a - b))
  | _, _ => False
def wMul : D → D → (D → Prop) → Prop := fun x y Φ => match x, y with
  | .int a, .int b => CMul a b ∧ Φ (.int (a * b))
  | .lst a, .int k => -(2 ^ 63) ≤ k ∧ k < 2 ^ 63 ∧ a.length * k.toNat ≤ sizeLine ∧ Φ (.lst (List.replicate k.toNat a).flatten)
  | _, _ => False
def wMod : D → D → (D → Prop) → Prop := fun x y Φ => match x, y with
  | .int a, .int b => 0 < b ∧ Φ (.int (a % b))
  | _, _ => False
def wDiv : D → D → (D → Prop) → Prop := fun x y Φ => match x, y with
  | .int a, .int b => CDiv a b ∧ Φ (.int (a / b))
  | _, _ => False
def wPow : D → D → (D → Prop) → Prop := fun x y Φ => match x, y with
  | .int a, .int b => CPow a b ∧ Φ (.int (a ^ b.toNat))
  | _, _ => False
def wCmp (p : Int → Int → Bool) : D → D → (D → Prop) → Prop := fun x y Φ => match x, y with
  | .int a, .int b => Φ (.bl (p a b))
  | _, _ => False
section
variable {K : Fg}
theorem ok_I0 {g : Int → Int → Int} {wr : D → D → (D → Prop) → Prop} (h : ∀ x y Φ, wr x y Φ → ∃ a b, x = .int a ∧ y = .int b ∧ Φ (.int (g a b))) : OpOk K τ (rI0 fun i j => .int (g i j)) wr := by
  intro S F H ρ σ x y dx dy Φ Q e ix iy hw hp
  obtain ⟨a, b, rfl, rfl, q⟩ := h _ _ _ hw
  cases ix
  cases iy
  exact ⟨a, b, rfl, rfl, hp _ _ S H q (Same.refl S) (.int _) e⟩
theorem ok_I {C : Int → Int → Prop} {g : Int → Int → Int} {wr : D → D → (D → Prop) → Prop} (h : ∀ x y Φ, wr x y Φ → ∃ a b, x = .int a ∧ y = .int b ∧ C a b ∧ Φ (.int (g a b))) : OpOk K τ (rI C fun i j => .int (g i j)) wr := by
  intro S F H ρ σ x y dx dy Φ Q e ix iy hw hp
  obtain ⟨a, b, rfl, rfl, hc, q⟩ := h _ _ _ hw
  cases ix
  cases iy
  exact ⟨a, b, rfl, rfl, hc, hp _ _ S H q (Same.refl S) (.int _) e⟩
theorem ok_B0 {p : Int → Int → Bool} : OpOk K τ (rI0 fun i j => .bl (p i j)) (wCmp p) := by
  intro S F H ρ σ x y dx dy Φ Q e ix iy hw hp
  unfold wCmp at hw
  split at hw
  · cases ix
    cases iy
    exact ⟨_, _, rfl, rfl, hp _ _ S H hw (Same.refl S) (.bl _) e⟩
  · exact hw.elim
theorem ok_sub : OpOk K τ (rI0 fun i j => .int (i - j)) wSub := ok_I0 fun x y Φ h => by
  unfold wSub at h
  split at h
  · exact ⟨_, _, rfl, rfl, h⟩
  · exact h.elim
theorem ok_mod : OpOk K τ (rI (fun _ j => 0 < j) fun i j => .int (i % j)) wMod := ok_I fun x y Φ h => by
  unfold wMod at h
  split at h
  · exact ⟨_, _, rfl, rfl, h.1, h.2⟩
  · exact h.elim
theorem ok_div : OpOk K τ (rI CDiv fun i j => .int (i / j)) wDiv := ok_I fun x y Φ h => by
  unfold wDiv at h
  split at h
  · exact ⟨_, _, rfl, rfl, h.1, h.2⟩
  · exact h.elim
theorem ok_pow : OpOk K τ (rI CPow fun i j => .int (i ^ j.toNat)) wPow := ok_I fun x y Φ h => by
  unfold wPow at h
  split at h
  · exact ⟨_, _, rfl, rfl, h.1, h.2⟩
  · exact h.elim
def rAddD (K : Fg) : R2 := fun x y H Q => rI0 (fun i j => .int (i + j)) x y H Q ∨ (∃ i j, x = .str i ∧ y = .str j ∧ i.length + j.length ≤ sizeLine ∧ Q (.str (i ++ j)) H) ∨ rCat x y H Q ∨ rCatA K x y H Q
theorem ok_add : OpOk K τ (rAddD K) wAdd := by
  intro S F H ρ σ x y dx dy Φ Q e ix iy hw hp
  unfold wAdd at hw
  split at hw
  · cases ix
    cases iy
    exact .inl ⟨_, _, rfl, rfl, hp _ _ S H hw (Same.refl S) (.int _) e⟩
  · cases ix
    cases iy
    exact .inr (.inl ⟨_, _, rfl, rfl, hw.1, hp _ _ S H hw.2 (Same.refl S) (.str _) e⟩)
  · cases ix with
    | lst a1 a2 =>
      cases iy with
      | lst b1 b2 =>
        refine .inr (.inr (.inl ⟨_, _, _, _, rfl, rfl, e.ex _ _ a1, e.ex _ _ b1, by rw [a2.length, b2.length]; exact hw.1, fun p hp1 => ?_⟩))
        exact hp _ _ _ _ hw.2 (e.sn hp1) (.lst upd_same ((a2.append b2).mono (e.sn hp1))) (e.new hp1)
  · obtain ⟨a, vs, rfl, a2, a1⟩ := ix.tup_inv
    obtain ⟨b, us, rfl, b2, b1⟩ := iy.tup_inv
    refine .inr (.inr (.inr ⟨_, _, _, _, rfl, rfl, a1 _ e.ex, b1 _ e.ex, by rw [a2.length, b2.length]; exact hw.1, ?_⟩))
    refine ⟨fun z => ?_, fun z1 z2 => ?_, fun _ _ p hp1 => hp _ _ _ _ hw.2 (e.sn hp1) (.tup upd_same ((a2.append b2).mono (e.sn hp1))) (e.new hp1)⟩
    · subst z
      cases a2
      exact hp _ _ S H hw.2 (Same.refl S) iy e
    · subst z2
      cases b2
      exact hp _ _ S H (by rw [List.append_nil] at hw; exact hw.2) (Same.refl S) ix e
  · exact hw.elim
def rMulD : R2 := fun x y H Q => rI CMul (fun i j => .int (i * j)) x y H Q ∨ rRep x y H Q
theorem isAll_rep {S : Hp} {xs : List V} {ds : List D} (h : IsAll K S xs ds) : ∀ n : Nat, IsAll K S (List.replicate n xs).flatten (List.replicate n ds).flatten
  | 0 => .nil
  | n + 1 => by
    simp only [List.replicate_succ, List.flatten_cons]
    exact h.append (isAll_rep h n)
theorem ok_mul : OpOk K τ rMulD wMul := by
  intro S F H ρ σ x y dx dy Φ Q e ix iy hw hp
  unfold wMul at hw
  split at hw
  · cases ix
    cases iy
    exact .inl ⟨_, _, rfl, rfl, hw.1, hp _ _ S H hw.2 (Same.refl S) (.int _) e⟩
  · cases ix with
    | lst a1 a2 =>
      cases iy
      obtain ⟨h1, h2, h3, h4⟩ := hw
      exact .inr ⟨_, _, _, rfl, rfl, e.ex _ _ a1, h1, h2, by rw [a2.length]; exact h3, fun p hp1 => hp _ _ _ _ h4 (e.sn hp1) (.lst upd_same ((isAll_rep a2 _).mono (e.sn hp1))) (e.new hp1)⟩
  · exact hw.elim
end
theorem or_add {X : Cx} : OpR X (binaryOp .Add) (rAddD X.K) := op_add.or (op_add_str.or (op_cat.or op_catA))
theorem or_mul {X : Cx} : OpR X (binaryOp .Mult) rMulD := op_mul.or op_rep

/-! ### plain data as the model's -/
mutual
def pyOf : D → Option PyData
  | .non => some .none
  | .bl b => some (.bool b)
  | .int i => some (.int i)
  | .str s => some (.str s)
  | .lst xs => match pyOfL xs with
    | some ps => some (.list ps)
    | none => none
  | .tup xs => match pyOfL xs with
    | some ps => some (.tuple ps)
    | none => none
  | .obj _ _ _ => none
  | .dic _ _ => none
  | .dct _ _ => none
  | .scr _ => none
  | .raw _ => none
  | .exn _ _ _ _ => none
  | .err _ _ _ => none
def pyOfL : List D → Option (List PyData)
  | [] => some []
  | x :: xs => match pyOf x, pyOfL xs with
    | some p, some ps => some (p :: ps)
    | _, _ => none
end
section
variable {K : Fg} {S H : Hp}
theorem both_dp (ex : Same S H) : (∀ v d, Is K S v d → ∀ p, pyOf d = some p → Dp K H v p) ∧ (∀ vs ds, IsAll K S vs ds → ∀ ps, pyOfL ds = some ps → DpAll K H vs ps) := by
  have h1 : ∀ {a : Addr} {vs : List V} {ds : List D}, S a = some (.lst vs) → IsAll K S vs ds → (∀ ps, pyOfL ds = some ps → DpAll K H vs ps) → ∀ p, pyOf (.lst ds) = some p → Dp K H (.ref a) p := fun {a vs ds} h _ ih p hp => by
    unfold pyOf at hp
    split at hp
    · rename_i ps hps
      cases hp
      exact .lst (.inl (.inl (ex _ _ h))) (ih _ hps)
    · cases hp
  have h2 : ∀ {a : Addr} {vs : List V} {ds : List D}, S a = some (.tup vs) → IsAll K S vs ds → (∀ ps, pyOfL ds = some ps → DpAll K H vs ps) → ∀ p, pyOf (.tup ds) = some p → Dp K H (.ref a) p := fun {a vs ds} h _ ih p hp => by
    unfold pyOf at hp
    split at hp
    · rename_i ps hps
      cases hp
      exact .tup (.inl (.inl (ex _ _ h))) (ih _ hps)
    · cases hp
  have h5 : ∀ {a : Addr} {vs : List V} {ds : List D}, KT K a vs → IsAll K S vs ds → ds = [] → (∀ ps, pyOfL ds = some ps → DpAll K H vs ps) → ∀ p, pyOf (.tup ds) = some p → Dp K H (.ref a) p := fun {a vs ds} h _ _ ih p hp => by
    unfold pyOf at hp
    split at hp
    · rename_i ps hps
      cases hp
      exact .tup (.inr h) (ih _ hps)
    · cases hp
  have h3 : ∀ ps, pyOfL [] = some ps → DpAll K H [] ps := fun ps h => by
    unfold pyOfL at h
    cases h
    exact .nil
  have h4 : ∀ {v : V} {vs : List V} {d : D} {ds : List D}, Is K S v d → IsAll K S vs ds → (∀ p, pyOf d = some p → Dp K H v p) → (∀ ps, pyOfL ds = some ps → DpAll K H vs ps) → ∀ ps, pyOfL (d :: ds) = some ps → DpAll K H (v :: vs) ps := fun {v vs d ds} _ _ a b ps h => by
    unfold pyOfL at h
    split at h
    · rename_i p ps' e1 e2
      cases h
      exact .cons (a _ e1) (b _ e2)
    · cases h
  refine ⟨fun v d h => ?_, fun vs ds h => ?_⟩
  · exact Is.rec (motive_1 := fun v d _ => ∀ p, pyOf d = some p → Dp K H v p) (motive_2 := fun vs ds _ => ∀ ps, pyOfL ds = some ps → DpAll K H vs ps)
      (fun p h => by unfold pyOf at h; cases h; exact .non) (fun b p h => by unfold pyOf at h; cases h; exact .bl b) (fun i p h => by unfold pyOf at h; cases h; exact .int i) (fun x p h => by unfold pyOf at h; cases h; exact .str x)
      h1 h2 (fun _ _ _ _ p h => by unfold pyOf at h; cases h) (fun _ _ _ _ p h => by unfold pyOf at h; cases h) (fun _ _ _ _ p h => by unfold pyOf at h; cases h) (fun _ p h => by unfold pyOf at h; cases h) (fun _ p h => by unfold pyOf at h; cases h) (fun _ _ _ p h => by unfold pyOf at h; cases h) (fun _ _ _ _ _ p h => by unfold pyOf at h; cases h) h5 h3 h4 h
  · exact IsAll.rec (motive_1 := fun v d _ => ∀ p, pyOf d = some p → Dp K H v p) (motive_2 := fun vs ds _ => ∀ ps, pyOfL ds = some ps → DpAll K H vs ps)
      (fun p h => by unfold pyOf at h; cases h; exact .non) (fun b p h => by unfold pyOf at h; cases h; exact .bl b) (fun i p h => by unfold pyOf at h; cases h; exact .int i) (fun x p h => by unfold pyOf at h; cases h; exact .str x)
      h1 h2 (fun _ _ _ _ p h => by unfold pyOf at h; cases h) (fun _ _ _ _ p h => by unfold pyOf at h; cases h) (fun _ _ _ _ p h => by unfold pyOf at h; cases h) (fun _ p h => by unfold pyOf at h; cases h) (fun _ p h => by unfold pyOf at h; cases h) (fun _ _ _ p h => by unfold pyOf at h; cases h) (fun _ _ _ _ _ p h => by unfold pyOf at h; cases h) h5 h3 h4 h
theorem Is.dp {v : V} {d : D} {p : PyData} (h : Is K S v d) (ex : Same S H) (hp : pyOf d = some p) : Dp K H v p := (both_dp ex).1 v d h p hp
end
def wEq (neg : Bool) : D → D → (D → Prop) → Prop := fun x y Φ => ∃ p q, pyOf x = some p ∧ pyOf y = some q ∧ SeqAt.shaped p = true ∧ SeqAt.shaped q = true ∧ Φ (.bl (if neg = true then !PyData.eqv p q else PyData.eqv p q))
theorem ok_eq {K : Fg} : OpOk K τ (rEqD K) (wEq false) := by
  intro S F H ρ σ x y dx dy Φ Q e ix iy ⟨p, q, h1, h2, h3, h4, h5⟩ hp
  exact ⟨p, q, ix.dp e.ex h1, iy.dp e.ex h2, h3, h4, hp _ _ S H h5 (Same.refl S) (.bl _) e⟩
theorem ok_ne {K : Fg} : OpOk K τ (rNeD K) (wEq true) := by
  intro S F H ρ σ x y dx dy Φ Q e ix iy ⟨p, q, h1, h2, h3, h4, h5⟩ hp
  exact ⟨p, q, ix.dp e.ex h1, iy.dp e.ex h2, h3, h4, hp _ _ S H h5 (Same.refl S) (.bl _) e⟩
/-- is None, is not None -/
def isNon : D → Option Bool
  | .non => some true
  | .raw _ => none
  | .exn _ _ _ _ => none
  | .err _ _ _ => none
  | _ => some false
def wIsN (neg : Bool) : D → D → (D → Prop) → Prop := fun x y Φ => y = .non ∧ ∃ b, isNon x = some b ∧ Φ (.bl (if neg = true then !b else b))
theorem Is.isN {K : Fg} {S : Hp} {v : V} {d : D} {b : Bool} (h : Is K S v d) (hb : isNon d = some b) : decide (v = .non) = b := by
  cases h <;> (unfold isNon at hb; cases hb) <;> first | exact decide_eq_true rfl | exact decide_eq_false (fun z => nomatch z)
theorem ok_isN {K : Fg} : OpOk K τ (fun x y H Q => y = .non ∧ Q (.bl (decide (x = .non))) H) (wIsN false) := by
  rintro S F H ρ σ x y dx dy Φ Q e ix iy ⟨rfl, b, h1, h2⟩ hp
  cases iy
  refine ⟨rfl, hp _ _ S H h2 (Same.refl S) ?_ e⟩
  rw [ix.isN h1]
  exact .bl b
theorem ok_notN {K : Fg} : OpOk K τ (fun x y H Q => y = .non ∧ Q (.bl (!decide (x = .non))) H) (wIsN true) := by
  rintro S F H ρ σ x y dx dy Φ Q e ix iy ⟨rfl, b, h1, h2⟩ hp
  cases iy
  refine ⟨rfl, hp _ _ S H h2 (Same.refl S) ?_ e⟩
  rw [ix.isN h1]
  exact .bl (!b)

/-! ### items and slices -/
def wIx : D → D → (D → Prop) → Prop := fun x y Φ => match x, y with
  | .lst ds, .int i => ∃ d, atI ds i = some d ∧ Φ d
  | .tup ds, .int i => ∃ d, atI ds i = some d ∧ Φ d
  | .scr is, .int i => ∃ n, atI is i = some n ∧ Φ (.int n)
  | .str z, .int i => ∃ c, z.length ≤ sizeLine ∧ atI z.cps.toList i = some c ∧ Φ (.str ⟨#[c]⟩)
  | _, _ => False
theorem atI_all {K : Fg} {S : Hp} {vs : List V} {ds : List D} {i : Int} {d : D} (h : IsAll K S vs ds) (e : atI ds i = some d) : ∃ v, atI vs i = some v ∧ Is K S v d := by
  unfold atI at e ⊢
  rw [h.length]
  cases q : ixN ds.length i with
  | none => exact absurd (q ▸ e) (by intro z; cases z)
  | some j => rw [q] at e; exact h.get e
theorem ok_ix {K : Fg} : OpOk K τ (rIx K) wIx := by
  intro S F H ρ σ x y dx dy Φ Q e ix iy hw hp
  unfold wIx at hw
  split at hw
  · obtain ⟨d, h1, h2⟩ := hw
    cases ix with
    | lst a1 a2 =>
      cases iy
      obtain ⟨v, h3, h4⟩ := atI_all a2 h1
      exact .inl ⟨_, _, _, v, rfl, rfl, .inl (.inl (e.ex _ _ a1)), h3, hp _ _ S H h2 (Same.refl S) h4 e⟩
  · obtain ⟨d, h1, h2⟩ := hw
    cases ix with
    | tup a1 a2 =>
      cases iy
      obtain ⟨v, h3, h4⟩ := atI_all a2 h1
      exact .inr (.inl ⟨_, _, _, v, rfl, rfl, .inl (.inl (e.ex _ _ a1)), h3, hp _ _ S H h2 (Same.refl S) h4 e⟩)
    | ktup a1 a2 a3 =>
      cases iy
      obtain ⟨v, h3, h4⟩ := atI_all a2 h1
      exact .inr (.inl ⟨_, _, _, v, rfl, rfl, .inr a1, h3, hp _ _ S H h2 (Same.refl S) h4 e⟩)
  · obtain ⟨n, h1, h2⟩ := hw
    cases ix with
    | scr a1 =>
      cases iy
      refine .inl ⟨_, _, _, .int n, rfl, rfl, e.ex.seq a1, ?_, hp _ _ S H h2 (Same.refl S) (.int n) e⟩
      unfold atI at h1 ⊢
      rw [List.length_map]
      cases q : ixN _ _ with
      | none => rw [q] at h1; cases h1
      | some j =>
        rw [q] at h1
        rw [Option.bind_some] at h1 ⊢
        rw [List.getElem?_map, h1]
        rfl
  · obtain ⟨c, h1, h2, h3⟩ := hw
    cases ix
    cases iy
    exact .inr (.inr ⟨_, _, c, rfl, rfl, h1, h2, hp _ _ S H h3 (Same.refl S) (.str _) e⟩)
  · exact hw.elim
abbrev WO := Rho → XC → (Option Int → Rho → Prop) → Prop
def lO (K : Fg) (τ : Tb) (W : WX) (w : WO) : TO := fun σ H Q => ∃ ρ S F χ Φ, ER K τ S F H ρ σ ∧ w ρ χ Φ ∧ XOk K τ F W S χ ∧ ∀ o ρ' S' H', Φ o ρ' → Same S S' → ER K τ S' F H' ρ' σ → Q o H'
def woNone : WO := fun ρ _ Φ => Φ none ρ
def woSome (wa : WE) : WO := fun ρ χ Φ => wa ρ χ fun d ρ1 => match d with
  | .int i => Φ (some i) ρ1
  | _ => False
def cutD {α : Type} (xs : List α) (lo hi : Option Int) : List α := (xs.drop (HT.sIx xs.length 0 lo)).take (HT.sIx xs.length xs.length hi - HT.sIx xs.length 0 lo)
def wSl (wa : WE) (wl wh : WO) : WE := fun ρ χ Φ => wa ρ χ fun x ρ1 => wl ρ1 χ fun lo ρ2 => wh ρ2 χ fun hi ρ3 => match x with
  | .lst ds => Φ (.lst (cutD ds lo hi)) ρ3
  | .tup ds => Φ (.tup (cutD ds lo hi)) ρ3
  | _ => False
def rSlD (K : Fg) : V → Option Int → Option Int → Hp → VK → Prop := fun x lo hi H Q => rSlL K x lo hi H Q ∨ rSlA K x lo hi H Q
theorem SlR.or {X : Cx} {r r' : V → Option Int → Option Int → Hp → VK → Prop} (h : SlR X r) (h' : SlR X r') : SlR X (fun x lo hi H Q => r x lo hi H Q ∨ r' x lo hi H Q) := by
  intro _ _ _ _ _ _ _ _ _ _ _ _ I rx hs pl pu q
  exact q.elim (h _ _ _ _ _ _ _ _ _ _ _ _ I rx hs pl pu) (h' _ _ _ _ _ _ _ _ _ _ _ _ I rx hs pl pu)
theorem l_sl {K : Fg} {W : WX} {wa : WE} {wl wh : WO} : ∀ σ H Q, lE K τ W (wSl wa wl wh) σ H Q → tSl (rSlD K) (lE K τ W wa) (lO K τ W wl) (lO K τ W wh) σ H Q := by
  rintro σ H Q ⟨ρ, S, F, χ, Φ, e, hw, hx, hp⟩
  refine ⟨ρ, S, F, χ, _, e, hw, hx, fun x dx ρ1 S1 H1 h1 s1 i1 e1 => ?_⟩
  refine ⟨ρ1, S1, F, χ, _, e1, h1, hx.mono s1, fun lo ρ2 S2 H2 h2 s2 e2 => ?_⟩
  refine ⟨ρ2, S2, F, χ, _, e2, h2, hx.mono (s1.trans s2), fun hi ρ3 S3 H3 h3 s3 e3 => ?_⟩
  have i3 := i1.mono (s2.trans s3)
  have t3 := (s1.trans s2).trans s3
  cases i3 with
  | lst a1 a2 =>
    refine .inl ⟨_, _, rfl, .inl (.inl (e3.ex _ _ a1)), fun p hp1 => ?_⟩
    refine hp _ _ ρ3 _ _ h3 (t3.trans (e3.sn hp1)) (.lst upd_same ?_) (e3.new hp1)
    unfold cutV cutD
    rw [← a2.length]
    exact ((a2.drop _).take _).mono (e3.sn hp1)
  | tup a1 a2 =>
    refine .inr ⟨_, _, rfl, .inl (.inl (e3.ex _ _ a1)), fun z => ?_, fun _ p hp1 => ?_⟩
    · refine hp _ _ ρ3 S3 H3 h3 t3 ?_ e3
      unfold cutD
      rw [a2.length] at z
      rw [z.1, z.2, List.drop_zero, Nat.sub_zero, List.take_length]
      exact .tup a1 a2
    · refine hp _ _ ρ3 _ _ h3 (t3.trans (e3.sn hp1)) (.tup upd_same ?_) (e3.new hp1)
      unfold cutV cutD
      rw [← a2.length]
      exact ((a2.drop _).take _).mono (e3.sn hp1)
  | ktup a1 a2 a3 =>
    refine .inr ⟨_, _, rfl, .inr a1, fun z => ?_, fun _ p hp1 => ?_⟩
    · refine hp _ _ ρ3 S3 H3 h3 t3 ?_ e3
      unfold cutD
      rw [a2.length] at z
      rw [z.1, z.2, List.drop_zero, Nat.sub_zero, List.take_length]
      exact .ktup a1 a2 a3
    · refine hp _ _ ρ3 _ _ h3 (t3.trans (e3.sn hp1)) (.tup upd_same ?_) (e3.new hp1)
      unfold cutV cutD
      rw [← a2.length]
      exact ((a2.drop _).take _).mono (e3.sn hp1)
  | _ => exact False.elim h3
theorem o_none {K : Fg} {W : WX} : ∀ σ H Q, lO K τ W woNone σ H Q → tNoPart σ H Q := by
  rintro σ H Q ⟨ρ, S, F, χ, Φ, e, hw, hx, hp⟩
  exact hp none ρ S H hw (Same.refl S) e
theorem o_some {K : Fg} {W : WX} {wa : WE} : ∀ σ H Q, lO K τ W (woSome wa) σ H Q → tPart (lE K τ W wa) σ H Q := by
  rintro σ H Q ⟨ρ, S, F, χ, Φ, e, hw, hx, hp⟩
  refine ⟨ρ, S, F, χ, _, e, hw, hx, fun x dx ρ1 S1 H1 h1 s1 i1 e1 => ?_⟩
  cases i1 with
  | int i => exact ⟨i, rfl, hp _ ρ1 S1 H1 h1 s1 e1⟩
  | _ => exact False.elim h1
end DL
set_option Elab.async false
set_option autoImplicit false
set_option linter.all false
set_option maxRecDepth 100000
set_option maxHeartbeats 3900000
namespace DL
open L2 PyProof.Rows PySem PySem.Spec
variable {τ : Tb}

theorem CallR.or {X : Cx} {f : Value} {r r' : List V → Hp → VK → Prop} (h : CallR X f r) (h' : CallR X f r') : CallR X f (fun xs H Q => r xs H Q ∨ r' xs H Q) := by
  intro _ _ _ _ _ _ _ I r q
  exact q.elim (h _ _ _ _ _ _ _ I r) (h' _ _ _ _ _ _ _ I r)
/-! ### built-ins by name -/
abbrev WCl := List D → (D → Prop) → Prop
def wLen : WCl := fun ds Φ => match ds with
  | [.lst xs] => Φ (.int xs.length)
  | [.tup xs] => Φ (.int xs.length)
  | [.scr is] => Φ (.int is.length)
  | [.str z] => z.length ≤ sizeLine ∧ Φ (.int z.length)
  | _ => False
def rLenD (K : Fg) : List V → Hp → VK → Prop := fun xs H Q => (∃ p ys, xs = [.ref p] ∧ (SqL K H p ys ∨ SqT K H p ys) ∧ Q (.int ys.length) H) ∨ ∃ z, xs = [.str z] ∧ z.length ≤ sizeLine ∧ Q (.int z.length) H
theorem cr_lenD {X : Cx} : CallR X (.builtin "len") (rLenD X.K) := CallR.or call_len_seq call_len_str
theorem isAll1 {K : Fg} {S : Hp} {vs : List V} {d : D} (h : IsAll K S vs [d]) : ∃ v, vs = [v] ∧ Is K S v d := by
  cases h with
  | cons a b => cases b; exact ⟨_, rfl, a⟩
theorem isAll2 {K : Fg} {S : Hp} {vs : List V} {d e : D} (h : IsAll K S vs [d, e]) : ∃ v u, vs = [v, u] ∧ Is K S v d ∧ Is K S u e := by
  cases h with
  | cons a b => cases b with
    | cons b c => cases c; exact ⟨_, _, rfl, a, b⟩
section
variable {K : Fg}
theorem ok_len : CallOk K τ (rLenD K) wLen := by
  intro S F H ρ σ vs ds Φ Q e hi hw hp
  unfold wLen at hw
  split at hw
  · obtain ⟨v, rfl, iv⟩ := isAll1 hi
    cases iv with
    | lst a1 a2 => exact .inl ⟨_, _, rfl, .inl (.inl (.inl (e.ex _ _ a1))), by rw [a2.length]; exact hp _ _ S H hw (Same.refl S) (.int _) e⟩
  · obtain ⟨v, rfl, iv⟩ := isAll1 hi
    cases iv with
    | tup a1 a2 => exact .inl ⟨_, _, rfl, .inr (.inl (.inl (e.ex _ _ a1))), by rw [a2.length]; exact hp _ _ S H hw (Same.refl S) (.int _) e⟩
    | ktup a1 a2 a3 => exact .inl ⟨_, _, rfl, .inr (.inr a1), by rw [a2.length]; exact hp _ _ S H hw (Same.refl S) (.int _) e⟩
  · obtain ⟨v, rfl, iv⟩ := isAll1 hi
    cases iv with
    | scr a1 => exact .inl ⟨_, _, rfl, .inl (e.ex.seq a1), by rw [List.length_map]; exact hp _ _ S H hw (Same.refl S) (.int _) e⟩
  · obtain ⟨v, rfl, iv⟩ := isAll1 hi
    cases iv
    exact .inr ⟨_, rfl, hw.1, hp _ _ S H hw.2 (Same.refl S) (.int _) e⟩
  · exact hw.elim
def wAbs : WCl := fun ds Φ => match ds with
  | [.int i] => Φ (.int (if i < 0 then -i else i))
  | _ => False
theorem ok_abs : CallOk K τ (fun xs H Q => ∃ i, xs = [.int i] ∧ Q (.int (if i < 0 then -i else i)) H) wAbs := by
  intro S F H ρ σ vs ds Φ Q e hi hw hp
  unfold wAbs at hw
  split at hw
  · obtain ⟨v, rfl, iv⟩ := isAll1 hi
    cases iv
    exact ⟨_, rfl, hp _ _ S H hw (Same.refl S) (.int _) e⟩
  · exact hw.elim
def wMin2 : WCl := fun ds Φ => match ds with
  | [.int i, .int j] => Φ (.int (if j < i then j else i))
  | _ => False
def wMax2 : WCl := fun ds Φ => match ds with
  | [.int i, .int j] => Φ (.int (if j > i then j else i))
  | _ => False
theorem ok_min2 : CallOk K τ (fun xs H Q => ∃ i j, xs = [.int i, .int j] ∧ Q (.int (if j < i then j else i)) H) wMin2 := by
  intro S F H ρ σ vs ds Φ Q e hi hw hp
  unfold wMin2 at hw
  split at hw
  · obtain ⟨v, u, rfl, iv, iu⟩ := isAll2 hi
    cases iv
    cases iu
    exact ⟨_, _, rfl, hp _ _ S H hw (Same.refl S) (.int _) e⟩
  · exact hw.elim
theorem ok_max2 : CallOk K τ (fun xs H Q => ∃ i j, xs = [.int i, .int j] ∧ Q (.int (if j > i then j else i)) H) wMax2 := by
  intro S F H ρ σ vs ds Φ Q e hi hw hp
  unfold wMax2 at hw
  split at hw
  · obtain ⟨v, u, rfl, iv, iu⟩ := isAll2 hi
    cases iv
    cases iu
    exact ⟨_, _, rfl, hp _ _ S H hw (Same.refl S) (.int _) e⟩
  · exact hw.elim
def wInt : WCl := fun ds Φ => match ds with
  | [.int i] => Φ (.int i)
  | [.bl k] => Φ (.int (if k then 1 else 0))
  | _ => False
theorem ok_int : CallOk K τ (fun xs H Q => (∃ i, xs = [.int i] ∧ Q (.int i) H) ∨ ∃ k, xs = [.bl k] ∧ Q (.int (if k then 1 else 0)) H) wInt := by
  intro S F H ρ σ vs ds Φ Q e hi hw hp
  unfold wInt at hw
  split at hw
  · obtain ⟨v, rfl, iv⟩ := isAll1 hi
    cases iv
    exact .inl ⟨_, rfl, hp _ _ S H hw (Same.refl S) (.int _) e⟩
  · obtain ⟨v, rfl, iv⟩ := isAll1 hi
    cases iv
    exact .inr ⟨_, rfl, hp _ _ S H hw (Same.refl S) (.int _) e⟩
  · exact hw.elim
def wStr : WCl := fun ds Φ => match ds with
  | [.int i] => i.natAbs.log2 < 1920 ∧ Φ (.str (toString i))
  | _ => False
theorem ok_str : CallOk K τ (fun xs H Q => ∃ i, xs = [.int i] ∧ i.natAbs.log2 < 1920 ∧ Q (.str (toString i)) H) wStr := by
  intro S F H ρ σ vs ds Φ Q e hi hw hp
  unfold wStr at hw
  split at hw
  · obtain ⟨v, rfl, iv⟩ := isAll1 hi
    cases iv
    exact ⟨_, rfl, hw.1, hp _ _ S H hw.2 (Same.refl S) (.str _) e⟩
  · exact hw.elim
def wTupOf : WCl := fun ds Φ => match ds with
  | [.lst xs] => Φ (.tup xs)
  | [.tup xs] => Φ (.tup xs)
  | _ => False
theorem ok_tupOf : CallOk K τ (fun xs H Q => ∃ p ys, xs = [.ref p] ∧ ((SqL K H p ys ∧ ∀ l, H l = none → Q (.ref l) (upd H l (.tup ys))) ∨ (SqT K H p ys ∧ Q (.ref p) H))) wTupOf := by
  intro S F H ρ σ vs ds Φ Q e hi hw hp
  unfold wTupOf at hw
  split at hw
  · obtain ⟨v, rfl, iv⟩ := isAll1 hi
    cases iv with
    | lst a1 a2 => exact ⟨_, _, rfl, .inl ⟨.inl (.inl (e.ex _ _ a1)), fun p hp1 => hp _ _ _ _ hw (e.sn hp1) (.tup upd_same (a2.mono (e.sn hp1))) (e.new hp1)⟩⟩
  · obtain ⟨v, rfl, iv⟩ := isAll1 hi
    cases iv with
    | tup a1 a2 => exact ⟨_, _, rfl, .inr ⟨.inl (.inl (e.ex _ _ a1)), hp _ _ S H hw (Same.refl S) (.tup a1 a2) e⟩⟩
    | ktup a1 a2 a3 => exact ⟨_, _, rfl, .inr ⟨.inr a1, hp _ _ S H hw (Same.refl S) (.ktup a1 a2 a3) e⟩⟩
  · exact hw.elim
def wLstOf : WCl := fun ds Φ => match ds with
  | [.lst xs] => Φ (.lst xs)
  | [.tup xs] => Φ (.lst xs)
  | _ => False
theorem ok_lstOf : CallOk K τ (fun xs H Q => ∃ p ys, xs = [.ref p] ∧ (SqL K H p ys ∨ SqT K H p ys) ∧ ∀ l, H l = none → Q (.ref l) (upd H l (.lst ys))) wLstOf := by
  intro S F H ρ σ vs ds Φ Q e hi hw hp
  unfold wLstOf at hw
  split at hw
  · obtain ⟨v, rfl, iv⟩ := isAll1 hi
    cases iv with
    | lst a1 a2 => exact ⟨_, _, rfl, .inl (.inl (.inl (e.ex _ _ a1))), fun p hp1 => hp _ _ _ _ hw (e.sn hp1) (.lst upd_same (a2.mono (e.sn hp1))) (e.new hp1)⟩
  · obtain ⟨v, rfl, iv⟩ := isAll1 hi
    cases iv with
    | tup a1 a2 => exact ⟨_, _, rfl, .inr (.inl (.inl (e.ex _ _ a1))), fun p hp1 => hp _ _ _ _ hw (e.sn hp1) (.lst upd_same (a2.mono (e.sn hp1))) (e.new hp1)⟩
    | ktup a1 a2 a3 => exact ⟨_, _, rfl, .inr (.inr a1), fun p hp1 => hp _ _ _ _ hw (e.sn hp1) (.lst upd_same (a2.mono (e.sn hp1))) (e.new hp1)⟩
  · exact hw.elim
end

/-! ### repr -/
mutual
theorem noDict_of : ∀ (d : D) (p : PyData), pyOf d = some p → p.hasDict = false
  | .non, p, h => by unfold pyOf at h; cases h; simp only [PyData.hasDict]
  | .bl _, p, h => by unfold pyOf at h; cases h; simp only [PyData.hasDict]
  | .int _, p, h => by unfold pyOf at h; cases h; simp only [PyData.hasDict]
  | .str _, p, h => by unfold pyOf at h; cases h; simp only [PyData.hasDict]
  | .lst xs, p, h => by
    unfold pyOf at h
    split at h
    · rename_i ps e
      cases h
      simp only [PyData.hasDict]
      exact noDict_ofL xs ps e
    · cases h
  | .tup xs, p, h => by
    unfold pyOf at h
    split at h
    · rename_i ps e
      cases h
      simp only [PyData.hasDict]
      exact noDict_ofL xs ps e
    · cases h
  | .obj _ _ _, p, h => by unfold pyOf at h; cases h
  | .dic _ _, p, h => by unfold pyOf at h; cases h
  | .scr _, p, h => by unfold pyOf at h; cases h
  | .raw _, p, h => by unfold pyOf at h; cases h
  | .exn _ _ _ _, p, h => by unfold pyOf at h; cases h
theorem noDict_ofL : ∀ (ds : List D) (ps : List PyData), pyOfL ds = some ps → PyData.hasDictAll ps = false
  | [], ps, h => by unfold pyOfL at h; cases h; simp only [PyData.hasDictAll]
  | d :: ds, ps, h => by
    unfold pyOfL at h
    split at h
    · rename_i p ps' e1 e2
      cases h
      simp only [PyData.hasDictAll]
      rw [noDict_of d p e1, noDict_ofL ds ps' e2]
      rfl
    · cases h
end
def wRepr : WCl := fun ds Φ => ∃ d p, ds = [d] ∧ pyOf d = some p ∧ p.showable = true ∧ p.depth ≤ 64 ∧ p.shown.length ≤ sizeLine ∧ Φ (.str p.shown)
def rRepr (K : Fg) : List V → Hp → VK → Prop := fun xs H Q => ∃ v p, xs = [v] ∧ Dp K H v p ∧ p.showable = true ∧ p.hasDict = false ∧ p.depth ≤ 64 ∧ p.shown.length ≤ sizeLine ∧ Q (.str p.shown) H
theorem ok_repr {K : Fg} : CallOk K τ (rRepr K) wRepr := by
  rintro S F H ρ σ vs ds Φ Q e hi ⟨d, p, rfl, h1, h2, h3, h4, h5⟩ hp
  obtain ⟨v, rfl, iv⟩ := isAll1 hi
  exact ⟨v, p, rfl, iv.dp e.ex h1, h2, noDict_of d p h1, h3, h4, hp _ _ S H h5 (Same.refl S) (.str _) e⟩
theorem cr_repr {X : Cx} {W : WX} {k : Nat} (c : Cok X W k) : CallR X (.builtin "repr") (rRepr X.K) := by
  rintro pins s σ H xs us Q I r ⟨v, p, rfl, dp, hs, hn, hd, hz, q⟩
  obtain ⟨u, rfl, ru⟩ := vals1 r; obtain ⟨as, rd⟩ := Dp.reads I p v u dp ru
  have hu := c.rm.un
  cases dp with
  | non => cases ru; exact PySem.P.repr_of_none ⟨.str _, H, I.tok _, ⟨_, rfl⟩, by simpa only [PyData.shown] using q⟩
  | bl b => cases ru; exact PySem.P.repr_of_bool ⟨.str _, H, I.tok _, ⟨_, rfl⟩, by simpa only [PyData.shown] using q⟩
  | int i =>
    obtain ⟨t, rfl⟩ := ru
    exact PySem.P.repr_of_int (by simpa [PyData.showable] using hs) ⟨.str _, H, I.tok _, ⟨_, rfl⟩, by simpa only [PyData.shown] using q⟩
  | str x =>
    obtain ⟨t, rfl⟩ := ru
    exact PySem.P.repr_of_str ⟨.str _, H, I.tok _, ⟨_, rfl⟩, by simpa only [PyData.shown] using q⟩ (by simpa only [PyData.shown] using hz)
  | lst a b =>
    cases ru
    exact repr_of_reads' (h₀ := s.heap) rd hs (fun e => by rw [hn] at e; cases e) c.gd (by omega) (fun _ _ e => e) (fun h' u tk hk => ⟨.str _, H, I.kept hk, ⟨_, rfl⟩, q⟩) hz
  | tup a b =>
    cases ru
    exact repr_of_reads' (h₀ := s.heap) rd hs (fun e => by rw [hn] at e; cases e) c.gd (by omega) (fun _ _ e => e) (fun h' u tk hk => ⟨.str _, H, I.kept hk, ⟨_, rfl⟩, q⟩) hz

/-! ### fields -/
def lookD : List Str → List D → Str → Option D
  | n :: ns, d :: ds, f => if n = f then some d else lookD ns ds f
  | _, _, _ => none
theorem look_fs {K : Fg} {S : Hp} {f : Str} : ∀ {vs : List (Str × V)} {ds : List D} {d : D}, IsAll K S (vs.map (·.2)) ds → lookD (vs.map (·.1)) ds f = some d → ∃ v, vs.lookup f = some v ∧ Is K S v d
  | [], ds, d, hi, h => by cases hi; cases h
  | (n, v) :: vs, ds, d, hi, h => by
    cases hi with
    | cons a b =>
      have h : (if n = f then some _ else lookD (vs.map (·.1)) _ f) = some d := h
      by_cases e : n = f
      · rw [if_pos e] at h
        cases h
        subst e
        exact ⟨v, by simp [List.lookup], a⟩
      · rw [if_neg e] at h
        obtain ⟨u, h1, h2⟩ := look_fs b h
        refine ⟨u, ?_, h2⟩
        have e' : (f == n) = false := by simpa using fun z => e z.symm
        simp [List.lookup, e', h1]
def wFld (C : Addr) (f : Str) (wa : WE) : WE := fun ρ χ Φ => wa ρ χ fun x ρ1 => match x with
  | .obj c ns ds => c = C ∧ ∃ d, lookD ns ds f = some d ∧ Φ d ρ1
  | _ => False
theorem l_fld {K : Fg} {W : WX} {C : Addr} {f : Str} {wa : WE} (hc : Cls K C) (hn : NoAttr K C f) : ∀ σ H Q, lE K τ W (wFld C f wa) σ H Q → tFld K (lE K τ W wa) f σ H Q := by
  rintro σ H Q ⟨ρ, S, F, χ, Φ, e, hw, hx, hp⟩
  refine ⟨ρ, S, F, χ, _, e, hw, hx, fun x dx ρ1 S1 H1 h1 s1 i1 e1 => ?_⟩
  cases i1 with
  | obj a1 a2 a3 =>
    obtain ⟨rfl, d, h2, h3⟩ := h1
    subst a2
    obtain ⟨v, h4, h5⟩ := look_fs a3 h2
    exact ⟨_, _, _, _, v, rfl, e1.ex _ _ a1, hc, hn, h4, hp v d ρ1 S1 H1 h3 s1 h5 e1⟩
  | _ => exact False.elim h1

/-! ### texts -/
def wM1 (wr : Str → D → (D → Prop) → Prop) (wa wb : WE) : WE := fun ρ χ Φ => wa ρ χ fun x ρ1 => match x with
  | .str a => wb ρ1 χ fun y ρ2 => wr a y fun z => Φ z ρ2
  | _ => False
def wM0 (wr : Str → (D → Prop) → Prop) (wa : WE) : WE := fun ρ χ Φ => wa ρ χ fun x ρ1 => match x with
  | .str a => wr a fun z => Φ z ρ1
  | _ => False
def wJoin : Str → D → (D → Prop) → Prop := fun a y Φ => match y with
  | .lst ds => ∃ ys : List Str, ds = ys.map D.str ∧ (ys.map (·.length)).sum + ys.length * a.length ≤ 16777216 ∧ Φ (.str (Txt.join a ys))
  | _ => False
def wSplit : Str → D → (D → Prop) → Prop := fun a y Φ => match y with
  | .str b => (b.length == 0) = false ∧ a.length + 2 ≤ sizeLine ∧ Φ (.lst ((Txt.split a b).map D.str))
  | _ => False
def MtOk (K : Fg) (τ : Tb) (r : V → List V → Hp → VK → Prop) (wr : Str → D → (D → Prop) → Prop) : Prop := ∀ (S F H : Hp) (ρ : Rho) (σ : L2.St) (a : Str) (y : V) (dy : D) (Φ : D → Prop) (Q : VK), ER K τ S F H ρ σ → Is K S y dy → wr a dy Φ →
  (∀ v d S' H', Φ d → Same S S' → Is K S' v d → ER K τ S' F H' ρ σ → Q v H') → r (.str a) [y] H Q
theorem l_m1 {K : Fg} {W : WX} {wa wb : WE} {r : V → List V → Hp → VK → Prop} {wr : Str → D → (D → Prop) → Prop} (hr : MtOk K τ r wr) : ∀ σ H Q, lE K τ W (wM1 wr wa wb) σ H Q → tM1 r (lE K τ W wa) (lE K τ W wb) σ H Q := by
  rintro σ H Q ⟨ρ, S, F, χ, Φ, e, hw, hx, hp⟩
  refine ⟨ρ, S, F, χ, _, e, hw, hx, fun x dx ρ1 S1 H1 h1 s1 i1 e1 => ?_⟩
  cases i1 with
  | str a => exact ⟨⟨a, rfl⟩, ρ1, S1, F, χ, _, e1, h1, hx.mono s1, fun y dy ρ2 S2 H2 h2 s2 i2 e2 => hr S2 F H2 ρ2 σ a y dy _ Q e2 i2 h2 fun v d S3 H3 h3 s3 i3 e3 => hp v d ρ2 S3 H3 h3 ((s1.trans s2).trans s3) i3 e3⟩
  | _ => exact False.elim h1
theorem isAll_str {K : Fg} {S : Hp} : ∀ {ys : List Str} {vs : List V}, IsAll K S vs (ys.map D.str) → vs = ys.map V.str
  | [], _, h => by cases h; rfl
  | y :: ys, _, h => by
    cases h with
    | cons a b =>
      cases a
      rw [isAll_str b]
      rfl
theorem isAll_of_str {K : Fg} {S : Hp} : ∀ ys : List Str, IsAll K S (ys.map V.str) (ys.map D.str)
  | [] => .nil
  | y :: ys => .cons (.str y) (isAll_of_str ys)
abbrev rJoin (K : Fg) : V → List V → Hp → VK → Prop := fun x xs H Q => ∃ a p, ∃ ys : List Str, x = .str a ∧ xs = [.ref p] ∧ (SqL K H p (ys.map V.str) ∨ SqT K H p (ys.map V.str)) ∧ (ys.map (·.length)).sum + ys.length * a.length ≤ 16777216 ∧ Q (.str (Txt.join a ys)) H
theorem ok_join {K : Fg} : MtOk K τ (rJoin K) wJoin := by
  intro S F H ρ σ a y dy Φ Q e iy hw hp
  unfold wJoin at hw
  split at hw
  · obtain ⟨ys, h1, h2, h3⟩ := hw
    subst h1
    cases iy with
    | lst a1 a2 =>
      rw [isAll_str a2] at a1
      exact ⟨a, _, ys, rfl, rfl, .inl (.inl (.inl (e.ex _ _ a1))), h2, hp _ _ S H h3 (Same.refl S) (.str _) e⟩
  · exact hw.elim
theorem ok_split {K : Fg} : MtOk K τ (fun x xs H Q => ∃ a b, x = .str a ∧ xs = [.str b] ∧ (b.length == 0) = false ∧ a.length + 2 ≤ sizeLine ∧ rNewStrs (Txt.split a b) H Q) wSplit := by
  intro S F H ρ σ a y dy Φ Q e iy hw hp
  unfold wSplit at hw
  split at hw
  · cases iy
    exact ⟨a, _, rfl, rfl, hw.1, hw.2.1, fun p hp1 => hp _ _ _ _ hw.2.2 (e.sn hp1) (.lst upd_same (isAll_of_str _)) (e.new hp1)⟩
  · exact hw.elim

/-! ### tuple(range(..)), list(range(..)) -/
def wRgT (wi : WL) : WE := fun ρ χ Φ => wi ρ χ fun ds ρ1 => match ds with
  | [.int n] => RgOk 0 n ∧ Φ (.tup (rgD 0 n.toNat)) ρ1
  | _ => False
def wRgL (wi : WL) : WE := fun ρ χ Φ => wi ρ χ fun ds ρ1 => match ds with
  | [.int n] => RgOk 0 n ∧ Φ (.lst (rgD 0 n.toNat)) ρ1
  | _ => False
theorem isAll_rg {K : Fg} {S : Hp} (a b : Int) : IsAll K S (rgV a b) (rgD a (b - a).toNat) := by
  unfold rgV rgD
  generalize (b - a).toNat = n
  have : ∀ l : List Nat, IsAll K S (l.map fun i => V.int (a + (i : Nat))) (l.map fun i => D.int (a + (i : Nat))) := fun l => by
    induction l with
    | nil => exact .nil
    | cons x l ih => exact .cons (.int _) ih
  exact this _
theorem l_rgT {K : Fg} {W : WX} {wa : WE} : ∀ σ H Q, lE K τ W (wRgT (wCons wa wNil)) σ H Q → tTupRg (tRg1 (lE K τ W wa)) σ H Q := by
  rintro σ H Q ⟨ρ, S, F, χ, Φ, e, hw, hx, hp⟩
  refine ⟨ρ, S, F, χ, _, e, hw, hx, fun x dx ρ1 S1 H1 h1 s1 i1 e1 => ?_⟩
  unfold wNil at h1
  cases i1 with
  | int n =>
    refine ⟨n, rfl, h1.1, fun p hp1 => hp _ _ ρ1 _ _ h1.2 (s1.trans (e1.sn hp1)) (.tup upd_same ?_) (e1.new hp1)⟩
    have z := isAll_rg (K := K) (S := upd S1 p (.tup (rgV 0 n))) 0 n
    rw [Int.sub_zero] at z
    exact z
  | _ => exact False.elim h1
theorem l_rgL {K : Fg} {W : WX} {wa : WE} : ∀ σ H Q, lE K τ W (wRgL (wCons wa wNil)) σ H Q → tLstRg (tRg1 (lE K τ W wa)) σ H Q := by
  rintro σ H Q ⟨ρ, S, F, χ, Φ, e, hw, hx, hp⟩
  refine ⟨ρ, S, F, χ, _, e, hw, hx, fun x dx ρ1 S1 H1 h1 s1 i1 e1 => ?_⟩
  unfold wNil at h1
  cases i1 with
  | int n =>
    refine ⟨n, rfl, h1.1, fun p hp1 => hp _ _ ρ1 _ _ h1.2 (s1.trans (e1.sn hp1)) (.lst upd_same ?_) (e1.new hp1)⟩
    have z := isAll_rg (K := K) (S := upd S1 p (.lst (rgV 0 n))) 0 n
    rw [Int.sub_zero] at z
    exact z
  | _ => exact False.elim h1
end DL
set_option Elab.async false
set_option autoImplicit false
set_option linter.all false
set_option maxRecDepth 100000
set_option maxHeartbeats 3900000
namespace DL
open L2 PyProof.Rows PySem PySem.Spec
variable {τ : Tb}

/-! ### comprehensions -/
theorem wipe_set_out {σ : L2.St} {i : Nat} {x : Option V} : ∀ {vs : List Nat}, i ∉ vs → wipe (σ.set i x) vs = (wipe σ vs).set i x
  | [], _ => rfl
  | v :: vs, h => by
    have h1 : i ≠ v := fun z => h (by rw [z]; exact List.mem_cons_self)
    have h2 : i ∉ vs := fun z => h (List.mem_cons_of_mem _ z)
    unfold wipe
    rw [wipe_set_out h2, List.set_comm _ _ h1]
theorem wipe_set {σ : L2.St} {i : Nat} {x : Option V} : ∀ {vs : List Nat}, i ∈ vs → wipe (σ.set i x) vs = wipe σ vs
  | [], h => by cases h
  | v :: vs, h => by
    unfold wipe
    by_cases hi : i ∈ vs
    · rw [wipe_set hi]
    · have e : i = v := (List.mem_cons.mp h).resolve_right hi
      subst e
      rw [wipe_set_out hi, List.set_set]
theorem wipe_in {σ : L2.St} : ∀ {vs us : List Nat}, (∀ v ∈ us, v ∈ vs) → wipe (wipe σ us) vs = wipe σ vs
  | vs, [], _ => rfl
  | vs, u :: us, h => by
    show wipe ((wipe σ us).set u none) vs = _
    rw [wipe_set (h u List.mem_cons_self)]
    exact wipe_in fun v hv => h v (List.mem_cons_of_mem _ hv)
theorem wipe_wipe {σ : L2.St} {vs : List Nat} : wipe (wipe σ vs) vs = wipe σ vs := wipe_in fun _ h => h
def wipeR (ρ : Rho) : List Nat → Rho
  | [] => ρ
  | v :: vs => (wipeR ρ vs).set v .un
def backR (ρ0 ρ : Rho) : List Nat → Rho
  | [] => ρ
  | v :: vs => (backR ρ0 ρ vs).set v (match ρ0[v]? with
    | some (.val d) => .val d
    | _ => .un)
section
variable {K : Fg} {S F H : Hp} {ρ ρ0 : Rho} {σ : L2.St}
theorem wipeR_len : ∀ vs : List Nat, (wipeR ρ vs).length = ρ.length
  | [] => rfl
  | v :: vs => by unfold wipeR; rw [List.length_set]; exact wipeR_len vs
theorem backR_len : ∀ vs : List Nat, (backR ρ0 ρ vs).length = ρ.length
  | [] => rfl
  | v :: vs => by unfold backR; rw [List.length_set]; exact backR_len vs
theorem wipeR_at {i : Nat} {s : Sl} : ∀ {vs : List Nat}, (wipeR ρ vs)[i]? = some s → s = .un ∨ (i ∉ vs ∧ ρ[i]? = some s)
  | [], h => .inr ⟨by simp, h⟩
  | v :: vs, h => by
    unfold wipeR at h
    by_cases hi : v = i
    · subst hi
      have hv : v < (wipeR ρ vs).length := by
        have := (List.getElem?_eq_some_iff.mp h).1
        rwa [List.length_set] at this
      rw [List.getElem?_set_self hv] at h
      cases h
      exact .inl rfl
    · replace h := (List.getElem?_set_ne hi).symm.trans h
      rcases wipeR_at h with z | ⟨z1, z2⟩
      · exact .inl z
      · exact .inr ⟨by simp only [List.mem_cons, not_or]; exact ⟨fun e => hi e.symm, z1⟩, z2⟩
theorem backR_at {i : Nat} {s : Sl} : ∀ {vs : List Nat}, (backR ρ0 ρ vs)[i]? = some s → s = .un ∨ (i ∈ vs ∧ (∃ d, s = .val d) ∧ ρ0[i]? = some s) ∨ (i ∉ vs ∧ ρ[i]? = some s)
  | [], h => .inr (.inr ⟨by simp, h⟩)
  | v :: vs, h => by
    unfold backR at h
    by_cases hi : v = i
    · subst hi
      have hv : v < (backR ρ0 ρ vs).length := by
        have := (List.getElem?_eq_some_iff.mp h).1
        rwa [List.length_set] at this
      rw [List.getElem?_set_self hv] at h
      have h' := Option.some.inj h
      split at h'
      · rename_i d hd
        subst h'
        exact .inr (.inl ⟨List.mem_cons_self, ⟨d, rfl⟩, hd⟩)
      · exact .inl h'.symm
    · replace h := (List.getElem?_set_ne hi).symm.trans h
      rcases backR_at h with z | ⟨z1, z2⟩ | ⟨z1, z2⟩
      · exact .inl z
      · exact .inr (.inl ⟨List.mem_cons_of_mem _ z1, z2⟩)
      · exact .inr (.inr ⟨by simp only [List.mem_cons, not_or]; exact ⟨fun e => hi e.symm, z1⟩, z2⟩)
theorem wipe_get {i : Nat} {x : Option V} : ∀ {vs : List Nat}, i ∉ vs → (wipe σ vs)[i]? = σ[i]?
  | [], _ => rfl
  | v :: vs, h => by
    unfold wipe
    rw [List.getElem?_set_ne (fun z => h (by rw [z]; exact List.mem_cons_self))]
    exact wipe_get (x := x) fun z => h (List.mem_cons_of_mem _ z)
theorem ER.wipe (e : ER K τ S F H ρ σ) (vs : List Nat) : ER K τ S F H (wipeR ρ vs) (wipe σ vs) := by
  refine ⟨by rw [wipeR_len, wipe_length]; exact e.len, e.ex, e.fr, fun i d h => ?_, fun i l od h => ?_, fun i j l o o' h1 h2 => ?_, e.tb⟩
  · rcases wipeR_at h with z | ⟨z1, z2⟩
    · cases z
    · rw [wipe_get (x := none) z1]; exact e.val i d z2
  · rcases wipeR_at h with z | ⟨z1, z2⟩
    · cases z
    · rw [wipe_get (x := none) z1]; exact e.own i l od z2
  · rcases wipeR_at h1 with z | ⟨_, z2⟩
    · cases z
    · rcases wipeR_at h2 with z | ⟨_, z4⟩
      · cases z
      · exact e.dis i j l o o' z2 z4
theorem ER.restore {S1 F1 H1 : Hp} {vs : List Nat} (e1 : ER K τ S1 F1 H1 ρ0 σ) (s : Same S1 S) (e : ER K τ S F H ρ (L2.wipe σ vs)) : ER K τ S F H (backR ρ0 ρ vs) σ := by
  refine ⟨by rw [backR_len, e.len, wipe_length], e.ex, e.fr, fun i d h => ?_, fun i l od h => ?_, fun i j l o o' h1 h2 => ?_, e.tb⟩
  · rcases backR_at h with z | ⟨z1, _, z2⟩ | ⟨z1, z2⟩
    · cases z
    · obtain ⟨v, a, b⟩ := e1.val i d z2
      exact ⟨v, a, b.mono s⟩
    · obtain ⟨v, a, b⟩ := e.val i d z2
      rw [wipe_get (x := none) z1] at a
      exact ⟨v, a, b⟩
  · rcases backR_at h with z | ⟨_, ⟨d, z⟩, _⟩ | ⟨z1, z2⟩
    · cases z
    · cases z
    · have q := e.own i l od z2
      rw [wipe_get (x := none) z1] at q
      exact q
  · rcases backR_at h1 with z | ⟨_, ⟨d, z⟩, _⟩ | ⟨_, z2⟩
    · cases z
    · cases z
    · rcases backR_at h2 with z | ⟨_, ⟨d, z⟩, _⟩ | ⟨_, z4⟩
      · cases z
      · cases z
      · exact e.dis i j l o o' z2 z4
/-- a new object that others own -/
theorem ER.addF {p : Addr} {o : HO} (e : ER K τ S F H ρ σ) (hp : H p = none) : ER K τ S (upd F p o) (upd H p o) ρ σ := by
  have sp := e.sp hp
  refine ⟨e.len, fun b u h => by rw [upd_ne (ne_of_none h sp)]; exact e.ex b u h, fun a u h => ?_, e.val, fun i l od h => ?_, e.dis, e.tb.newF hp (e.fp hp)⟩
  · by_cases ha : a = p
    · subst ha; rw [upd_same] at h ⊢; exact ⟨h, .inl sp⟩
    · rw [upd_ne ha] at h ⊢; exact e.fr a u h
  · obtain ⟨h1, h2, h3, ob, h4, h5⟩ := e.own i l od h
    have ne := ne_of_none h4 hp
    rw [upd_ne ne, upd_ne ne]
    exact ⟨h1, h2, h3, ob, h4, h5⟩
/-- it changes -/
theorem ER.chF {p : Addr} {o o' : HO} (e : ER K τ S (upd F p o) H ρ σ) (gp : τ.gf p = none) (nc : ∀ c q, o ≠ LamX.CodeO c q) (nt : ¬ TupO o := by rintro ⟨_, z⟩; cases z) : ER K τ S (upd F p o') (upd H p o') ρ σ := by
  obtain ⟨hp, sp⟩ := e.fr p o upd_same
  replace sp := sp.resolve_right nt
  refine ⟨e.len, fun b u h => by rw [upd_ne (ne_of_none h sp)]; exact e.ex b u h, fun a u h => ?_, e.val, fun i l od h => ?_, e.dis, ?tb⟩
  case tb =>
    have n1 : ∀ ps, o ≠ .tbl ps ∨ ∀ q ∈ τ.t, q.1 ≠ p := fun _ => .inr e.tb.inF
    refine ⟨fun q hq => ?_, e.tb.nS, fun q hq => by rw [upd_ne (e.tb.inF q hq)]; have := e.tb.nF q hq; rw [upd_ne (e.tb.inF q hq)] at this; exact this, e.tb.ks, fun b u z => by have := e.tb.kf b u z; rw [upd_ne (ne_of_none z gp)] at this ⊢; exact this⟩
    obtain ⟨ps, h1, h2, h3⟩ := e.tb.tab q hq
    refine ⟨ps, by rw [upd_ne (e.tb.inF q hq)]; exact h1, h2, fun pos cv hc => ?_⟩
    obtain ⟨c, e1, e2⟩ := h3 pos cv hc
    have ncp : c ≠ p := fun z => by rw [z, hp] at e2; exact nc _ _ (Option.some.inj e2)
    exact ⟨c, e1, by rw [upd_ne ncp]; exact e2⟩
  · by_cases ha : a = p
    · subst ha; rw [upd_same] at h ⊢; exact ⟨h, .inl sp⟩
    · rw [upd_ne ha] at h ⊢; exact e.fr a u (by rw [upd_ne ha]; exact h)
  · obtain ⟨h1, h2, h3, ob, h4, h5⟩ := e.own i l od h
    have ne : l ≠ p := fun z => by rw [z, upd_same] at h3; cases h3
    rw [upd_ne ne] at h3
    rw [upd_ne ne, upd_ne ne]
    exact ⟨h1, h2, h3, ob, h4, h5⟩
/-- it is done: it never changes any more -/
theorem ER.doneF {p : Addr} {o : HO} (e : ER K τ S (upd F p o) H ρ σ) (fp : F p = none) (gp : τ.gf p = none) (nt : ¬ TupO o := by rintro ⟨_, z⟩; cases z) : ER K τ (upd S p o) F H ρ σ ∧ Same S (upd S p o) := by
  obtain ⟨hp, sp⟩ := e.fr p o upd_same
  replace sp := sp.resolve_right nt
  have sS : Same S (upd S p o) := fun b u h => by rw [upd_ne (ne_of_none h sp)]; exact h
  refine ⟨⟨e.len, fun b u h => ?_, fun a u h => ?_, fun i d h => ?_, fun i l od h => ?_, e.dis, ⟨e.tb.tab, fun q hq => by rw [upd_ne (e.tb.inF q hq)]; exact e.tb.nS q hq, (e.tb.lessF fp gp).nF, (fun b u z => by rw [upd_ne (ne_of_none (e.tb.ks b u z) sp)]; exact e.tb.ks b u z), (e.tb.lessF fp gp).kf⟩⟩, sS⟩
  · by_cases hb : b = p
    · subst hb; rw [upd_same] at h; cases h; exact hp
    · rw [upd_ne hb] at h; exact e.ex b u h
  · have ne := ne_of_none h fp
    obtain ⟨a1, a2⟩ := e.fr a u (by rw [upd_ne ne]; exact h)
    rw [upd_ne ne]; exact ⟨a1, a2⟩
  · obtain ⟨v, a1, a2⟩ := e.val i d h
    exact ⟨v, a1, a2.mono sS⟩
  · obtain ⟨h1, h2, h3, ob, h4, h5⟩ := e.own i l od h
    have ne : l ≠ p := fun z => by rw [z, upd_same] at h3; cases h3
    rw [upd_ne ne] at h3
    rw [upd_ne ne]
    exact ⟨h1, h2, h3, ob, h4, h5.mono sS⟩
end
/-- a target within a comprehension: its slots are the comprehension's own -/
def lGc (K : Fg) (τ : Tb) (vs : List Nat) (g : WG) : TG := fun x σ H Q => ∃ ρ S F d Φ, ER K τ S F H ρ σ ∧ Is K S x d ∧ g d ρ Φ ∧ ∀ ρ' S' σ' H', Φ ρ' → Same S S' → ER K τ S' F H' ρ' σ' → wipe σ' vs = wipe σ vs → Q σ' H'
def lGcs (K : Fg) (τ : Tb) (vs : List Nat) (g : WGs) : TGs := fun xs σ H Q => ∃ ρ S F ds Φ, ER K τ S F H ρ σ ∧ IsAll K S xs ds ∧ g ds ρ Φ ∧ ∀ ρ' S' σ' H', Φ ρ' → Same S S' → ER K τ S' F H' ρ' σ' → wipe σ' vs = wipe σ vs → Q σ' H'
section
variable {K : Fg} {vs : List Nat}
theorem gc_name {i : Nat} (hi : i ∈ vs) : ∀ x σ H Q, lGc K τ vs (wgName i) x σ H Q → gName i x σ H Q := by
  rintro x σ H Q ⟨ρ, S, F, d, Φ, e, hx, hg, hp⟩
  exact hp _ S _ H hg (Same.refl S) (e.set hx) (wipe_set hi)
theorem gc_nil : ∀ x σ H Q, lGcs K τ vs wgNil x σ H Q → gNil x σ H Q := by
  rintro x σ H Q ⟨ρ, S, F, d, Φ, e, hi, ⟨h1, hg⟩, hp⟩
  subst h1
  cases hi
  exact ⟨rfl, hp _ S _ H hg (Same.refl S) e rfl⟩
theorem gc_cons {g : WG} {gs : WGs} : ∀ x σ H Q, lGcs K τ vs (wgCons g gs) x σ H Q → gCons (lGc K τ vs g) (lGcs K τ vs gs) x σ H Q := by
  rintro x σ H Q ⟨ρ, S, F, ds, Φ, e, hi, hg, hp⟩
  cases hi with
  | nil => exact hg.elim
  | cons a b => exact ⟨_, _, rfl, ρ, S, F, _, _, e, a, hg, fun ρ' S' σ' H' q s' e' w' => ⟨ρ', S', F, _, _, e', b.mono s', q, fun ρ2 S2 σ2 H2 q2 s2 e2 w2 => hp ρ2 S2 σ2 H2 q2 (s'.trans s2) e2 (w2.trans w')⟩⟩
theorem gc_tup {n : Nat} {gs : WGs} : ∀ x σ H Q, lGc K τ vs (wgTup n gs) x σ H Q → gTup K n (lGcs K τ vs gs) x σ H Q := by
  rintro x σ H Q ⟨ρ, S, F, d, Φ, e, hi, hg, hp⟩
  cases hi with
  | tup h1 h2 => exact ⟨_, _, rfl, .inl (.inl (e.ex _ _ h1)), h2.length.trans hg.1, ρ, S, F, _, Φ, e, h2, hg.2, hp⟩
  | ktup h1 h2 a3 => exact ⟨_, _, rfl, .inr h1, h2.length.trans hg.1, ρ, S, F, _, Φ, e, h2, hg.2, hp⟩
  | _ => exact False.elim hg
end
def wTrue : WT := fun ρ _ Φ => Φ true ρ
theorem l_yes {K : Fg} {W : WX} : ∀ σ H Q, lT K τ W wTrue σ H Q → tYes σ H Q := by
  rintro σ H Q ⟨ρ, S, F, χ, Φ, e, hw, hx, hp⟩
  exact hp true ρ S H hw (Same.refl S) e
def wLcL (g : WG) (wt : WT) (we : WE) (vs : List Nat) : List D → List D → Rho → (List D → Rho → Prop) → Prop
  | [], acc, ρ, Φ => Φ acc ρ
  | d :: ds, acc, ρ, Φ => g d ρ fun ρ1 => wt ρ1 χ0 fun b ρ2 => if b = true then we ρ2 χ0 fun y ρ3 => acc.length < sizeLine ∧ wLcL g wt we vs ds (acc ++ [y]) (wipeR ρ3 vs) Φ else wLcL g wt we vs ds acc (wipeR ρ2 vs) Φ
def wLc (wi : WL) (g : WG) (wt : WT) (we : WE) (vs : List Nat) : WE := fun ρ χ Φ => wi ρ χ fun ds ρ1 => wLcL g wt we vs ds [] (wipeR ρ1 vs) fun ys ρ2 => Φ (.lst ys) (backR ρ1 ρ2 vs)
theorem l_lc {K : Fg} {W : WX} {wi : WL} {g : WG} {wt : WT} {we : WE} {vs : List Nat} : ∀ σ H Q, lE K τ W (wLc wi g wt we vs) σ H Q → tLc (lI K τ W wi) (lGc K τ vs g) (lT K τ W0 wt) (lE K τ W0 we) vs σ H Q := by
  rintro σ H Q ⟨ρ, S, F, χ, Φ, e, hw, hx, hp⟩
  refine ⟨ρ, S, F, χ, _, e, hw, hx, fun J ds ρ1 S1 H1 q1 s1 e1 wk => fun L hL => ?_⟩
  have fL := e1.fp hL
  have gL := e1.tb.free fL
  refine ⟨fun i m H' => m = ds.length - i ∧ i ≤ ds.length ∧ ∃ ρ' S' us acc, Same S1 S' ∧ ER K τ S' (upd F L (.lst us)) H' ρ' (wipe σ vs) ∧ IsAll K S' us acc ∧ wLcL g wt we vs (ds.drop i) acc ρ' (fun ys ρ2 => Φ (.lst ys) (backR ρ1 ρ2 vs)),
    ⟨_, rfl, Nat.zero_le _, wipeR ρ1 vs, S1, [], [], Same.refl S1, (e1.wipe vs).addF hL, .nil, q1⟩, ?_⟩
  rintro i m H' ⟨rfl, hi, ρ', S', us, acc, s', e', iu, q⟩
  by_cases hlt : i < ds.length
  · refine .inr ⟨wk.go i H' hlt (s'.trans e'.ex), fun H2 => ∃ ρ2 S2 us2 acc2, Same S1 S2 ∧ ER K τ S2 (upd F L (.lst us2)) H2 ρ2 (wipe σ vs) ∧ IsAll K S2 us2 acc2 ∧ wLcL g wt we vs (ds.drop (i + 1)) acc2 ρ2 (fun ys ρ3 => Φ (.lst ys) (backR ρ1 ρ3 vs)), fun H2 n2 => ⟨ds.length - (i + 1), by omega, rfl, hlt, n2⟩, fun x H2 y => ?_⟩
    obtain ⟨d, hd, y2⟩ := wk.yld i H' x H2 hlt (s'.trans e'.ex) y
    obtain ⟨S2, s2, i2, e2⟩ := y2 S' _ ρ' _ s' e'
    have ed : ds.drop i = d :: ds.drop (i + 1) := by
      rw [(List.drop_eq_getElem_cons hlt)]
      rw [List.getElem?_eq_getElem hlt] at hd
      rw [Option.some.inj hd]
    rw [ed] at q
    refine ⟨ρ', S2, _, d, _, e2, i2, q, fun ρ3 S3 σ3 H3 q3 s3 e3 w3 => ⟨w3.trans wipe_wipe, ?_⟩⟩
    have w3' : wipe σ3 vs = wipe σ vs := w3.trans wipe_wipe
    refine ⟨ρ3, S3, _, χ0, _, e3, q3, XOk.none, fun b ρ4 S4 H4 q4 s4 e4 => ?_⟩
    cases b with
    | false =>
      rw [if_neg Bool.false_ne_true] at q4 ⊢
      have e5 := e4.wipe vs
      rw [w3'] at e5
      exact ⟨_, S4, us, acc, ((s'.trans s2).trans s3).trans s4, e5, iu.mono ((s2.trans s3).trans s4), q4⟩
    | true =>
      rw [if_pos rfl] at q4 ⊢
      refine ⟨ρ4, S4, _, χ0, _, e4, q4, XOk.none, fun v dv ρ5 S5 H5 q5 s5 i5 e5 => ?_⟩
      obtain ⟨hl, q5⟩ := q5
      obtain ⟨h5, _⟩ := e5.fr L _ upd_same
      have iu5 := iu.mono (((s2.trans s3).trans s4).trans s5)
      refine ⟨us, h5, by rw [iu.length]; exact hl, ?_⟩
      have e6 := (e5.wipe vs).chF (o' := .lst (us ++ [v])) gL (fun c q z => by unfold LamX.CodeO at z; cases z)
      rw [w3'] at e6
      exact ⟨_, S5, us ++ [v], acc ++ [dv], (((s'.trans s2).trans s3).trans s4).trans s5, e6, iu5.append (.cons i5 .nil), q5⟩
  · have ei : i = ds.length := by omega
    subst ei
    rw [List.drop_length] at q
    refine .inl ⟨wk.stop H' (s'.trans e'.ex), ?_⟩
    obtain ⟨e7, s7⟩ := e'.doneF fL gL
    exact hp _ _ _ _ H' q ((s1.trans s').trans s7) (.lst upd_same (iu.mono s7)) (e1.restore (s'.trans s7) e7)
end DL
set_option Elab.async false
set_option autoImplicit false
set_option linter.all false
set_option maxRecDepth 100000
set_option maxHeartbeats 3900000
namespace DL
open L2 PyProof.Rows PySem PySem.Spec
variable {τ : Tb}

/-! ### objects of one's own -/
section
variable {K : Fg} {S F H : Hp} {ρ : Rho} {σ : L2.St}
theorem ER.addH {p : Addr} {o : HO} (e : ER K τ S F H ρ σ) (hp : H p = none) : ER K τ S F (upd H p o) ρ σ := by
  have sp := e.sp hp
  refine ⟨e.len, fun b u h => by rw [upd_ne (ne_of_none h sp)]; exact e.ex b u h, fun a u h => ?_, e.val, fun i l od h => ?_, e.dis, e.tb.newH hp⟩
  · obtain ⟨a1, a2⟩ := e.fr a u h
    rw [upd_ne (ne_of_none a1 hp)]; exact ⟨a1, a2⟩
  · obtain ⟨h1, h2, h3, ob, h4, h5⟩ := e.own i l od h
    have ne := ne_of_none h4 hp
    rw [upd_ne ne]
    exact ⟨h1, h2, h3, ob, h4, h5⟩
theorem ER.notOwn {p : Addr} (e : ER K τ S F H ρ σ) (hp : H p = none) : ∀ (j : Nat) (o2 : OD), ρ[j]? ≠ some (Sl.own p o2) := fun j o2 h => by
  obtain ⟨_, _, _, ob, h4, _⟩ := e.own j p o2 h
  rw [hp] at h4; cases h4
end
abbrev WEO := Rho → XC → (Addr → OD → Rho → Prop) → Prop
def lEO (K : Fg) (τ : Tb) (W : WX) (w : WEO) : TE := fun σ H Q => ∃ ρ S F χ Φ, ER K τ S F H ρ σ ∧ w ρ χ Φ ∧ XOk K τ F W S χ ∧ ∀ l od o ρ' S' H', Φ l od ρ' → Same S S' → H' l = some o → OIs K S' o od → S' l = none → F l = none → (∀ (j : Nat) (o2 : OD), ρ'[j]? ≠ some (Sl.own l o2)) → ER K τ S' F H' ρ' σ → Q (.ref l) H'
def woLst (wl : WL) : WEO := fun ρ χ Φ => wl ρ χ fun xs ρ1 => xs.length ≤ sizeLine ∧ ∀ l, Φ l (.l xs) ρ1
def woLstOf (wa : WL) : WEO := fun ρ χ Φ => wa ρ χ fun ds ρ1 => match ds with
  | [.lst xs] => ∀ l, Φ l (.l xs) ρ1
  | [.tup xs] => ∀ l, Φ l (.l xs) ρ1
  | _ => False
def woDic : WEO := fun ρ _ Φ => ∀ l, Φ l (.k [] []) ρ
def woLc (wi : WL) (g : WG) (wt : WT) (we : WE) (vs : List Nat) : WEO := fun ρ χ Φ => wi ρ χ fun ds ρ1 => wLcL g wt we vs ds [] (wipeR ρ1 vs) fun ys ρ2 => ∀ l, Φ l (.l ys) (backR ρ1 ρ2 vs)
section
variable {K : Fg} {W : WX} {wl : WL}
theorem lo_lst : ∀ σ H Q, lEO K τ W (woLst wl) σ H Q → tLst (lL K τ W wl) σ H Q := by
  rintro σ H Q ⟨ρ, S, F, χ, Φ, e, hw, hx, hp⟩
  refine ⟨ρ, S, F, χ, _, e, hw, hx, fun xs ds ρ1 S1 H1 h1 s1 i1 e1 => ⟨by rw [i1.length]; exact h1.1, fun p hp1 => ?_⟩⟩
  exact hp p _ _ ρ1 S1 _ (h1.2 p) s1 upd_same (.l i1) (e1.sp hp1) (e1.fp hp1) (e1.notOwn hp1) (e1.addH hp1)
theorem lo_lstOf : ∀ σ H Q, lEO K τ W (woLstOf wl) σ H Q → tCB (fun xs H Q => ∃ p ys, xs = [.ref p] ∧ (SqL K H p ys ∨ SqT K H p ys) ∧ ∀ l, H l = none → Q (.ref l) (upd H l (.lst ys))) (lL K τ W wl) σ H Q := by
  rintro σ H Q ⟨ρ, S, F, χ, Φ, e, hw, hx, hp⟩
  refine ⟨ρ, S, F, χ, _, e, hw, hx, fun xs ds ρ1 S1 H1 h1 s1 i1 e1 => ?_⟩
  split at h1
  · obtain ⟨v, rfl, iv⟩ := isAll1 i1
    cases iv with
    | lst a1 a2 => exact ⟨_, _, rfl, .inl (.inl (.inl (e1.ex _ _ a1))), fun p hp1 => hp p _ _ ρ1 S1 _ (h1 p) s1 upd_same (.l a2) (e1.sp hp1) (e1.fp hp1) (e1.notOwn hp1) (e1.addH hp1)⟩
  · obtain ⟨v, rfl, iv⟩ := isAll1 i1
    cases iv with
    | tup a1 a2 => exact ⟨_, _, rfl, .inr (.inl (.inl (e1.ex _ _ a1))), fun p hp1 => hp p _ _ ρ1 S1 _ (h1 p) s1 upd_same (.l a2) (e1.sp hp1) (e1.fp hp1) (e1.notOwn hp1) (e1.addH hp1)⟩
    | ktup a1 a2 a3 => exact ⟨_, _, rfl, .inr (.inr a1), fun p hp1 => hp p _ _ ρ1 S1 _ (h1 p) s1 upd_same (.l a2) (e1.sp hp1) (e1.fp hp1) (e1.notOwn hp1) (e1.addH hp1)⟩
  · exact h1.elim
theorem lo_dic : ∀ σ H Q, lEO K τ W woDic σ H Q → tDNewK σ H Q := by
  rintro σ H Q ⟨ρ, S, F, χ, Φ, e, hw, hx, hp⟩
  intro p hp1
  exact hp p _ _ ρ S _ (hw p) (Same.refl S) upd_same (.k rfl .nil) (e.sp hp1) (e.fp hp1) (e.notOwn hp1) (e.addH hp1)
theorem lo_lc {wi : WL} {g : WG} {wt : WT} {we : WE} {vs : List Nat} : ∀ σ H Q, lEO K τ W (woLc wi g wt we vs) σ H Q → tLc (lI K τ W wi) (lGc K τ vs g) (lT K τ W0 wt) (lE K τ W0 we) vs σ H Q := by
  rintro σ H Q ⟨ρ, S, F, χ, Φ, e, hw, hx, hp⟩
  refine ⟨ρ, S, F, χ, _, e, hw, hx, fun J ds ρ1 S1 H1 q1 s1 e1 wk => fun L hL => ?_⟩
  have fL := e1.fp hL
  have gL := e1.tb.free fL
  refine ⟨fun i m H' => m = ds.length - i ∧ i ≤ ds.length ∧ ∃ ρ' S' us acc, Same S1 S' ∧ ER K τ S' (upd F L (.lst us)) H' ρ' (wipe σ vs) ∧ IsAll K S' us acc ∧ wLcL g wt we vs (ds.drop i) acc ρ' (fun ys ρ2 => ∀ l, Φ l (.l ys) (backR ρ1 ρ2 vs)),
    ⟨_, rfl, Nat.zero_le _, wipeR ρ1 vs, S1, [], [], Same.refl S1, (e1.wipe vs).addF hL, .nil, q1⟩, ?_⟩
  rintro i m H' ⟨rfl, hi, ρ', S', us, acc, s', e', iu, q⟩
  by_cases hlt : i < ds.length
  · refine .inr ⟨wk.go i H' hlt (s'.trans e'.ex), fun H2 => ∃ ρ2 S2 us2 acc2, Same S1 S2 ∧ ER K τ S2 (upd F L (.lst us2)) H2 ρ2 (wipe σ vs) ∧ IsAll K S2 us2 acc2 ∧ wLcL g wt we vs (ds.drop (i + 1)) acc2 ρ2 (fun ys ρ3 => ∀ l, Φ l (.l ys) (backR ρ1 ρ3 vs)), fun H2 n2 => ⟨ds.length - (i + 1), by omega, rfl, hlt, n2⟩, fun x H2 y => ?_⟩
    obtain ⟨d, hd, y2⟩ := wk.yld i H' x H2 hlt (s'.trans e'.ex) y
    obtain ⟨S2, s2, i2, e2⟩ := y2 S' _ ρ' _ s' e'
    have ed : ds.drop i = d :: ds.drop (i + 1) := by
      rw [(List.drop_eq_getElem_cons hlt)]
      rw [List.getElem?_eq_getElem hlt] at hd
      rw [Option.some.inj hd]
    rw [ed] at q
    refine ⟨ρ', S2, _, d, _, e2, i2, q, fun ρ3 S3 σ3 H3 q3 s3 e3 w3 => ⟨w3.trans wipe_wipe, ?_⟩⟩
    have w3' : wipe σ3 vs = wipe σ vs := w3.trans wipe_wipe
    refine ⟨ρ3, S3, _, χ0, _, e3, q3, XOk.none, fun b ρ4 S4 H4 q4 s4 e4 => ?_⟩
    cases b with
    | false =>
      rw [if_neg Bool.false_ne_true] at q4 ⊢
      have e5 := e4.wipe vs
      rw [w3'] at e5
      exact ⟨_, S4, us, acc, ((s'.trans s2).trans s3).trans s4, e5, iu.mono ((s2.trans s3).trans s4), q4⟩
    | true =>
      rw [if_pos rfl] at q4 ⊢
      refine ⟨ρ4, S4, _, χ0, _, e4, q4, XOk.none, fun v dv ρ5 S5 H5 q5 s5 i5 e5 => ?_⟩
      obtain ⟨hl, q5⟩ := q5
      obtain ⟨h5, _⟩ := e5.fr L _ upd_same
      have iu5 := iu.mono (((s2.trans s3).trans s4).trans s5)
      refine ⟨us, h5, by rw [iu.length]; exact hl, ?_⟩
      have e6 := (e5.wipe vs).chF (o' := .lst (us ++ [v])) gL (fun c q z => by unfold LamX.CodeO at z; cases z)
      rw [w3'] at e6
      exact ⟨_, S5, us ++ [v], acc ++ [dv], (((s'.trans s2).trans s3).trans s4).trans s5, e6, iu5.append (.cons i5 .nil), q5⟩
  · have ei : i = ds.length := by omega
    subst ei
    rw [List.drop_length] at q
    refine .inl ⟨wk.stop H' (s'.trans e'.ex), ?_⟩
    obtain ⟨hL2, sL2⟩ := e'.fr L _ upd_same
    replace sL2 := sL2.resolve_right (by rintro ⟨_, z⟩; cases z)
    have e8 : ER K τ S' F H' ρ' (wipe σ vs) := by
      refine ⟨e'.len, e'.ex, fun a o h => e'.fr a o (by rw [upd_ne (ne_of_none h fL)]; exact h), e'.val, fun i l od h => ?_, e'.dis, e'.tb.lessF fL gL⟩
      obtain ⟨a1, a2, a3, a4⟩ := e'.own i l od h
      have ne : l ≠ L := fun z => by rw [z, upd_same] at a3; cases a3
      rw [upd_ne ne] at a3
      exact ⟨a1, a2, a3, a4⟩
    refine hp L _ _ _ S' H' (q L) (s1.trans s') hL2 (.l iu) sL2 fL (fun j o2 h => ?_) (e1.restore s' e8)
    rcases backR_at h with z | ⟨_, ⟨d, z⟩, _⟩ | ⟨_, z2⟩
    · cases z
    · cases z
    · have a3 := (e'.own j L o2 z2).2.2.1
      rw [upd_same] at a3
      cases a3
end
def wAsgO (i : Nat) (wo : WEO) : WS := fun ρ Δ => wo ρ Δ.xc fun l od ρ1 => Δ.nx (ρ1.set i (.own l od))
theorem l_asgO {K : Fg} {W : WX} {wo : WEO} {i : Nat} : ∀ D σ H, lS K τ W (wAsgO i wo) D σ H → tAsg (lEO K τ W wo) (gName i) D σ H := by
  rintro D σ H ⟨ρ, S, F, Δ, e, hw, hx, h1, h2, h3, h4, h5⟩
  exact ⟨ρ, S, F, _, _, e, hw, hx, fun l od o ρ' S' H' q s' a1 a2 a3 a4 a5 e' => h1 _ S' _ H' q s' (e'.setOwn a1 a3 a4 a2 a5)⟩
theorem l_retO {K : Fg} {W : WX} {wo : WEO} : ∀ D σ H, lS K τ W (wRetO wo) D σ H → tRet (lEO K τ W wo) D σ H := by
  rintro D σ H ⟨ρ, S, F, Δ, e, hw, hx, h1, h2, h3, h4, h5⟩
  exact ⟨ρ, S, F, _, _, e, hw, hx, fun l od o ρ' S' H' q s' a1 a2 a3 a4 a5 e' => h5 l od o ρ' S' _ H' q s' a1 a2 a3 a4 e'⟩
/-- x[e] of one's own list -/
def wIxO (i : Nat) (wi : WE) : WE := fun ρ χ Φ => (∃ l xs, ρ[i]? = some (Sl.own l (.l xs))) ∧ wi ρ χ fun k ρ1 => match k, ρ1[i]? with
  | .int j, some (.own _ (.l xs)) => ∃ d, atI xs j = some d ∧ Φ d ρ1
  | _, _ => False
/-- len(x) of one's own list -/
def wLenO (i : Nat) : WE := fun ρ _ Φ => match ρ[i]? with
  | some (.own _ (.l xs)) => Φ (.int xs.length) ρ
  | _ => False
/-- x.append(e) -/
def wApp (i : Nat) (wa : WE) : WS := fun ρ Δ => (∃ l xs, ρ[i]? = some (Sl.own l (.l xs))) ∧ wa ρ Δ.xc fun d ρ1 => match ρ1[i]? with
  | some (.own l (.l xs)) => xs.length < sizeLine ∧ Δ.nx (ρ1.set i (.own l (.l (xs ++ [d]))))
  | _ => False
/-- x[k] = e -/
def wSetO (i : Nat) (wk wa : WE) : WS := fun ρ Δ => wa ρ Δ.xc fun d ρ1 => (∃ l xs, ρ1[i]? = some (Sl.own l (.l xs))) ∧ wk ρ1 Δ.xc fun k ρ2 => match k, ρ2[i]? with
  | .int z, some (.own l (.l xs)) => ∃ j, ixN xs.length z = some j ∧ Δ.nx (ρ2.set i (.own l (.l (xs.set j d))))
  | _, _ => False
section
variable {K : Fg} {W : WX} {wa wk : WE} {i : Nat}
theorem l_ixO : ∀ σ H Q, lE K τ W (wIxO i wk) σ H Q → tOp (rIx K) (tVar i) (lE K τ W wk) σ H Q := by
  rintro σ H Q ⟨ρ, S, F, χ, Φ, e, ⟨⟨l, xs, hl⟩, hw⟩, hx, hp⟩
  obtain ⟨hσ, _⟩ := e.own i l _ hl
  refine ⟨.ref l, hσ, ρ, S, F, χ, _, e, hw, hx, fun x dx ρ1 S1 H1 h1 s1 i1 e1 => ?_⟩
  split at h1
  · rename_i j l' ys hl'
    obtain ⟨b1, b2, b3, ob, b4, b5⟩ := e1.own i l' _ hl'
    rw [hσ] at b1
    cases b1
    cases i1
    cases b5 with
    | l b6 =>
      obtain ⟨d, h2, h3⟩ := h1
      obtain ⟨v, h4, h5⟩ := atI_all b6 h2
      exact .inl ⟨_, _, _, v, rfl, rfl, .inl (.inl b4), h4, hp v d ρ1 S1 H1 h3 s1 h5 e1⟩
  · exact h1.elim
theorem l_lenO : ∀ σ H Q, lE K τ W (wLenO i) σ H Q → tCB (rLenD K) (tCons (tVar i) tNil) σ H Q := by
  rintro σ H Q ⟨ρ, S, F, χ, Φ, e, hw, hx, hp⟩
  unfold wLenO at hw
  split at hw
  · rename_i l xs hl
    obtain ⟨b1, b2, b3, ob, b4, b5⟩ := e.own i l _ hl
    cases b5 with
    | l b6 => exact ⟨.ref l, b1, .inl ⟨l, _, rfl, .inl (.inl (.inl b4)), by rw [b6.length]; exact hp _ _ ρ S H hw (Same.refl S) (.int _) e⟩⟩
  · exact hw.elim
theorem l_app : ∀ D σ H, lS K τ W (wApp i wa) D σ H → tDrop (tBM K "list" rAppend (tVar i) (tCons (lE K τ W wa) tNil)) D σ H := by
  rintro D σ H ⟨ρ, S, F, Δ, e, ⟨⟨l, xs, hl⟩, hw⟩, hx, h1, h2, h3, h4, h5⟩
  obtain ⟨hσ, a2, a3, ob, a4, a5⟩ := e.own i l _ hl
  cases a5 with
  | l a6 =>
    refine ⟨.ref l, hσ, .inl ⟨rfl, _, .inl (.inl a4)⟩, ρ, S, F, _, _, e, hw, hx, fun x dx ρ1 S1 H1 q1 s1 i1 e1 => ?_⟩
    split at q1
    · rename_i l' ys hl'
      obtain ⟨b1, b2, b3, ob, b4, b5⟩ := e1.own i l' _ hl'
      rw [hσ] at b1
      cases b1
      cases b5 with
      | l b6 => exact ⟨l, _, x, rfl, rfl, b4, by rw [b6.length]; exact q1.1, h1 _ S1 _ _ q1.2 s1 (e1.wr hl' (.l (b6.append (.cons i1 .nil))))⟩
    · exact q1.elim
theorem l_setO : ∀ D σ H, lS K τ W (wSetO i wk wa) D σ H → tAsg (lE K τ W wa) (gSub (tVar i) (lE K τ W wk) rSetL) D σ H := by
  rintro D σ H ⟨ρ, S, F, Δ, e, hw, hx, h1, h2, h3, h4, h5⟩
  refine ⟨ρ, S, F, _, _, e, hw, hx, fun x dx ρ1 S1 H1 q1 s1 i1 e1 => ?_⟩
  obtain ⟨⟨l, xs, hl⟩, q1⟩ := q1
  obtain ⟨hσ, _⟩ := e1.own i l _ hl
  refine ⟨.ref l, hσ, ρ1, S1, F, _, _, e1, q1, hx.mono s1, fun y dy ρ2 S2 H2 q2 s2 i2 e2 => ?_⟩
  split at q2
  · rename_i z l' ys hl'
    obtain ⟨b1, b2, b3, ob, b4, b5⟩ := e2.own i l' _ hl'
    rw [hσ] at b1
    cases b1
    cases i2
    cases b5 with
    | l b6 =>
      obtain ⟨j, q3, q4⟩ := q2
      exact ⟨l, _, z, j, rfl, rfl, b4, by rw [b6.length]; exact q3, h1 _ S2 _ _ q4 (s1.trans s2) (e2.wr hl' (.l (IsAll.set (i1.mono s2) j b6)))⟩
  · exact q2.elim
end

/-! ### dicts -/
def keyD : D → Option Key
  | .int i => some (.inl i)
  | .str s => some (.inr s)
  | _ => none
def valD : List Key → List D → Key → Option D
  | k :: ks, d :: ds, x => if k = x then some d else valD ks ds x
  | _, _, _ => none
theorem keyD_is {K : Fg} {S : Hp} {v : V} {d : D} {k : Key} (h : Is K S v d) (e : keyD d = some k) : v = kV k := by
  cases h <;> unfold keyD at e <;> cases e <;> rfl
theorem valD_is {K : Fg} {S : Hp} {x : Key} : ∀ {kvs : List (Key × V)} {ds : List D}, IsAll K S (kvs.map (·.2)) ds → (valD (kvs.map (·.1)) ds x = none ∧ valV kvs x = none) ∨ ∃ d v, valD (kvs.map (·.1)) ds x = some d ∧ valV kvs x = some v ∧ Is K S v d
  | [], ds, hi => by
    cases hi
    exact .inl ⟨rfl, rfl⟩
  | (k, v) :: kvs, ds, hi => by
    cases hi with
    | @cons _ _ d ds' a b =>
      by_cases e : k = x
      · exact .inr ⟨d, v, by show (if k = x then some d else _) = _; rw [if_pos e], valV_pos e, a⟩
      · have q := valD_is (x := x) b
        have e1 : valD (((k, v) :: kvs).map (·.1)) (d :: ds') x = valD (kvs.map (·.1)) ds' x := by show (if k = x then some d else _) = _; rw [if_neg e]
        rw [e1, valV_neg (p := (k, v)) e]
        exact q
def wDGet (wa wk : WE) : WE := fun ρ χ Φ => wa ρ χ fun x ρ1 => wk ρ1 χ fun y ρ2 => match x with
  | .dic ks ds => ∃ k d, keyD y = some k ∧ valD ks ds k = some d ∧ Φ d ρ2
  | _ => False
def wDGet2 (wa wk wz : WE) : WE := fun ρ χ Φ => wa ρ χ fun x ρ1 => match x with
  | .dic ks ds => wk ρ1 χ fun y ρ2 => wz ρ2 χ fun z ρ3 => ∃ k, keyD y = some k ∧ Φ ((valD ks ds k).getD z) ρ3
  | _ => False
def wDIn (neg : Bool) (wk wa : WE) : WE := fun ρ χ Φ => wk ρ χ fun y ρ1 => wa ρ1 χ fun x ρ2 => match x with
  | .dic ks ds => ∃ k, keyD y = some k ∧ Φ (.bl (if neg = true then !(valD ks ds k).isSome else (valD ks ds k).isSome)) ρ2
  | _ => False
section
variable {K : Fg} {W : WX} {wa wk wz : WE}
theorem l_dget : ∀ σ H Q, lE K τ W (wDGet wa wk) σ H Q → tDGet (lE K τ W wa) (lE K τ W wk) σ H Q := by
  rintro σ H Q ⟨ρ, S, F, χ, Φ, e, hw, hx, hp⟩
  refine ⟨ρ, S, F, χ, _, e, hw, hx, fun x dx ρ1 S1 H1 h1 s1 i1 e1 => ?_⟩
  refine ⟨ρ1, S1, F, χ, _, e1, h1, hx.mono s1, fun y dy ρ2 S2 H2 h2 s2 i2 e2 => ?_⟩
  cases i1.mono s2 with
  | dic a1 a2 a3 =>
    obtain ⟨k, d, h3, h4, h5⟩ := h2
    subst a2
    rw [keyD_is i2 h3]
    rcases valD_is (x := k) a3 with ⟨z, _⟩ | ⟨d', v, z1, z2, z3⟩
    · rw [h4] at z; cases z
    · rw [h4] at z1
      cases z1
      refine ⟨_, v, rfl, ?_, hp v d ρ2 S2 H2 h5 (s1.trans s2) z3 e2⟩
      rw [← z2]
      exact DGet.k (e2.ex _ _ a1)
  | _ => exact False.elim h2
theorem l_dget2 : ∀ σ H Q, lE K τ W (wDGet2 wa wk wz) σ H Q → tDGet2 (lE K τ W wa) (lE K τ W wk) (lE K τ W wz) σ H Q := by
  rintro σ H Q ⟨ρ, S, F, χ, Φ, e, hw, hx, hp⟩
  refine ⟨ρ, S, F, χ, _, e, hw, hx, fun x dx ρ1 S1 H1 h1 s1 i1 e1 => ?_⟩
  cases i1 with
  | dic a1 a2 a3 =>
    refine ⟨_, rfl, .inl ⟨_, .inl (e1.ex _ _ a1)⟩, ρ1, S1, F, χ, _, e1, h1, hx.mono s1, fun y dy ρ2 S2 H2 h2 s2 i2 e2 => ?_⟩
    refine ⟨ρ2, S2, F, χ, _, e2, h2, hx.mono (s1.trans s2), fun z dz ρ3 S3 H3 h3 s3 i3 e3 => ?_⟩
    obtain ⟨k, h4, h5⟩ := h3
    subst a2
    rw [keyD_is i2 h4]
    refine ⟨_, DGet.k (e3.ex _ _ (s3 _ _ (s2 _ _ a1))), ?_⟩
    rcases valD_is (x := k) a3 with ⟨z1, z2⟩ | ⟨d', v, z1, z2, z3⟩
    · rw [z1] at h5
      rw [z2]
      exact hp _ _ ρ3 S3 H3 h5 ((s1.trans s2).trans s3) i3 e3
    · rw [z1] at h5
      rw [z2]
      exact hp _ _ ρ3 S3 H3 h5 ((s1.trans s2).trans s3) (z3.mono (s2.trans s3)) e3
  | _ => exact False.elim h1
theorem l_din : ∀ σ H Q, lE K τ W (wDIn false wk wa) σ H Q → tDIn (lE K τ W wk) (lE K τ W wa) σ H Q := by
  rintro σ H Q ⟨ρ, S, F, χ, Φ, e, hw, hx, hp⟩
  refine ⟨ρ, S, F, χ, _, e, hw, hx, fun y dy ρ1 S1 H1 h1 s1 i1 e1 => ?_⟩
  refine ⟨ρ1, S1, F, χ, _, e1, h1, hx.mono s1, fun x dx ρ2 S2 H2 h2 s2 i2 e2 => ?_⟩
  cases i2 with
  | dic a1 a2 a3 =>
    obtain ⟨k, h3, h4⟩ := h2
    subst a2
    rw [keyD_is i1 h3]
    refine ⟨_, _, rfl, DGet.k (e2.ex _ _ a1), ?_⟩
    rcases valD_is (x := k) a3 with ⟨z1, z2⟩ | ⟨d', v, z1, z2, z3⟩
    · rw [z1] at h4
      rw [z2]
      exact hp _ _ ρ2 S2 H2 h4 (s1.trans s2) (.bl _) e2
    · rw [z1] at h4
      rw [z2]
      exact hp _ _ ρ2 S2 H2 h4 (s1.trans s2) (.bl _) e2
  | _ => exact False.elim h2
theorem l_dnin : ∀ σ H Q, lE K τ W (wDIn true wk wa) σ H Q → tDNotIn (lE K τ W wk) (lE K τ W wa) σ H Q := by
  rintro σ H Q ⟨ρ, S, F, χ, Φ, e, hw, hx, hp⟩
  refine ⟨ρ, S, F, χ, _, e, hw, hx, fun y dy ρ1 S1 H1 h1 s1 i1 e1 => ?_⟩
  refine ⟨ρ1, S1, F, χ, _, e1, h1, hx.mono s1, fun x dx ρ2 S2 H2 h2 s2 i2 e2 => ?_⟩
  cases i2 with
  | dic a1 a2 a3 =>
    obtain ⟨k, h3, h4⟩ := h2
    subst a2
    rw [keyD_is i1 h3]
    refine ⟨_, _, rfl, DGet.k (e2.ex _ _ a1), ?_⟩
    rcases valD_is (x := k) a3 with ⟨z1, z2⟩ | ⟨d', v, z1, z2, z3⟩
    · rw [z1] at h4
      rw [z2]
      exact hp _ _ ρ2 S2 H2 h4 (s1.trans s2) (.bl _) e2
    · rw [z1] at h4
      rw [z2]
      exact hp _ _ ρ2 S2 H2 h4 (s1.trans s2) (.bl _) e2
  | _ => exact False.elim h2
end
end DL
set_option Elab.async false
set_option autoImplicit false
set_option linter.all false
set_option maxRecDepth 100000
set_option maxHeartbeats 3900000
namespace DL
open L2 PyProof.Rows PySem PySem.Spec
variable {τ : Tb}

/-! ### f-strings -/
def wJs : List WE → Str → Rho → XC → (Str → Rho → Prop) → Prop
  | [], acc, ρ, _, Φ => Φ acc ρ
  | w :: ws, acc, ρ, χ, Φ => w ρ χ fun x ρ1 => match x with
    | .str y => (acc ++ y).length ≤ sizeLine ∧ wJs ws (acc ++ y) ρ1 χ Φ
    | _ => False
def wFmt (wa : WE) : WE := fun ρ χ Φ => wa ρ χ fun x ρ1 => match x with
  | .str y => y.length ≤ sizeLine ∧ Φ (.str y) ρ1
  | .int i => i.natAbs.log2 < 1920 ∧ Φ (.str (toString i)) ρ1
  | _ => False
def wFs (ws : List WE) : WE := fun ρ χ Φ => wJs ws Str.empty ρ χ fun z ρ1 => Φ (.str z) ρ1
section
variable {K : Fg} {W : WX}
theorem l_fmt {wa : WE} : ∀ σ H Q, lE K τ W (wFmt wa) σ H Q → tFmt (lE K τ W wa) σ H Q := by
  rintro σ H Q ⟨ρ, S, F, χ, Φ, e, hw, hx, hp⟩
  refine ⟨ρ, S, F, χ, _, e, hw, hx, fun x dx ρ1 S1 H1 h1 s1 i1 e1 => ?_⟩
  cases i1 with
  | str y => exact .inl ⟨y, rfl, h1.1, hp _ _ ρ1 S1 H1 h1.2 s1 (.str _) e1⟩
  | int i => exact .inr ⟨i, rfl, h1.1, hp _ _ ρ1 S1 H1 h1.2 s1 (.str _) e1⟩
  | _ => exact False.elim h1
theorem l_js : ∀ (ws : List WE) (acc : Str) σ H (Q : Str → Hp → Prop) ρ S F χ Φ, ER K τ S F H ρ σ → wJs ws acc ρ χ Φ → XOk K τ F W S χ → (∀ z ρ' S' H', Φ z ρ' → Same S S' → ER K τ S' F H' ρ' σ → Q z H') → tJs (ws.map (lE K τ W)) acc σ H Q
  | [], acc, σ, H, Q, ρ, S, F, χ, Φ, e, hw, hx, hp => hp acc ρ S H hw (Same.refl S) e
  | w :: ws, acc, σ, H, Q, ρ, S, F, χ, Φ, e, hw, hx, hp => by
    refine ⟨ρ, S, F, χ, _, e, hw, hx, fun x dx ρ1 S1 H1 h1 s1 i1 e1 => ?_⟩
    cases i1 with
    | str y => exact ⟨y, rfl, h1.1, l_js ws _ σ H1 Q ρ1 S1 F χ Φ e1 h1.2 (hx.mono s1) fun z ρ' S' H' q s' e' => hp z ρ' S' H' q (s1.trans s') e'⟩
    | _ => exact False.elim h1
theorem l_fs {ws : List WE} : ∀ σ H Q, lE K τ W (wFs ws) σ H Q → tJs (ws.map (lE K τ W)) Str.empty σ H fun out H1 => Q (.str out) H1 := by
  rintro σ H Q ⟨ρ, S, F, χ, Φ, e, hw, hx, hp⟩
  exact l_js ws _ σ H _ ρ S F χ _ e hw hx fun z ρ' S' H' q s' e' => hp _ _ ρ' S' H' q s' (.str z) e'
end

/-! ### two names at once -/
def wPar (i j : Nat) (wl : WL) : WS := fun ρ Δ => wl ρ Δ.xc fun ds ρ1 => match ds with
  | [d, d'] => Δ.nx ((ρ1.set i (.val d)).set j (.val d'))
  | _ => False
def wParO (i j : Nat) (wa : WE) (wo : WEO) : WS := fun ρ Δ => wa ρ Δ.xc fun d ρ1 => wo ρ1 Δ.xc fun l od ρ2 => Δ.nx ((ρ2.set i (.val d)).set j (.own l od))
def wPar3 (i j k : Nat) (wl : WL) : WS := fun ρ Δ => wl ρ Δ.xc fun ds ρ1 => match ds with
  | [d, d', d''] => Δ.nx (((ρ1.set i (.val d)).set j (.val d')).set k (.val d''))
  | _ => False
section
variable {K : Fg} {W : WX}
theorem l_par {i j : Nat} {wl : WL} : ∀ D σ H, lS K τ W (wPar i j wl) D σ H → tPar i j (lL K τ W wl) D σ H := by
  rintro D σ H ⟨ρ, S, F, Δ, e, hw, hx, h1, h2, h3, h4, h5⟩
  refine ⟨ρ, S, F, _, _, e, hw, hx, fun vs ds ρ1 S1 H1 q1 s1 i1 e1 => ?_⟩
  split at q1
  · obtain ⟨v, u, rfl, iv, iu⟩ := isAll2 i1
    exact ⟨v, u, rfl, h1 _ S1 _ _ q1 s1 ((e1.set iv).set iu)⟩
  · exact q1.elim
theorem l_par3 {i j k : Nat} {wl : WL} : ∀ D σ H, lS K τ W (wPar3 i j k wl) D σ H → tPar3 i j k (lL K τ W wl) D σ H := by
  rintro D σ H ⟨ρ, S, F, Δ, e, hw, hx, h1, h2, h3, h4, h5⟩
  refine ⟨ρ, S, F, _, _, e, hw, hx, fun vs ds ρ1 S1 H1 q1 s1 i1 e1 => ?_⟩
  split at q1
  · cases i1 with
    | cons iv i1 => cases i1 with
      | cons iu i1 => cases i1 with
        | cons it i1 => cases i1; exact ⟨_, _, _, rfl, h1 _ S1 _ _ q1 s1 (((e1.set iv).set iu).set it)⟩
  · exact q1.elim
theorem notOwn_set {ρ : Rho} {i : Nat} {d : D} {l : Addr} (h : ∀ (j : Nat) (o2 : OD), ρ[j]? ≠ some (Sl.own l o2)) : ∀ (j : Nat) (o2 : OD), (ρ.set i (.val d))[j]? ≠ some (Sl.own l o2) := fun j o2 q => by
  by_cases hj : j = i
  · subst hj
    have hi : j < ρ.length := by
      have := (List.getElem?_eq_some_iff.mp q).1
      rwa [List.length_set] at this
    rw [List.getElem?_set_self hi] at q; cases q
  · rw [List.getElem?_set_ne (Ne.symm hj)] at q; exact h j o2 q
theorem l_parO {i j : Nat} {wa : WE} {wo : WEO} : ∀ D σ H, lS K τ W (wParO i j wa wo) D σ H → tPar i j (tCons (lE K τ W wa) (tCons (lEO K τ W wo) tNil)) D σ H := by
  rintro D σ H ⟨ρ, S, F, Δ, e, hw, hx, h1, h2, h3, h4, h5⟩
  refine ⟨ρ, S, F, _, _, e, hw, hx, fun v d ρ1 S1 H1 q1 s1 i1 e1 => ?_⟩
  refine ⟨ρ1, S1, F, _, _, e1, q1, hx.mono s1, fun l od o ρ2 S2 H2 q2 s2 a1 a2 a3 a4 a5 e2 => ?_⟩
  exact ⟨v, _, rfl, h1 _ S2 _ _ q2 (s1.trans s2) ((e2.set (i1.mono s2)).setOwn a1 a3 a4 a2 (notOwn_set a5))⟩
end

/-! ### a def as a whole -/
theorem er_more {K : Fg} {S F H : Hp} {ρ : Rho} {σ : L2.St} (e : ER K τ S F H ρ σ) (k : Nat) : ER K τ S F H (ρ ++ List.replicate k .un) (σ ++ List.replicate k none) := by
  have at_ : ∀ {i : Nat} {s : Sl}, (ρ ++ List.replicate k Sl.un)[i]? = some s → s = .un ∨ ρ[i]? = some s := fun {i s} h => by
    by_cases hi : i < ρ.length
    · rw [List.getElem?_append_left hi] at h; exact .inr h
    · rw [List.getElem?_append_right (by omega)] at h
      have h2 := List.mem_of_getElem? h
      exact .inl (List.eq_of_mem_replicate h2)
  have go : ∀ {i : Nat} {s : Sl}, ρ[i]? = some s → (σ ++ List.replicate k none)[i]? = σ[i]? := fun {i s} h => by
    have hi := (List.getElem?_eq_some_iff.mp h).1
    rw [List.getElem?_append_left (by rw [← e.len]; exact hi)]
  refine ⟨by rw [List.length_append, List.length_append, e.len, List.length_replicate, List.length_replicate], e.ex, e.fr, fun i d h => ?_, fun i l od h => ?_, fun i j l o o' h1 h2 => ?_, e.tb⟩
  · rcases at_ h with z | z
    · cases z
    · rw [go z]; exact e.val i d z
  · rcases at_ h with z | z
    · cases z
    · rw [go z]; exact e.own i l od z
  · rcases at_ h1 with z | z
    · cases z
    · rcases at_ h2 with z2 | z2
      · cases z2
      · exact e.dis i j l o o' z z2
theorem isAll_of_er {K : Fg} {S F H : Hp} : ∀ {ds : List D} {vs : List V}, ER K τ S F H (args none ds) (vs.map some) → IsAll K S vs ds := by
  intro ds vs e
  have hl : ds.length = vs.length := by have := e.len; rw [args_none, List.length_map, List.length_map] at this; exact this
  have hv : ∀ i d, ds[i]? = some d → ∃ v, vs[i]? = some v ∧ Is K S v d := fun i d h => by
    obtain ⟨v, h1, h2⟩ := e.val i d (by rw [args_none, List.getElem?_map, h]; rfl)
    rw [List.getElem?_map] at h1
    cases q : vs[i]? with
    | none => rw [q] at h1; cases h1
    | some u => rw [q] at h1; cases h1; exact ⟨v, q, h2⟩
  clear e
  induction ds generalizing vs with
  | nil => cases vs with
    | nil => exact .nil
    | cons v vs => cases hl
  | cons d ds ih => cases vs with
    | nil => cases hl
    | cons v vs =>
      obtain ⟨u, h1, h2⟩ := hv 0 d rfl
      cases h1
      exact .cons h2 (ih (by simpa using hl) fun i d h => hv (i + 1) d h)
theorem isAll_of_erO {K : Fg} {S F H : Hp} {ds : List D} {l : Addr} {o : OD} {vs : List V} (e : ER K τ S F H (args (some (l, o)) ds) (vs.map some)) : ∃ us, vs = .ref l :: us ∧ IsAll K S us ds := by
  cases vs with
  | nil => have := e.len; cases this
  | cons v us =>
    obtain ⟨h1, _⟩ := e.own 0 l o rfl
    have h1' : some (some v) = some (some (V.ref l)) := h1
    cases h1'
    refine ⟨us, rfl, ?_⟩
    have hl : ds.length = us.length := by have := e.len; simpa [args] using this
    have hv : ∀ i d, ds[i]? = some d → ∃ v, us[i]? = some v ∧ Is K S v d := fun i d h => by
      obtain ⟨v, h1, h2⟩ := e.val (i + 1) d (by show (ds.map Sl.val)[i]? = _; rw [List.getElem?_map, h]; rfl)
      have h1 : (us.map some)[i]? = some (some v) := h1
      rw [List.getElem?_map] at h1
      cases q : us[i]? with
      | none => rw [q] at h1; cases h1
      | some u => rw [q] at h1; cases h1; exact ⟨v, q, h2⟩
    clear e
    induction ds generalizing us with
    | nil => cases us with
      | nil => exact .nil
      | cons v vs => cases hl
    | cons d ds ih => cases us with
      | nil => cases hl
      | cons v vs =>
        obtain ⟨u, h1, h2⟩ := hv 0 d rfl
        cases h1
        exact .cons h2 (ih vs rfl (by simpa using hl) fun i d h => hv (i + 1) d h)
def outs (hl : Option (Addr × OD)) (ρ : Rho) (P : Option OD → Prop) : Prop := match hl with
  | none => P none
  | some p => ∃ o, ρ[0]? = some (Sl.own p.1 o) ∧ P (some o)
def dEnds (hl : Option (Addr × OD)) (Ψ : D → Option OD → Prop) (Ξ : Addr → Str → D → Prop) : DE where
  nx := fun ρ => outs hl ρ (Ψ .non)
  rt := fun d ρ => outs hl ρ (Ψ d)
  bk := fun _ => False
  ct := fun _ => False
  xc := fun C f d _ => Ξ C f d
section
variable {P : Program} {w : World} {K : Fg} {mg : Str → Option Value} {base : Heap} {x qual : Str} {params : Arguments} {body : List Stmt} {scope : Scope} {dvs : List V} {kws : List (Str × V)} {f : Addr} {fd : FuncData} {N ps : List Str} {k n : Nat}
abbrev wishOf (E : XK) : WX := fun cls d _ H' => E cls d H'
theorem defG {t : List (Addr × Str)} {sp : Spc} {ws : WS} (F : FunD K x qual params body scope dvs kws f fd) (Sc : FnScope N ps scope) (hps : ps.length = n)
    (hd : ∀ (cdv : Value) (A : Around) (outer : List Env) (s : Shared) (H : Hp) (E : XK), codeOf8 K f = some cdv → Cok (cxOf (L2.CX P w) P w K mg base N qual scope f cdv A outer s H E) (wishOf E) k → PSs (cxOf (L2.CX P w) P w K mg base N qual scope f cdv A outer s H E) body (lS K (tb0 t) (wishOf E) ws))
    (hm : ∀ hl ds Ψ Ξ, (args hl ds).length = n → sp (hl.map (·.2)) ds Ψ Ξ → ws (args hl ds ++ List.replicate (N.length - n) .un) (dEnds hl Ψ Ξ)) : FnG P w K mg base (k + 1) f fd ps (lSp K t n sp) := by
  refine fnG_of F Sc (fun vs H Q E h => ?_) fun cdv A outer s H vs Q E hcv c h => ⟨_, hd cdv A outer s H E hcv c, ?_⟩
  · obtain ⟨_, _, _, _, _, _, h, _⟩ := h
    rw [h, hps]
  · obtain ⟨S, Fr, hl, ds, Ψ, Ξ, hn, e, hs, hq, hx⟩ := h
    have la : (args hl ds).length = n := by rw [e.len, List.length_map, hn]
    have ee := er_more e (N.length - n)
    have es : L2.start N vs = vs.map some ++ List.replicate (N.length - n) none := by unfold L2.start; rw [hn]
    -- the arguments behind any steps
    have back : ∀ {d : D} {v : V} {ρ' S' σ' H'}, outs hl ρ' (Ψ d) → Same S S' → Is K S' v d → ER K (tb0 t) S' Fr H' ρ' σ' → Q v H' := by
      intro d v ρ' S' σ' H' q s' iv e'
      cases hl with
      | none => exact hq d v none S' H' q rfl s' iv (er_args ((isAll_of_er e).mono s') e'.ex e'.tb e'.fr)
      | some p =>
        obtain ⟨l, o⟩ := p
        obtain ⟨o', h1, h2⟩ := q
        obtain ⟨us, rfl, iu⟩ := isAll_of_erO e
        obtain ⟨_, b2, b3, ob, b4, b5⟩ := e'.own 0 l o' h1
        exact hq d v (some o') S' H' h2 rfl s' iv (er_argsO (iu.mono s') e'.ex e'.tb e'.fr b4 b2 b3 b5)
    rw [es]
    refine ⟨_, S, Fr, _, ee, hm hl ds Ψ Ξ la hs, ?_, fun ρ' S' σ' H' q s' e' => back q s' .non e', fun d v ρ' S' σ' H' q s' iv e' => back q s' iv e', fun ρ' S' σ' H' q => q.elim, fun ρ' S' σ' H' q => q.elim, fun l od o ρ' S' σ' H' q => q.elim⟩
    exact fun C f d v dd ρ' S' σ' H' q s' e' hd' iv => hx C f d v dd S' H' q s' e'.ex e'.tb e'.fr hd' iv
/-- a def that hands back a new object, its caller's own -/
abbrev SpcO := List D → (OD → Prop) → Prop
def lSpO (K : Fg) (t : List (Addr × Str)) (n : Nat) (sp : SpcO) : Sp := fun vs H Q _ => ∃ S F ds Ψ, vs.length = n ∧ ER K (tb0 t) S F H (args none ds) (vs.map some) ∧ sp ds Ψ ∧
  ∀ od l o S' H', Ψ od → Same S S' → H' l = some o → OIs K S' o od → S' l = none → F l = none → ER K (tb0 t) S' F H' (args none ds) (vs.map some) → Q (.ref l) H'
theorem defO {t : List (Addr × Str)} {sp : SpcO} {ws : WS} (F : FunD K x qual params body scope dvs kws f fd) (Sc : FnScope N ps scope) (hps : ps.length = n)
    (hd : ∀ (cdv : Value) (A : Around) (outer : List Env) (s : Shared) (H : Hp) (E : XK), codeOf8 K f = some cdv → Cok (cxOf (L2.CX P w) P w K mg base N qual scope f cdv A outer s H E) (wishOf E) k → PSs (cxOf (L2.CX P w) P w K mg base N qual scope f cdv A outer s H E) body (lS K (tb0 t) (wishOf E) ws))
    (hm : ∀ ds Ψ, ds.length = n → sp ds Ψ → ws (args none ds ++ List.replicate (N.length - n) .un) { nx := fun _ => False, rt := fun _ _ => False, bk := fun _ => False, ct := fun _ => False, xc := χ0, ro := fun _ od _ => Ψ od }) : FnG P w K mg base (k + 1) f fd ps (lSpO K t n sp) := by
  refine fnG_of F Sc (fun vs H Q E h => ?_) fun cdv A outer s H vs Q E hcv c h => ⟨_, hd cdv A outer s H E hcv c, ?_⟩
  · obtain ⟨_, _, _, _, h, _⟩ := h
    rw [h, hps]
  · obtain ⟨S, Fr, ds, Ψ, hn, e, hs, hq⟩ := h
    have ee := er_more e (N.length - n)
    have es : L2.start N vs = vs.map some ++ List.replicate (N.length - n) none := by unfold L2.start; rw [hn]
    have iu := isAll_of_er e
    rw [es]
    refine ⟨_, S, Fr, _, ee, hm ds Ψ (by rw [← iu.length]; exact hn) hs, XOk.none, fun ρ' S' σ' H' q => q.elim, fun d v ρ' S' σ' H' q => q.elim, fun ρ' S' σ' H' q => q.elim, fun ρ' S' σ' H' q => q.elim, fun l od o ρ' S' σ' H' q s' a1 a2 a3 a4 e' => ?_⟩
    exact hq od l o S' H' q s' a1 a2 a3 a4 (er_args (iu.mono s') e'.ex e'.tb e'.fr)
end

/-! ### calls of such defs; a first argument that was just made -/
def woCall (n : Nat) (sp : SpcO) (wa : WL) : WEO := fun ρ χ Φ => wa ρ χ fun ds ρ1 => ds.length = n ∧ sp ds fun od => ∀ l, Φ l od ρ1
def wCallT (n : Nat) (sp : Spc) (wo : WEO) (wa : WL) : WE := fun ρ χ Φ => wo ρ χ fun _ od ρ1 => wa ρ1 χ fun ds ρ2 => ds.length = n ∧ sp (some od) ds (fun d _ => Φ d ρ2) fun _ _ _ => False
section
variable {K : Fg} {W : WX} {n : Nat} {gV : List V → List V → List V}
theorem lo_call {sp : SpcO} {wa : WL} (hg : ∀ vs, gV vs [] = vs) : ∀ σ H Q, lEO K τ W (woCall n sp wa) σ H Q → tCallG W n 0 (lSpO K τ.t n sp) gV (lL K τ W wa) tNil σ H Q := by
  rintro σ H Q ⟨ρ, S, F, χ, Φ, e, hw, hx, hp⟩
  refine ⟨ρ, S, F, χ, _, e, hw, hx, fun vs ds ρ1 S1 H1 h1 s1 i1 e1 => ?_⟩
  obtain ⟨l1, h2⟩ := h1
  have l1' : vs.length = n := by rw [i1.length]; exact l1
  have fr : ∀ a o, others τ.t S1 H1 (fun _ => False) a = some o → H1 a = some o ∧ (S1 a = none ∨ TupO o) := fun a o h => by
    obtain ⟨_, a1, a2⟩ := others_inv h
    exact ⟨a2, .inl a1⟩
  refine ⟨l1', rfl, S1, others τ.t S1 H1 fun _ => False, ds, _, by rw [hg, l1'], by rw [hg]; exact er_args i1 e1.ex e1.tb.oth fr, h2, fun od l o S' H' q s' a1 a2 a3 a4 er => ?_⟩
  have hl : H1 l = none := by
    have s1l : S1 l = none := by
      cases h : S1 l with
      | none => rfl
      | some u => rw [s' l u h] at a3; cases a3
    cases h : H1 l with
    | none => rfl
    | some u =>
      have nl : l ∉ τ.t.map (·.1) := fun z => by
        obtain ⟨q, hq, rfl⟩ := List.mem_map.mp z
        obtain ⟨ps, h6⟩ := er.tb.at hq
        rw [a1] at h6; exact a2.notX.1 ps (Option.some.inj h6)
      rw [others_of (p := fun _ => False) nl (fun z => z) s1l h] at a4; cases a4
  exact hp l od o ρ1 S' H' (q l) (s1.trans s') a1 a2 a3 (e1.fp hl) (e1.notOwn hl) (e1.back s' er.ex er.tb.tab er.tb.nS (fun a o n a1 a2 => others_of n (fun z => z) a1 a2) er.fr)
theorem ER.lessF {S F H : Hp} {ρ : Rho} {σ : L2.St} {p : Addr} {o : HO} (e : ER K τ S (upd F p o) H ρ σ) (fp : F p = none) (gp : τ.gf p = none) : ER K τ S F H ρ σ := by
  refine ⟨e.len, e.ex, fun a u h => e.fr a u (by rw [upd_ne (ne_of_none h fp)]; exact h), e.val, fun i l od h => ?_, e.dis, e.tb.lessF fp gp⟩
  obtain ⟨a1, a2, a3, a4⟩ := e.own i l od h
  have ne : l ≠ p := fun z => by rw [z, upd_same] at a3; cases a3
  rw [upd_ne ne] at a3
  exact ⟨a1, a2, a3, a4⟩
theorem l_callT {sp : Spc} {wo : WEO} {wa : WL} (hg : ∀ vs, gV vs [] = vs) : ∀ σ H Q, lE K τ W (wCallT n sp wo wa) σ H Q → tCallG W (n + 1) 0 (lSp K τ.t (n + 1) sp) gV (tCons (lEO K τ W wo) (lL K τ W wa)) tNil σ H Q := by
  rintro σ H Q ⟨ρ, S, F, χ, Φ, e, hw, hx, hp⟩
  refine ⟨ρ, S, F, χ, _, e, hw, hx, fun l od o ρ1 S1 H1 h1 s1 a1 a2 a3 a4 a5 e1 => ?_⟩
  have eF : ER K τ S1 (upd F l o) H1 ρ1 σ := by
    refine ⟨e1.len, e1.ex, fun a u h => ?_, e1.val, fun i m od2 h => ?_, e1.dis, e1.tb.addF a1 a4 a2.notX.1⟩
    · by_cases ha : a = l
      · subst ha; rw [upd_same] at h; cases h; exact ⟨a1, .inl a3⟩
      · rw [upd_ne ha] at h; exact e1.fr a u h
    · obtain ⟨b1, b2, b3, b4⟩ := e1.own i m od2 h
      have ne : m ≠ l := fun z => by subst z; exact a5 i od2 h
      exact ⟨b1, b2, by rw [upd_ne ne]; exact b3, b4⟩
  have hx' : XOk K τ (upd F l o) W S1 χ := fun C f d v dd ρ' S' σ' H' b1 b2 b3 b4 b5 => hx C f d v dd ρ' S' σ' H' b1 (s1.trans b2) (b3.lessF a4 (e1.tb.free a4)) b4 b5
  refine ⟨ρ1, S1, upd F l o, χ, _, eF, h1, hx', fun vs ds ρ2 S2 H2 h2 s2 i2 e2 => ?_⟩
  obtain ⟨l1, h2⟩ := h2
  have l1' : vs.length = n := by rw [i2.length]; exact l1
  obtain ⟨hl, sl⟩ := e2.fr l o upd_same
  replace sl := sl.resolve_right a2.nt
  refine ⟨by rw [List.length_cons, l1'], rfl, S2, others τ.t S2 H2 (fun a => a = l), some (l, od), ds, _, _, by rw [hg, List.length_cons, l1'], ?_, h2, fun d v o2 S' H' q hs s' iv er => ?_, fun C f d v dd S' H' q => q.elim⟩
  · rw [hg]
    exact er_argsO i2 e2.ex e2.tb.oth (fun a o h => by obtain ⟨_, a1, a2⟩ := others_inv h; exact ⟨a2, .inl a1⟩) hl sl (by unfold others; rw [if_pos (.inl rfl)]) (a2.mono s2)
  · have e3 : ER K τ S2 F H2 ρ2 σ := e2.lessF a4 (e1.tb.free a4)
    have no : ∀ (j : Nat) (o2 : OD), ρ2[j]? ≠ some (Sl.own l o2) := fun j o2 h => by
      have b3 := (e2.own j l o2 h).2.2.1
      rw [upd_same] at b3; cases b3
    -- back to the caller: all but l is kept
    have e4 : ER K τ S' F H' ρ2 σ := by
      have keep : ∀ a u, a ∉ τ.t.map (·.1) → a ≠ l → S2 a = none → H2 a = some u → H' a = some u ∧ (S' a = none ∨ TupO u) := fun a u n b0 b1 b2 => er.fr a u (others_of (p := fun a => a = l) n b0 b1 b2)
      have nt : ∀ a o, F a = some o → a ∉ τ.t.map (·.1) := fun a o h z => by
        obtain ⟨q, hq, rfl⟩ := List.mem_map.mp z
        rw [e3.tb.nF q hq] at h; cases h
      refine ⟨e3.len, er.ex, fun a u h => ?_, fun i d h => ?_, fun i m od2 h => ?_, e3.dis, ⟨er.tb.tab, er.tb.nS, e3.tb.nF, fun a o h => s' _ _ (e3.tb.ks a o h), e3.tb.kf⟩⟩
      · obtain ⟨b1, b2⟩ := e3.fr a u h
        exact fr_back (Fc := F) s' er.ex e3.ex b1 b2 fun b3 => keep a u (nt a u h) (fun z => by rw [z, a4] at h; cases h) b3 b1
      · obtain ⟨v, b1, b2⟩ := e3.val i d h
        exact ⟨v, b1, b2.mono s'⟩
      · obtain ⟨b1, b2, b3, ob, b4, b5⟩ := e3.own i m od2 h
        have ne : m ≠ l := fun z => by subst z; exact no i od2 h
        obtain ⟨b6, b7⟩ := keep m ob (e3.nTb h) ne b2 b4
        exact ⟨b1, b7.resolve_right b5.nt, b3, ob, b6, b5.mono s'⟩
    exact hp v d ρ2 S' H' q ((s1.trans s2).trans s') iv e4
end
end DL
set_option Elab.async false
set_option autoImplicit false
set_option linter.all false
set_option maxRecDepth 100000
set_option maxHeartbeats 3900000
namespace PySem
namespace DLK
open PySem.W PySem.Calls PyProof.Rows PySem.HandSPX
/-! ### own error classes that stand over KeyError: as the library's for ValueError, the class between being one more -/
abbrev keTail : List Value := [.type "KeyError", .type "LookupError", .type "Exception", .type "BaseException", .type "object"]
section
variable {prog : Program} {w : World} {A : Around} {R : Result → Shared → Prop} {hp : Heap} {g : Array GenState} {d : Drawn} {tk : Nat} {os : OsState} {nm qn : Str} {C N fI : Addr} {bs sub zs : List Value} {sn : List Str} {ab : Bool} {col : Option Bool} {dd : Option Addr} {k0 k1 k2 k3 k5 : Option Value}
abbrev keO (C t : Addr) : Obj := { cls := .ref C, data := .fields #[.ref t, .none, .none, .none, .bool false, .none] }
theorem ke_in (X : String) : (Value.ref C :: keTail).contains (.type X) = keTail.contains (.type X) := by rw [List.contains_cons]; rfl
theorem ke_check {M : Model} {E : Value → Shared → Prop} {Q : Unit → Shared → Prop} (hC : hp.get? C = some (excClassObj nm qn C N bs keTail true sn sub ab col dd k0 k1 k2 k3 k5 "LookupError.__new__")) (hq : Q () ⟨hp, g, d, tk, os⟩) :
    wpAny M A (checkBuiltinCall "LookupError.__new__" ⟨.ref C :: zs, []⟩) Q E ⟨hp, g, d, tk, os⟩ := by
  have F := PySem.F.excBase_LookupError
  have hB : (Value.ref C :: keTail).contains (.type "LookupError") = true := (ke_in _).trans (by decide +kernel)
  have hs := F.noStar
  (simp only [checkBuiltinCall, F.newKind, F.newSplit, F.newRow])
  (repeat (first | refine wpAny_loadPart_at hC ?_ | (refine wpAny_isSubtype_exc hC ?_; rw [hB]) | refine wpAny_staticBase_exc hC ?_ | refine wpAny_madeBy_exc hC ?_ | simp only [bne_self_eq_false, Bool.false_eq_true, if_false] | wp_step))
  exact hq
theorem ke_new (hC : hp.get? C = some (excClassObj nm qn C N bs keTail true sn sub ab col dd k0 k1 k2 k3 k5 "LookupError.__new__")) (hq : R (.ok (.ret (.ref (hp.objs.size + 1)))) ⟨(hp.push (PySem.W.kdv_tup zs)).push (keO C hp.objs.size), g, d, tk, os⟩) (hz : zs.length ≤ sizeLine) :
    codeAny (model prog w) A (.builtin "LookupError.__new__" ⟨.ref C :: zs, []⟩) R ⟨hp, g, d, tk, os⟩ := by
  have F := PySem.F.excBase_LookupError
  have he := F.ends
  have hB : (Value.ref C :: keTail).contains (.type "LookupError") = true := (ke_in _).trans (by decide +kernel)
  have hA : (Value.ref C :: keTail).contains (.type "AttributeError") = false := (ke_in _).trans (by decide +kernel)
  have hN : (Value.ref C :: keTail).contains (.type "NameError") = false := (ke_in _).trans (by decide +kernel)
  refine codeAny_builtinAt F.entry ?_; unfold Builtin.«BaseException.__new__»; refine wpAt_bind ?_
  show wpAt _ _ _ (stack >>= _) _ _ _
  refine wpAt_bind (wpAt_stack fun p below => wpAt_of_wpAny ?_); wp_walk; refine wpAt_of_wpAny ?_; rw [F.owner]
  repeat (first | with_reducible refine wpAny_madeHere_exc F.canon hC ?_ | with_reducible refine wpAny_loadPart_at hC ?_ | (with_reducible refine wpAny_isSubtype_exc hC ?_; first | rw [hB] | rw [hA] | rw [hN]) | wp_step)
  show R _ _
  rw [Heap.size_push]; exact hq
theorem ke_type {Q : Fin → Shared → Prop} {E : Value → Shared → Prop} (hC : hp.get? C = some (excClassObj nm qn C N bs keTail true sn sub ab col dd k0 k1 k2 k3 k5 "LookupError.__new__"))
    (hi : W.Looks (model prog w) hp (typeLookup (.ref C) "__init__") (some (.ref fI))) (hb : ∀ self, W.Looks (model prog w) hp (bindSpecial (.ref fI) self) (.ref fI, [self])) (hz : zs.length ≤ sizeLine)
    (hq : codeAny (model prog w) A (.call (.ref fI) ⟨.ref (hp.objs.size + 1) :: zs, []⟩) (fun r s' => match r with | .ok (.ret v) => v = .none ∧ Q (.done (.ret (.ref (hp.objs.size + 1)))) s' | .ok _ => False | .error e => E e s') ⟨(hp.push (W.kdv_tup zs)).push (keO C hp.objs.size), g, d, tk, os⟩) :
    wpAny (model prog w) A (Builtin.«type.__call__» ⟨.ref C :: zs, []⟩) Q E ⟨hp, g, d, tk, os⟩ := by
  (repeat (first | with_reducible refine wpAny_loadPart_at hC ?_ | with_reducible refine wpAny_madeBy_exc hC ?_ | wp_step))
  refine codeAny_call_builtin_code (Code.quiet_builtin _ PySem.F.excBase_LookupError.quiet) (ke_check hC ?_)
  refine ke_new hC ?_ hz
  show wpAny _ _ _ _ _ _
  have kk : ∀ b o, hp.get? b = some o → ((hp.push (W.kdv_tup zs)).push (keO C hp.objs.size)).get? b = some o := fun b o e => Heap.get?_push_of_some _ (Heap.get?_push_of_some _ e)
  have c1 := kk _ _ hC
  have c2 : ((hp.push (W.kdv_tup zs)).push (keO C hp.objs.size)).get? (hp.objs.size + 1) = some (keO C hp.objs.size) := by heap_get
  have c3 : (Value.ref C :: keTail).contains (.ref C) = true := by simp
  have i1 := hi.keeps kk; have b1 := (hb (.ref (hp.objs.size + 1))).keeps kk; unfold isInstance
  (repeat (first | with_reducible refine wpAny_loadPart_at c2 ?_ | (with_reducible refine wpAny_isSubtype_exc c1 ?_; rw [c3]) | wp_step))
  show wpAny _ _ (typeLookup (.ref C) _) _ _ _
  refine i1.at ?_; refine wpAny_holding (wpAny_bind (b1.at ?_)); refine wpAny_bind (wpAny_call (codeAny_mono hq fun r s' z => ?_))
  rcases r with e | (v | _ | _ | _) <;> first | exact z | exact z.elim | skip
  obtain ⟨rfl, z⟩ := z
  first | exact wpAny_pure (wpAny_pure z) | (wp_walk; exact z)
theorem ke_call (hC : hp.get? C = some (excClassObj nm qn C N bs keTail true sn sub ab col dd k0 k1 k2 k3 k5 "LookupError.__new__"))
    (hi : W.Looks (model prog w) hp (typeLookup (.ref C) "__init__") (some (.ref fI))) (hb : ∀ self, W.Looks (model prog w) hp (bindSpecial (.ref fI) self) (.ref fI, [self])) (hz : zs.length ≤ sizeLine)
    (hq : codeAny (model prog w) (A.under (.builtin "type.__call__" ⟨.ref C :: zs, []⟩)) (.call (.ref fI) ⟨.ref (hp.objs.size + 1) :: zs, []⟩) (W.InitBack (hp.objs.size + 1) R) ⟨(hp.push (W.kdv_tup zs)).push (keO C hp.objs.size), g, d, tk, os⟩) :
    codeAny (model prog w) A (.call (.ref C) ⟨zs, []⟩) R ⟨hp, g, d, tk, os⟩ := by
  have f1 := tc_lookup
  have f2 := tc_bind (.ref C)
  have hTy : (⟨hp, g, d, tk, os⟩ : Shared).TypeIs (.ref C) "type" := ⟨_, hC, rfl⟩
  refine codeAny_of_tree ?_
  show wpAny _ _ (callAny (.ref C) _) _ _ _
  repeat (any_goals (first | assumption | with_reducible refine wpAny_loadPart_at hC ?_ | wp_step))
  refine ⟨rfl, ?_⟩
  refine codeAny_call_builtin_at (Code.quiet_builtin _ (by decide +kernel)) entry_typeCall (wpAny_check_type_call_sub hC (ke_type hC hi hb hz ?_))
  refine codeAny_mono hq fun r s' z => ?_
  rcases r with e | (v | _ | _ | _) <;> exact z
end
end DLK
end PySem
set_option Elab.async false
set_option autoImplicit false
set_option linter.all false
set_option maxRecDepth 100000
set_option maxHeartbeats 3900000
namespace PySem
namespace DLK
open PySem.W PySem.Calls PyProof.Rows PySem.HandSPX PySem.F
open Builtin Builtin.ObjectAttr
theorem ke_pass (self : Value) : refuseLoop self "__setattr__" keTail = pure () := by kernel_rfl
section
variable {prog : Program} {w : World} {A : Around} {R : Result → Shared → Prop} {hp : Heap} {g : Array GenState} {d : Drawn} {t : Nat} {os : OsState} {K : W.Frag} {name : Str} {tk : Tok} {v : Value} {x C : Addr} {fv : Array Value} {cd : ClassData}
theorem ke_store (X : K.In hp) (hx : hp.get? x = some { cls := .ref C, data := .fields fv }) (hcd : W.clsIn K C = some cd) (hm : cd.mro = .ref C :: keTail) (hh : cd.hasDict = true) (ha : W.findIn K (.ref C) name = some none)
    (hq : ∀ h' tk' dx, (∀ b o, b ≠ x → hp.get? b = some o → h'.get? b = some o) → hp.objs.size ≤ dx → dx ≠ x → h'.get? x = some { cls := .ref C, dict := some dx, data := .fields fv } → h'.Ns1 dx (fun y => if y = name then some v else none) → R (.ok (.ret .none)) ⟨h', g, d, tk', os⟩) :
    codeAny (model prog w) A (.call (.builtin "object.__setattr__") ⟨[.ref x, .str name tk, v], []⟩) R ⟨hp, g, d, t, os⟩ := by
  have I : W.InstAt hp x { cls := .ref C, data := .fields fv } C none := ⟨hx, rfl, rfl, trivial⟩
  have G := F.store_object
  have hob : cd.mro.contains (.type "object") = true := by rw [hm]; exact (ke_in _).trans (by decide +kernel)
  have hne : cd.mro.isEmpty = false := by rw [hm]; rfl
  have nx : x ≠ hp.objs.size := Nat.ne_of_lt (Heap.lt_size hx)
  have sb : W.Looks (model prog w) hp (isInstance (.ref x) (.type "object")) true := I.type.andThen (W.looks_mroIn X (by unfold W.mroIn; rw [hcd, Option.bind_some, if_neg (by rw [hne]; decide), hob]))
  refine codeAny_call_builtin G.slot.plain G.entry (@W.check_slot (model prog w) _ _ ⟨hp, g, d, t, os⟩ "object.__setattr__" "object" "__setattr__" (.ref x) [.str name tk, v] [] _ G.kind G.split sb (G.args (.ref x) (.str name tk) v) ?_)
  have m1 : W.Looks (model prog w) hp (mroOf (.ref C)) cd.mro := (W.looks_clsIn X hcd).andThen .now
  have m2 : W.Looks (model prog w) hp (storeTaker? none) none := .now
  have m3 : W.Looks (model prog w) hp (classData C) cd := W.looks_clsIn X hcd
  rw [W.osa_eq, refuse_eq]; refine wpAny_bind (wpAny_bind (I.type.at (wpAny_bind (m1.at ?_))))
  rw [hm, refuseLoop_ref, ke_pass]; refine wpAny_pure (wpAny_bind (I.type.at (wpAny_bind ((W.looks_findIn X ha).at (wpAny_bind (m2.at ?_))))))
  show wpAny _ _ (storeInOwnDict (.ref x) (.ref C) (.str name tk) name v false) _ _ _
  obtain ⟨nm, bs, mro, ns, qn, hd, sn, sb', ab, col, del⟩ := cd
  dsimp only at hh; subst hh; unfold storeInOwnDict ownDictForStores
  repeat (first | with_reducible refine store_in_new ?_ ?_ | with_reducible refine wpAny_loadPart_at hx ?_ | with_reducible refine m3.at ?_ | wp_step)
  · exact ⟨_, #[], _, (Heap.get?_update_ne _ _ _ _ nx.symm).trans (Heap.get?_push_at rfl rfl), rfl, fun e he => absurd he (by simp), fun _ => rfl⟩
  · intro h' tk' hn' hs
    have hx1 : (hp.push { cls := .type "dict", data := .dict #[] }).get? x = some { cls := .ref C, data := .fields fv } := Heap.get?_push_of_some _ hx
    refine hq h' tk' hp.objs.size (fun b o hb ho => ?_) (Nat.le_refl _) nx.symm ?_ hn'
    · exact (hs.2 b (Nat.ne_of_lt (Heap.lt_size ho))).trans ((Heap.get?_update_ne _ _ _ _ hb).trans (Heap.get?_push_of_some _ ho))
    · exact (hs.2 x nx).trans (Heap.get?_update_self _ hx1 rfl)
end
end DLK
end PySem
namespace L2
open PySem PySem.Spec PyProof.Rows PySem.DLK
structure OexK (K : PySem.W.Frag) (C : Addr) : Prop where
  cls : ∃ nm q N bs sn sub ab col dd k0 k1 k2 k3 k5, K.lookup C = some (excClassObj nm q C N bs keTail true sn sub ab col dd k0 k1 k2 k3 k5 "LookupError.__new__")
  sa : PySem.W.findIn K (.ref C) "__setattr__" = some (some (.builtin "object.__setattr__"))
  exC : PySem.W.subIn K (.ref C) (.type "BaseException") = some true
  tyC : PySem.W.typeIn K (.ref C) = some (.type "type")
  kC : PySem.W.keepIn K (.ref C) = true
section
variable {X : Cx} {pins : List (Addr × Obj)} {σ : St} {H : Hp} {s : Shared} {a C dx : Addr} {f : Str} {y : V} {u : Value} {Q : Unit → Shared → Prop} {E : Value → Shared → Prop} {A : Around}
/-- self.f = y -/
theorem ke_ost (T : OexK X.K C) (I : Inv X pins σ H s) (e : H a = some (exo a C none)) (hno : PySem.W.findIn X.K (.ref C) f = some none) (ry : RelV y u) (h : ∀ dx s', H dx = none → dx ≠ a → Inv X pins σ (upd (upd H dx (exd dx [(f, y)])) a (exo a C (some dx))) s' → Q () s') :
    wpAny (model X.prog X.w) A (setAttr (.ref a) f u) Q E s := by
  obtain ⟨nm, q, N, bs, sn, sub, ab, col, dd, k0, k1, k2, k3, k5, hC⟩ := T.cls
  have hcl : PySem.W.clsIn X.K C = some { name := nm, bases := bs, mro := .ref C :: keTail, ns := N, qualname := q, hasDict := true, slotNames := sn, subclasses := sub, abstract := ab, collection := col, hasDel := false } := by unfold PySem.W.clsIn; rw [hC] <;> rfl
  obtain ⟨t1, ho⟩ := exo_at I.hok e
  obtain ⟨hp, g, d, t, os⟩ := s
  refine PySem.W.set_plain I.kIn (ox := { cls := .ref C, dict := none, data := .fields #[.ref t1, .none, .none, .none, .bool false, .none] }) (od := none) ⟨ho, rfl, rfl, trivial⟩ T.sa ?_
  refine ke_store I.kIn ho hcl rfl rfl hno fun h' tk' dx k dn dne hx hn => ?_
  have n1 : H dx = none := I.hok.fresh dn
  have n2 : ∀ {b : Addr} {o : Obj}, hp.get? b = some o → b ≠ dx := fun {b o} q => Nat.ne_of_lt (Nat.lt_of_lt_of_le (Heap.lt_size q) dn)
  have n3 : ∀ {b : Addr}, H b = none → b ≠ a := fun {b} n z => by rw [z, e] at n; cases n
  have U : Un X.fs [] H (upd (upd H dx (exd dx [(f, y)])) a (exo a C (some dx))) hp h' := by
    refine ⟨fun b o q n _ _ => k b o (n3 n) q, fun b o q n _ _ => ⟨o.slots, k b o (n3 n) q⟩, fun b o q n _ => by rw [upd_ne (n3 n), upd_ne (n2 q)]; exact n, fun b o q _ => ?_, fun b xs q => ?_, fun b o v q => ?_, fun b ps q => ⟨#[], ?_⟩⟩
    · by_cases hb : b = a
      · exact ⟨_, by rw [hb]; exact hx⟩
      · exact ⟨o, k b o hb q⟩
    · rw [upd_ne (at_ne e q exo_tup), upd_ne (ne_of_none q n1)]; exact q
    · rw [upd_ne (at_ne e q exo_frz), upd_ne (ne_of_none q n1)]; exact q
    · rw [upd_ne (at_ne e q exo_tbl), upd_ne (ne_of_none q n1), q]; simp
  refine h dx _ n1 dne (I.un (t' := tk') U fun b o q => ?_)
  by_cases hb : b = a
  · subst hb; rw [upd_same] at q; cases q; exact exo_ok hx
  · rw [upd_ne hb] at q
    by_cases hd : b = dx
    · subst hd; rw [upd_same] at q; cases q; exact exd_ok hn (relO_put (fs := []) ry fun g => True.intro)
    · rw [upd_ne hd] at q
      refine (I.hok b o q).stay (fun c v hc z => k c v ?_ z) (fun c hc => by rw [upd_ne (at_ne e hc exo_own), upd_ne (ne_of_none hc n1)]; exact hc) (fun c xs hc => by rw [upd_ne (at_ne e hc exo_tup), upd_ne (ne_of_none hc n1)]; exact hc)
      rcases hc with hc | hc
      · rw [hc]; exact hb
      · exact at_ne e hc exo_own
/-- the reading of self.f = e in such an __init__ -/
def tOstK (K : PySem.W.Frag) (f : Str) (to te : TE) : TS := fun D σ H => te σ H fun y H1 => to σ H1 fun x H2 => ∃ a C : Addr, x = .ref a ∧ OexK K C ∧ PySem.W.findIn K (.ref C) f = some none ∧
  H2 a = some (exo a C none) ∧ ∀ dx, H2 dx = none → dx ≠ a → D.nx σ (upd (upd H2 dx (exd dx [(f, y)])) a (exo a C (some dx)))
theorem ps_ostK {o e : Expr} {to te : TE} {p' pos : Pos} (ho : PE X o to) (he : PE X e te) (hs : swapsWith e (some (.Attribute o f p')) pos.line X.env = pure false := by rfl) : PS X (.Assign [.Attribute o f p'] e pos) (tOstK X.K f to te) := by
  constructor; intro pins s σ H D I h
  refine plainObj_wpAny_Assign_Attribute (thn (he.run pins s σ H _ I h) fun v s1 ⟨y, H1, I1, r1, q1⟩ => thn (ho.run pins s1 σ H1 _ I1 q1) fun u s2 ⟨x, H2, I2, r2, a, C, ex, T, hno, ea, q⟩ => ?_) hs
  subst ex
  obtain rfl : u = Value.ref a := r2
  exact ke_ost T I2 ea hno r1 fun dx s' n ne J => ⟨σ, _, J, q dx n ne⟩
theorem pmk_oexK {CX : CXT} {x : Str} {fI : Addr} {k : Nat} {fd : FuncData} {ps : List Str} {sp : Sp} {e : Expr} {es : List Expr} {ta : TA} {p pos : Pos} (T : OexK X.K C) (iC : PySem.W.findIn X.K (.ref C) "__init__" = some (some (.ref fI))) (tI : PySem.W.typeIn X.K (.ref fI) = some (.type "function"))
    (F1 : FnOk X.prog X.w X.K X.mg X.base CX k fI fd ps sp) (hr : Room (k + 1) X.A) (hb : Binds X.K fd ps []) (hx : Passes CX X (fun _ _ _ => False)) (hg : Gl X x) (hm : X.mg x = some (.ref C)) (ha : PA X (e :: es) ta) (hdb : (x == ("__debug__" : Str)) = false := by decide)
    (he : starEach (e :: es) X.env = (false, eval e X.env) :: starEach es X.env := by rfl) (hpl : (backTo pos (starEach es X.env)).any (·.1) = false := by rfl) : PMk X (.Call (.Name x p) (e :: es) [] pos) (tMkO C sp [] ta) := by
  intro pins s σ H Q I h
  obtain ⟨nm, q, N, bs, sn, sub, ab, col, dd, k0, k1, k2, k3, k5, hC⟩ := T.cls
  refine wpAny_Call_Name_kw (ld_glob I hg hm ?_ hdb) <;> refine PySem.W.callWith_K (h₀ := X.base) I.ok.mod.kin T.kC (thn (ha.run pos pins s σ H _ I h) fun us s1 ⟨vs, H1, I1, r1, hz, q1⟩ => ⟨I1.kIn, ?_⟩) he hpl
  show wpAny _ _ (call (.ref C) us) _ _ _
  obtain ⟨hp, g, dr, tk, os⟩ := s1
  have z1 : hp.objs.size ≤ hp.objs.size + 1 := Nat.le_succ _
  have z2 : H1 (hp.objs.size + 1) = none := I1.hok.fresh z1
  have z3 := q1 (hp.objs.size + 1) z2
  rw [List.append_nil] at z3
  have kk : ∀ b o, hp.get? b = some o → ((hp.push (PySem.W.kdv_tup us)).push (keO C hp.objs.size)).get? b = some o := fun b o e => Heap.get?_push_of_some _ (Heap.get?_push_of_some _ e)
  have z4 : ((hp.push (PySem.W.kdv_tup us)).push (keO C hp.objs.size)).get? (hp.objs.size + 1) = some (keO C hp.objs.size) := by heap_get
  have I2 : Inv X pins σ (upd H1 (hp.objs.size + 1) (exo (hp.objs.size + 1) C none)) ⟨(hp.push (PySem.W.kdv_tup us)).push (keO C hp.objs.size), g, dr, tk, os⟩ :=
    I1.laid (t' := tk) (a := hp.objs.size + 1) (o := exo (hp.objs.size + 1) C none) (h' := (hp.push (PySem.W.kdv_tup us)).push (keO C hp.objs.size)) kk z1 (exo_ok z4)
  have r2 : Vals (V.ref (hp.objs.size + 1) :: vs) (Value.ref (hp.objs.size + 1) :: us) := .cons rfl r1
  have hl : (Value.ref (hp.objs.size + 1) :: us).length + ([] : List Value).length = ps.length := by have e := r2.length; rw [F1.len _ _ _ _ z3] at e; exact e.symm
  have hus : us.length ≤ sizeLine := by rw [← Paired.length r1, sizeLine_eq]; omega
  have bt := hb _ (Value.ref (hp.objs.size + 1) :: us) I2.kIn (by rw [List.append_nil]; exact hl)
  rw [List.append_nil] at bt
  refine wpAny_call (ke_call (I1.kIn _ _ hC) (PySem.W.looks_findIn I1.kIn iC) (fun self => PySem.W.bind_fn I1.kIn self tI) hus
    (codeAny_mono (F1.run _ X.stack _ _ ⟨Value.ref (hp.objs.size + 1) :: us, []⟩ (Value.ref (hp.objs.size + 1) :: us) _ _ (fun _ _ _ => False) (hr.make C us []) (I2.env0.make C us []) bt r2 z3) fun r s' hq' => ?_))
  cases r with
  | error er => exact hx pins σ _ _ er s' I2 hq'
  | ok fl =>
    cases fl with
    | ret u =>
      obtain ⟨v, H2, os2, bare2, un2, hok2, rv, ev, d, fs, ea, ed, hd1, q2⟩ := hq'
      subst ev
      obtain ⟨h2, g2, d2, t2, os'⟩ := s'
      exact ⟨rv, mk_end (raises_own T.exC T.tyC) I1 z1 kk un2 hok2 os2 bare2 ea ed hd1 q2⟩
    | next => cases hq'
    | brk => cases hq'
    | cont => cases hq'
end
end L2
set_option Elab.async false
set_option autoImplicit false
set_option linter.all false
set_option maxRecDepth 100000
set_option maxHeartbeats 3900000
namespace DL
open L2 PyProof.Rows PySem PySem.Spec
variable {τ : Tb}
/-! ### errors: raised, caught, looked at -/
section
variable {K : Fg} {S F H : Hp} {ρ : Rho} {σ : L2.St}
/-- a slot is emptied -/
theorem ER.unset (e : ER K τ S F H ρ σ) (i : Nat) : ER K τ S F H (ρ.set i .un) (σ.set i none) := by
  have nu : ∀ {j : Nat} {s : Sl}, s ≠ .un → (ρ.set i .un)[j]? = some s → ρ[j]? = some s ∧ j ≠ i := fun {j s} hs q => by
    by_cases hj : j = i
    · subst hj
      have hl : j < ρ.length := by
        have := (List.getElem?_eq_some_iff.mp q).1
        rwa [List.length_set] at this
      rw [List.getElem?_set_self hl] at q
      exact absurd (Option.some.inj q).symm hs
    · rw [List.getElem?_set_ne (Ne.symm hj)] at q
      exact ⟨q, hj⟩
  refine ⟨by rw [List.length_set, List.length_set]; exact e.len, e.ex, e.fr, fun j d q => ?_, fun j m o q => ?_, fun j k m o1 o2 q1 q2 => ?_, e.tb⟩
  · obtain ⟨q, hj⟩ := nu (by intro z; cases z) q
    rw [List.getElem?_set_ne (Ne.symm hj)]; exact e.val j d q
  · obtain ⟨q, hj⟩ := nu (by intro z; cases z) q
    rw [List.getElem?_set_ne (Ne.symm hj)]; exact e.own j m o q
  · exact e.dis _ _ _ _ _ (nu (by intro z; cases z) q1).1 (nu (by intro z; cases z) q2).1
end

/-- an own error class over ValueError or over KeyError -/
def OexA (K : Fg) (C : Addr) : Prop := OexC K C ∨ OexK K C
/-- __init__ of an error that keeps one thing: self.f = y -/
def spIni (K : Fg) (f : Str) : Sp := fun vs H Q _ => ∃ (a C : Addr) (y : V), vs = [.ref a, y] ∧ H a = some (exo a C none) ∧ OexA K C ∧ PySem.W.findIn K (.ref C) f = some none ∧
  ∀ d, H d = none → d ≠ a → Q .non (upd (upd H d (exd d [(f, y)])) a (exo a C (some d)))
section
variable {P : Program} {w : World} {K : Fg} {mg : Str → Option Value} {base : Heap} {x qual : Str} {params : Arguments} {scope : Scope} {dvs : List V} {kws : List (Str × V)} {fa : Addr} {fd : FuncData} {f s : Str} {k : Nat}
theorem ini_ok {p1 p2 p3 p4 : Pos} (F : FunD K x qual params [.Assign [.Attribute (.Name s p1) f p2] (.Name f p3) p4] scope dvs kws fa fd) (S : FnScope [s, f] [s, f] scope)
    (h0 : Vis scope s) (h1 : Vis scope f) (d0 : ((s == ("__debug__" : Str)) || (s == ("__classdict__" : Str))) = false := by decide) (d1 : ((f == ("__debug__" : Str)) || (f == ("__classdict__" : Str))) = false := by decide) :
    FnOk P w K mg base (L2.CX P w) (k + 1) fa fd [s, f] (spIni K f) := by
  obtain ⟨a0, b0⟩ := Bool.or_eq_false_iff.mp d0
  obtain ⟨a1, b1⟩ := Bool.or_eq_false_iff.mp d1
  refine F.ok S (fun vs H Q E ⟨a, C, y, e, _⟩ => by subst e; rfl) fun cdv A outer s0 H vs Q E hr ⟨a, C, y, e, ea, T, hno, q⟩ => ?_
  subst e
  rcases T with T | T
  · exact ⟨_, pss_one (ps_ost (pe_var (i := 0) rfl h0 a0 b0) (pe_var (i := 1) rfl h1 a1 b1)), y, rfl, .ref a, rfl, a, C, rfl, T, hno, .inl ⟨ea, q⟩⟩
  · exact ⟨_, pss_one (ps_ostK (pe_var (i := 0) rfl h0 a0 b0) (pe_var (i := 1) rfl h1 a1 b1)), y, rfl, .ref a, rfl, a, C, rfl, T, hno, ea, q⟩
end

/-- raise C(e) -/
def wRaise (C : Addr) (f : Str) (wa : WL) : WS := fun ρ Δ => wa ρ Δ.xc fun ds ρ1 => match ds with
  | [d] => Δ.xc C f d ρ1
  | _ => False
structure ErrC (K : Fg) (C fI : Addr) (f : Str) : Prop where
  T : OexA K C
  iC : PySem.W.findIn K (.ref C) "__init__" = some (some (.ref fI))
  tI : PySem.W.typeIn K (.ref fI) = some (.type "function")
  no : PySem.W.findIn K (.ref C) f = some none
section
variable {X : Cx} {W : WX} {k : Nat} {C fI : Addr} {fd : FuncData} {f s x : Str} {e : Expr} {p p2 pos : Pos} {wa : WL}
theorem l_raise (hC : ErrC X.K C fI f) : ∀ D σ H, lS X.K τ W (wRaise C f wa) D σ H → (fun (_ : Ends) σ H => tMkO C (spIni X.K f) [] (lL X.K τ W wa) σ H fun cls d H' => W cls d σ H') D σ H := by
  rintro D σ H ⟨ρ, S, F, Δ, e, hw, hx, -⟩
  refine ⟨ρ, S, F, _, _, e, hw, hx, fun vs ds ρ' S' H' q s' iv e' => ?_⟩
  match ds, q, iv with
  | [d], q, .cons (v := y) r .nil =>
    refine ⟨by simp, fun a ha => ⟨a, C, y, rfl, upd_same, hC.T, hC.no, fun dd h1 h2 => ⟨rfl, dd, _, upd_same, by rw [upd_ne h2]; exact upd_same, ?_, ?_⟩⟩⟩
    · rw [upd_ne h2] at h1; exact h1
    · rw [upd_ne h2] at h1
      have hz : upd (del (upd (upd (upd H' a (exo a C none)) dd (exd dd [(f, y)])) a (exo a C (some dd))) a) dd (.xd [(f, y)]) = upd H' dd (.xd [(f, y)]) := by
        funext b
        by_cases hb : b = dd
        · subst hb; rw [upd_same, upd_same]
        · rw [upd_ne hb, upd_ne hb]
          by_cases hba : b = a
          · subst hba; rw [del_same, ha]
          · rw [del_ne hba, upd_ne hba, upd_ne hb, upd_ne hba]
      rw [hz]
      exact hx C f d y dd ρ' (upd S' dd (.xd [(f, y)])) σ _ q (s'.trans (e'.sn h1)) (e'.new h1) upd_same (r.mono (e'.sn h1))
theorem ps_rs (hc : X.calm = true) (c : Cok X W (k + 1)) (hC : ErrC X.K C fI f) (F1 : FnOk X.prog X.w X.K X.mg X.base (L2.CX X.prog X.w) k fI fd [s, f] (spIni X.K f)) (hb : Binds X.K fd [s, f] []) (hx : Passes (L2.CX X.prog X.w) X (fun _ _ _ => False))
    (hg : Gl X x) (hm : X.mg x = some (.ref C)) (ha : PA X [e] (lL X.K τ W wa)) (hdb : (x == ("__debug__" : Str)) = false := by decide) (he : starEach [e] X.env = [(false, eval e X.env)] := by rfl) :
    PS X (.Raise (some (.Call (.Name x p) [e] [] pos)) none p2) (lS X.K τ W (wRaise C f wa)) :=
  hC.T.elim (fun T => PS.imp (ps_raise hc c.tk (pmk_oex (k := k) T hC.iC hC.tI F1 c.rm hb .nil hx hg hm ha hdb he rfl)) (l_raise hC))
    fun T => PS.imp (ps_raise hc c.tk (pmk_oexK (k := k) T hC.iC hC.tI F1 c.rm hb hx hg hm ha hdb he rfl)) (l_raise hC)
end

/-! ### try .. except C as n -/
def exmD (K : Fg) (C : Addr) (c : Value) : Option Bool := PySem.W.exmOne K (.ref C) c
def wTry (K : Fg) (c : Value) (i : Nat) (wb : WS) (ws : Addr → Value → Option Addr → WS) : WS := fun ρ Δ => wb ρ { Δ with
  xc := fun C f d ρ1 => ∃ b, exmD K C c = some b ∧
    (b = true → ∀ a dd, ws a (.ref C) (some dd) (ρ1.set i (.val (.exn (.ref a) dd f d))) { Δ with nx := fun ρ2 => Δ.nx (ρ2.set i .un), bk := fun ρ2 => Δ.bk (ρ2.set i .un), ct := fun ρ2 => Δ.ct (ρ2.set i .un) }) ∧
    (b = false → Δ.xc C f d ρ1) }
section
variable {K : Fg} {W : WX} {c : Value} {i : Nat} {wb : WS} {ws : Addr → Value → Option Addr → WS}
theorem l_try : ∀ D σ H, lS K τ W (wTry K c i wb ws) D σ H → (fun D σ H => lS K τ (wAs K c i (fun a cls d => lS K τ W (ws a cls d)) W D) wb D σ H) D σ H := by
  rintro D σ H ⟨ρ, S, F, Δ, e, hw, hx, h1, h2, h3, h4, h5⟩
  refine ⟨ρ, S, F, _, e, hw, fun C f d v dd ρ' S' σ' H' q s' e' hd hv => ?_, h1, h2, h3, h4, h5⟩
  obtain ⟨b, hb, yes, no⟩ := q
  refine ⟨b, hb, fun hy a ha => ?_, fun hn => hx C f d v dd ρ' S' σ' H' (no hn) s' e' hd hv⟩
  refine ⟨_, S', F, _, e'.set (v := .ref a) (i := i) (.exn (v := .ref a) hd hv), yes hy a dd, hx.mono s', fun ρ2 S2 σ2 H2 a b c => h1 _ S2 _ H2 a (s'.trans b) (c.unset i), fun d v ρ2 S2 σ2 H2 a b c f => h2 d v ρ2 S2 σ2 H2 a (s'.trans b) c f,
    fun ρ2 S2 σ2 H2 a b c => h3 _ S2 _ H2 a (s'.trans b) (c.unset i), fun ρ2 S2 σ2 H2 a b c => h4 _ S2 _ H2 a (s'.trans b) (c.unset i), fun l od o ρ2 S2 σ2 H2 a b => h5 l od o ρ2 S2 σ2 H2 a (s'.trans b)⟩
end
theorem Cok.tr {X : Cx} {W W' : WX} {k : Nat} (c : Cok X W k) (pn : List (Addr × Obj)) (xe : Value → Shared → Prop) (t : Takes (X.tr pn xe) W') : Cok (X.tr pn xe) W' k := ⟨t, c.gd, c.rm⟩

/-- e.f in the suite -/
def wXf (a : Addr) (cls : Value) (dO : Option Addr) (C : Addr) (f : Str) (wa : WE) : WE := fun ρ χ Φ => wa ρ χ fun x ρ1 => match x with
  | .exn v dd f' d => v = .ref a ∧ cls = .ref C ∧ dO = some dd ∧ f' = f ∧ Φ d ρ1
  | _ => False
theorem l_xf {K : Fg} {W : WX} {a C : Addr} {cls : Value} {dO : Option Addr} {f : Str} {wa : WE} : ∀ σ H Q, lE K τ W (wXf a cls dO C f wa) σ H Q → tXf a cls dO C f (lE K τ W wa) σ H Q := by
  rintro σ H Q ⟨ρ, S, F, χ, Φ, e, hw, hx, hp⟩
  refine ⟨ρ, S, F, χ, _, e, hw, hx, fun v d ρ' S' H' q s' iv e' => ?_⟩
  cases iv with
  | exn h1 h2 =>
    obtain ⟨rfl, hc, rfl, rfl, q⟩ := q
    exact ⟨rfl, hc, _, _, _, rfl, e'.ex _ _ h1, by simp [List.lookup], hp _ _ ρ' S' H' q s' h2 e'⟩
  | _ => exact False.elim q
/-- isinstance(e, D): e the caught error -/
def rIsX (K : Fg) (cls : Value) (dO : Option Addr) (a : Addr) : List V → Hp → VK → Prop := fun xs H Q => ∃ (C : Addr) (c : V) (cv : Value) (dd : Addr) (fs : List (Str × V)) (b : Bool), xs = [.ref a, c] ∧ cls = .ref C ∧ dO = some dd ∧ H dd = some (.xd fs) ∧ ClsV c cv ∧ ExcC K C ∧
  PySem.W.kitOne K (.ref C) cv = some b ∧ Q (.bl b) H
theorem call_isX {X : Cx} {a : Addr} {cls : Value} {dO : Option Addr} {oe : Obj} {pn : List (Addr × Obj)} (hz : Zc cls dO oe) (hf : ∃ vs, oe.data = .fields vs) : CallR (X.suite a ((a, oe) :: pn)) (.builtin "isinstance") (rIsX X.K cls dO a) := by
  rintro pins s σ H xs us Q I r ⟨C, c, cv, dd, fs, b, rfl, rfl, rfl, ea, hcv, C0, e, q⟩
  cases r with
  | cons rx rr =>
    cases rr with
    | cons rt rr =>
      cases rr; cases rx; cases hcv.eq rt
      have hget := (I.pin (a, oe) (List.mem_append_left pins List.mem_cons_self)).1
      obtain ⟨vs, hv⟩ := hf
      obtain ⟨mA, hns, hr⟩ := (show ObjOk X.prog X.w H s.heap dd (.xd fs) from I.hok dd _ ea)
      obtain ⟨od, ho, -⟩ := lookIn_ns hns
      have J : PySem.W.InstAt s.heap a oe C (some od) := ⟨hget, hz.1, by unfold PySem.W.notCls; rw [hv] <;> rfl, by rw [hz.2]; exact ho⟩
      exact PySem.W.kia_one (PySem.W.kitx_exc (by obtain ⟨cd, hc, _⟩ := PySem.W.any_some C0.hd; rw [hc]; rfl) C0.hg C0.hk C0.hs C0.ha C0.hn C0.ht C0.hm) I.kIn J e (fun z => nomatch z) fun tk => ⟨.bl b, H, I.kept (t' := tk) fun _ _ z => z, rfl, q⟩
def rIsXD (K : Fg) (cls : Value) (dO : Option Addr) (a : Addr) : List D → (D → Prop) → Prop := fun ds Φ => match ds with
  | [.exn v dd _ _, .raw c] => v = .ref a ∧ dO = some dd ∧ ∃ (C : Addr) (cv : Value) (b : Bool), cls = .ref C ∧ ClsV c cv ∧ ExcC K C ∧ PySem.W.kitOne K (.ref C) cv = some b ∧ Φ (.bl b)
  | _ => False
theorem ok_isX {K : Fg} {cls : Value} {dO : Option Addr} {a : Addr} : CallOk K τ (rIsX K cls dO a) (rIsXD K cls dO a) := by
  intro S F H ρ σ vs ds Φ Q e hi hw hp
  unfold rIsXD at hw
  split at hw
  · cases hi with
    | cons r1 hi => cases hi with
      | cons r2 hi =>
        cases hi; cases r1 with
        | exn h1 h2 =>
          cases r2
          obtain ⟨rfl, rfl, C, cv, b, rfl, hc, hC, hk, q⟩ := hw
          exact ⟨C, _, cv, _, _, b, rfl, rfl, rfl, e.ex _ _ h1, hc, hC, hk, hp _ _ S H q (Same.refl S) (.bl b) e⟩
  · exact hw.elim
end DL
set_option Elab.async false
set_option autoImplicit false
set_option linter.all false
set_option maxRecDepth 100000
set_option maxHeartbeats 3900000
namespace DL
open L2 PyProof.Rows PySem PySem.Spec
variable {τ : Tb}
/-! ### isinstance(x, C), isinstance(x, (C1, C2)) -/
structure InsC (K : Fg) (C : Addr) : Prop where
  cl : Cls K C
  ha : some (some (.builtin "object.__class__")) = PySem.W.findIn K (.ref C) "__class__"
  hn : some (some (.builtin "getset_descriptor.__get__")) = PySem.W.specialIn K (.builtin "object.__class__") "__get__"
  ht : some true = PySem.W.takesIn K (.builtin "object.__class__")
  hm : some true = PySem.W.mroIn K C (.type "object")
inductive DTy (K : Fg) : D → Value → Prop
  | non : DTy K .non (.type "NoneType")
  | bl (b : Bool) : DTy K (.bl b) (.type "bool")
  | int (i : Int) : DTy K (.int i) (.type "int")
  | str (s : Str) : DTy K (.str s) (.type "str")
  | lst (ds : List D) : DTy K (.lst ds) (.type "list")
  | tup (ds : List D) : DTy K (.tup ds) (.type "tuple")
  | dic (ks : List Key) (ds : List D) : DTy K (.dic ks ds) (.type "dict")
  | obj {C : Addr} (ns : List Str) (ds : List D) (h : InsC K C) : DTy K (.obj C ns ds) (.ref C)
theorem DTy.of {K : Fg} {S H : Hp} {v : V} {d : D} {t : Value} (h : DTy K d t) (iv : Is K S v d) (ex : Same S H) : TyX K H v t := by
  cases h with
  | obj ns ds h => cases iv with
    | obj h1 h2 h3 => exact .base (.ins (ex _ _ h1) h.cl h.ha.symm h.hn.symm h.ht.symm h.hm.symm)
  | lst ds => cases iv with
    | lst h1 h2 => exact .base (.lst (ex _ _ h1))
  | tup ds => cases iv with
    | tup h1 h2 => exact .base (.tup (ex _ _ h1))
    | ktup h1 h2 a3 => obtain ⟨_, _, _, k1, k2, -⟩ := h1; exact .kTuple k1 k2
  | dic ks ds => cases iv with
    | dic h1 h2 h3 => exact .base (.dK (ex _ _ h1))
  | non => cases iv; exact .base (.non)
  | bl b => cases iv; exact .base (.bl b)
  | int i => cases iv; exact .base (.int i)
  | str s => cases iv; exact .base (.str s)
def wIsI (K : Fg) : WCl := fun ds Φ => match ds with
  | [x, .raw c] => ∃ (u t : Value) (b : Bool), ClsV c u ∧ DTy K x t ∧ PySem.W.kitOne K t u = some b ∧ Φ (.bl b)
  | _ => False
theorem ok_isI {K : Fg} : CallOk K τ (rIsi K) (wIsI K) := by
  intro S F H ρ σ vs ds Φ Q e hi hw hp
  unfold wIsI at hw
  split at hw
  · obtain ⟨u, t, b, hc, ht, hk, q⟩ := hw
    cases hi with
    | cons r1 hi => cases hi with
      | cons r2 hi =>
        cases hi; cases r2
        exact ⟨_, _, t, u, b, rfl, hc, ht.of r1 e.ex, hk, hp _ _ S H q (Same.refl S) (.bl b) e⟩
  · exact hw.elim
inductive RawAll : List D → List V → Prop
  | nil : RawAll [] []
  | cons (v : V) {ds vs} : RawAll ds vs → RawAll (.raw v :: ds) (v :: vs)
theorem RawAll.of {K : Fg} {S : Hp} : ∀ {ds : List D} {vs ws : List V}, RawAll ds vs → IsAll K S ws ds → ws = vs
  | _, _, _, .nil, .nil => rfl
  | _, _, _, .cons v h, .cons r t => by cases r; rw [h.of t]
def wIsT (K : Fg) : WCl := fun ds Φ => match ds with
  | [x, .tup cs] => ∃ (vs : List V) (us : List Value) (t : Value) (b : Bool), cs ≠ [] ∧ RawAll cs vs ∧ Paired ClsV vs us ∧ DTy K x t ∧ PySem.W.kitAny K t us = some b ∧ Φ (.bl b)
  | _ => False
theorem ok_isT {K : Fg} : CallOk K τ (rIsiT K) (wIsT K) := by
  intro S F H ρ σ vs ds Φ Q e hi hw hp
  unfold wIsT at hw
  split at hw
  · obtain ⟨vs, us, t, b, hne, hr, hc, ht, hk, q⟩ := hw
    cases hi with
    | cons r1 hi => cases hi with
      | cons r2 hi =>
        cases hi; cases r2 with
        | ktup h1 h2 a3 => exact absurd a3 hne
        | tup h1 h2 =>
          cases hr.of h2
          exact ⟨_, _, _, t, us, b, rfl, e.ex _ _ h1, hc, ht.of r1 e.ex, hk, hp _ _ S H q (Same.refl S) (.bl b) e⟩
  · exact hw.elim

/-! ### enumerate of a tuple -/
theorem enum_new {v : Value} {o : Obj} {J : Heap → Prop} (B : PySem.Begins v o J) :
    Meets (Builtin.«enumerate.__new__» ⟨[.type "enumerate", v], []⟩) (fun _ R s => J s.heap ∧
      R (.ok (.ret (.ref (s.heap.objs.size + 1)))) { s with heap := (s.heap.push o).push { cls := .type "enumerate", data := .fields #[.none, .bool false, .ref s.heap.objs.size, rawInt 0, .none, .none] } }) :=
  .of_wp fun prog w A R s j0 => by
    rcases s with ⟨hp, gs, dr, tks, os⟩
    obtain ⟨j, h⟩ := j0
    have hsub := sub_enumerate
    have z : (hp.push o).objs.size = hp.objs.size + 1 := Heap.size_push ..
    have it0 : ∀ {A' : Around} {E Q : Value → Shared → Prop}, Q (.ref hp.objs.size) ⟨hp.push o, gs, dr, tks, os⟩ → wpAny (model prog w) A' (pyIter v) Q E ⟨hp, gs, dr, tks, os⟩ := fun q => B.iter _ _ _ _ _ _ j q
    have fin : R (.ok (.ret (.ref (hp.push o).objs.size))) ⟨(hp.push o).push { cls := .type "enumerate", data := .fields #[.none, .bool false, .ref hp.objs.size, rawInt 0, .none, .none] }, gs, dr, tks, os⟩ := by rw [z]; exact h
    wp_walk using it0
    refine wpAny_stack_any fun _ => wpAny_pure ?_; split
    · rename_i c _ _ _ _ _
      cases (c == Value.type "enumerate") <;> (wp_walk using it0; exact ⟨_, rfl, fin⟩)
    · wp_walk using it0
      exact ⟨_, rfl, fin⟩
theorem call_enum {prog : Program} {w : World} {A : Around} {E Q : Value → Shared → Prop} {s : Shared} {v : Value} {o : Obj} {J : Heap → Prop} (B : PySem.Begins v o J) (j : J s.heap)
    (h : ∀ h', IsEnum h' (s.heap.objs.size + 1) s.heap.objs.size 0 .none → h'.get? s.heap.objs.size = some o → (∀ b o, s.heap.get? b = some o → h'.get? b = some o) → Q (.ref (s.heap.objs.size + 1)) { s with heap := h' }) :
    wpAny (model prog w) A (call (.type "enumerate") [v]) Q E s := by
  have z : (s.heap.push o).objs.size = s.heap.objs.size + 1 := Heap.size_push ..
  have he : IsEnum ((s.heap.push o).push { cls := .type "enumerate", data := .fields #[.none, .bool false, .ref s.heap.objs.size, rawInt 0, .none, .none] }) (s.heap.objs.size + 1) s.heap.objs.size 0 .none := by
    rw [← z]; exact Heap.get?_push_size _ rfl
  exact callType_new F.called_enumerate (by decide) (F.typeCall_enumerate_1 _) (F.newCall_enumerate_1 _) (fun ob => F.args_object_init_2 ob _) F.entry_enumerate_new (enum_new B)
    ⟨j, ⟨_, he, rfl⟩, h _ he (Heap.get?_push_of_some _ (Heap.get?_push_size _ B.free)) fun b o x => Heap.get?_push_of_some _ (Heap.get?_push_of_some _ x)⟩

/-- the tuple at a, each item in a new pair with its place -/
def Iet (K : Fg) (a : Addr) : It :=
  ⟨fun i H => ∃ (xs : List V) (x : V), SqT K H a xs ∧ xs[i]? = some x, fun i H v H' => ∃ T x, v = .ref T ∧ H T = none ∧ H' = upd H T (.tup [.int (i : Nat), x]) ∧ ∀ xs, SqT K H a xs → xs[i]? = some x, fun i H => ∃ xs : List V, SqT K H a xs ∧ xs.length = i⟩
theorem turn_enumT {P : Program} {w : World} {K : Fg} {elts : List Expr} {kk : Nat} {tpos : Pos} (a e it : Addr) :
    Turn P w K (.Tuple elts kk tpos) (Iet K a) [e, it] e (fun i h => (∃ old, IsEnum h e it ((i : Nat) : Int) old) ∧ h.IsTupleIter it a i ∧ e ≠ it ∧ a ≠ it ∧ e ≠ a) where
  mem := List.mem_cons_self
  obj := by
    rintro i h ⟨⟨old, he⟩, ⟨o, ho, hc, hd⟩, -⟩ b hb
    obtain rfl | hb := List.mem_cons.mp hb
    · exact ⟨_, he, fun v q => nomatch q⟩
    · cases List.mem_singleton.mp hb
      exact ⟨o, ho, fun v q => nomatch hd.symm.trans q⟩
  keep := by
    rintro i h h' ⟨⟨old, he⟩, hi, hne⟩ k
    exact ⟨⟨old, k e List.mem_cons_self _ he⟩, hi.at fun o q => k it (List.mem_cons_of_mem _ List.mem_cons_self) o q, hne⟩
  item := by
    rintro X rfl rfl rfl hc i pins s σ H E I hf ⟨⟨old, he⟩, hit, hne, hai, hea⟩ ⟨xs, x, hq, hx⟩
    obtain ⟨its, rv, p, -⟩ := I.tuple hq
    have ⟨u, hu, ru⟩ := rv.get hx
    have hlt : i < its.toArray.size := by
      have := (List.getElem?_eq_some_iff.mp hu).1
      simpa using this
    have hel := Heap.lt_size he
    have hil : it < s.heap.objs.size := let ⟨_, q, _⟩ := hit; Heap.lt_size q
    refine wpAny_pyNext_enum_itemD (Draws.tuple (show X.A.in1.handled = none from I.ok.hd hc) it a hai its.toArray) he ⟨hit, p⟩ hlt hne (by simp [hne, hea]) fun y h' tk hy ho st' hT hsz hk => ?_
    have ey : y = u := by
      have : its.toArray[i]? = some u := by simpa using hu
      rw [this] at hy; exact (Option.some.inj hy).symm
    subst ey
    refine ⟨_, rfl, wpAny_letOwnedTupleGo_enum (s := { s with heap := h', toks := tk + 1 }) ho fun h'' he' sb => ?_⟩
    have hT2 : h''.get? s.heap.objs.size = some { cls := .type "tuple", data := .seq #[.int i tk, y] } := (sb.2 _ (Nat.ne_of_gt hel)).trans hT
    have new : ObjOk X.prog X.w (upd H s.heap.objs.size (.tup [.int (i : Nat), x])) h'' _ (.tup [.int (i : Nat), x]) :=
      ⟨show 2 ≤ sizeLine by decide, [.int i tk, y], .cons ⟨tk, rfl⟩ (.cons ru .nil), ⟨_, hT2, rfl, _, rfl⟩⟩
    have J : Inv X pins σ (upd H s.heap.objs.size (.tup [.int (i : Nat), x])) { s with heap := h'', toks := tk + 1 } := by
      refine I.turnedNew (ch := [e, it]) (fun b ob hb q => ?_) hf (Nat.le_refl _) new
      obtain ⟨n1, n2⟩ : b ≠ e ∧ b ≠ it := by simpa using hb
      exact (sb.2 b n1).trans (hk b ob n1 n2 q)
    refine ⟨.ref s.heap.objs.size, _, J, rfl, ⟨_, x, rfl, I.hok.fresh (Nat.le_refl _), rfl, fun ys hy => by rw [I.tuple_inj hy hq]; exact hx⟩, ⟨⟨y, ?_⟩, st'.1.at fun o q => (sb.2 it (Ne.symm hne)).trans q, hne, hai, hea⟩, fun b hb => ?_⟩
    · rw [show ((i + 1 : Nat) : Int) = (i : Int) + 1 by omega]; exact he'
    · rw [upd_ne (Nat.ne_of_lt (by rcases List.mem_cons.mp hb with rfl | hb; exact hel; cases List.mem_singleton.mp hb; exact hil))]
      exact (hf b hb).1
  done := by
    rintro X rfl rfl rfl hc i pins s σ H E I hf ⟨⟨old, he⟩, hit, hne, hai, hea⟩ ⟨xs, hq, hx⟩
    obtain ⟨its, rv, p, -⟩ := I.tuple hq
    obtain ⟨f0, f1, f2, f3, f4, f5⟩ := hf it (List.mem_cons_of_mem _ List.mem_cons_self)
    have hn : i = its.toArray.size := by have := rv.length; simp; omega
    subst hn
    exact wpAny_pyNext_enum_endD (Draws.tuple (show X.A.in1.handled = none from I.ok.hd hc) it a hai its.toArray) he ⟨hit, p⟩ fun h' eb => ⟨rfl, I.turned (t' := s.toks) (fun b o hb q => eb b o hb q) f0 f1 f3 f4 f5⟩
  self := by
    rintro A i s Q E ⟨⟨_, he⟩, -⟩ h
    exact wpAny_pyIter_enum he h
def enD (ds : List D) : List D := ds.zipIdx.map fun p => .tup [.int (p.2 : Nat), p.1]
/-- enumerate(e), e a list or a tuple, whichever it is -/
def wiEnum (wa : WL) : WL := fun ρ χ Φ => wa ρ χ fun as ρ1 => match as with
  | [.lst ds] => Φ (enD ds) ρ1
  | [.tup ds] => Φ (enD ds) ρ1
  | _ => False
theorem enD_at {ds : List D} {i : Nat} (h : i < ds.length) : (enD ds)[i]? = some (.tup [.int (i : Nat), ds[i]]) := by
  unfold enD
  rw [List.getElem?_map, List.getElem?_zipIdx, List.getElem?_eq_getElem h]
  simp
theorem enD_len {ds : List D} : (enD ds).length = ds.length := by unfold enD; simp
theorem new_pair {K : Fg} {S1 F H : Hp} {ρ : Rho} {σ : L2.St} {T : Addr} {x : V} {d : D} {i : Nat} (e : ER K τ S1 F H ρ σ) (hT : H T = none) (r : Is K S1 x d) :
    ∃ S2, Same S1 S2 ∧ Is K S2 (.ref T) (.tup [.int (i : Nat), d]) ∧ ER K τ S2 F (upd H T (.tup [.int (i : Nat), x])) ρ σ :=
  ⟨_, e.sn hT, .tup upd_same (.cons (.int _) (.cons (r.mono (e.sn hT)) .nil)), e.new hT⟩
theorem dwk_enL {K : Fg} {S : Hp} {a : Addr} {vs : List V} {ds : List D} (h : S a = some (.lst vs)) (hi : IsAll K S vs ds) : DWk K τ S (Ite K a) (enD ds) := by
  have hl := hi.length
  refine ⟨fun i H h1 s => ?_, fun H s => ⟨vs, .inl (.inl (s _ _ h)), by rw [enD_len]; omega⟩, fun i H x H' h1 s y => ?_⟩
  · rw [enD_len] at h1
    exact ⟨vs, vs[i]'(by omega), .inl (.inl (s _ _ h)), by simp⟩
  · rw [enD_len] at h1
    obtain ⟨T, v, rfl, hT, rfl, hv⟩ := y
    obtain ⟨v', q1, q2⟩ := hi.get (i := i) (d := ds[i]) (by simp [h1])
    cases q1.symm.trans (hv vs (.inl (.inl (s _ _ h))))
    exact ⟨_, enD_at h1, fun S1 F ρ σ s1 e => new_pair e hT (q2.mono s1)⟩
theorem dwk_enTQ {K : Fg} {S : Hp} {a : Addr} {vs : List V} {ds : List D} (h : ∀ H, Same S H → SqT K H a vs) (hi : IsAll K S vs ds) : DWk K τ S (Iet K a) (enD ds) := by
  have hl := hi.length
  refine ⟨fun i H h1 s => ?_, fun H s => ⟨vs, h _ s, by rw [enD_len]; omega⟩, fun i H x H' h1 s y => ?_⟩
  · rw [enD_len] at h1
    exact ⟨vs, vs[i]'(by omega), h _ s, by simp⟩
  · rw [enD_len] at h1
    obtain ⟨T, v, rfl, hT, rfl, hv⟩ := y
    obtain ⟨v', q1, q2⟩ := hi.get (i := i) (d := ds[i]) (by simp [h1])
    cases q1.symm.trans (hv vs (h _ s))
    exact ⟨_, enD_at h1, fun S1 F ρ σ s1 e => new_pair e hT (q2.mono s1)⟩
theorem dwk_enT {K : Fg} {S : Hp} {a : Addr} {vs : List V} {ds : List D} (h : S a = some (.tup vs)) (hi : IsAll K S vs ds) : DWk K τ S (Iet K a) (enD ds) := dwk_enTQ (fun H s => .inl (.inl (s _ _ h))) hi
theorem d_enum {X : Cx} {W : WX} {wa : WL} {e : Expr} {p pos tpos : Pos} {elts : List Expr} {kk : Nat} (hg : Gl X "enumerate") (hm : X.mg "enumerate" = none) (ha : PA X [e] (lL X.K τ W wa)) (hs : starEach [e] X.env = [(false, eval e X.env)] := by rfl) :
    PI X (.Tuple elts kk tpos) (.Call (.Name "enumerate" p) [e] [] pos) (lI X.K τ W (wiEnum wa)) := by
  constructor; rintro pins s σ H R I ⟨ρ, S, F, χ, Φ, e0, hw, hx, hp⟩
  have h' : lL X.K τ W wa σ H (fun vs H1 => ∃ a, vs = [.ref a] ∧ ((∃ xs, SqL X.K H1 a xs ∧ R (Ite X.K a) H1) ∨ ∃ xs, SqT X.K H1 a xs ∧ R (Iet X.K a) H1)) := by
    refine ⟨ρ, S, F, χ, _, e0, hw, hx, fun vs as ρ' S' H' q s' iv e' => ?_⟩
    split at q
    · cases iv with
      | cons r rr => cases rr; cases r with
        | lst h1 h2 => exact ⟨_, rfl, .inl ⟨_, .inl (.inl (e'.ex _ _ h1)), hp _ _ ρ' S' H' q s' e' (dwk_enL h1 h2)⟩⟩
    · cases iv with
      | cons r rr => cases rr; cases r with
        | tup h1 h2 => exact ⟨_, rfl, .inr ⟨_, .inl (.inl (e'.ex _ _ h1)), hp _ _ ρ' S' H' q s' e' (dwk_enT h1 h2)⟩⟩
        | ktup h1 h2 a3 => exact ⟨_, rfl, .inr ⟨_, .inr h1, hp _ _ ρ' S' H' q s' e' (dwk_enTQ (fun _ _ => .inr h1) h2)⟩⟩
    · exact q.elim
  refine Call_ (ld_blt I hg hm boot_enumerate (PyProof.Rows.callWith_type1 (thn (ha.run pos pins s σ H _ I h') fun us s1 ⟨vs, H1, I1, r1, a, ex, q1⟩ => ?_) hs rfl))
  subst ex
  rcases r1 with _ | ⟨r, rr⟩
  cases rr; cases r
  have fresh : ∀ b ∈ [s1.heap.objs.size + 1, s1.heap.objs.size], FpOk X pins H1 b := fun b hb => by
    have old : s1.heap.objs.size ≤ b := by
      obtain rfl | hb := List.mem_cons.mp hb
      · exact Nat.le_succ _
      · cases List.mem_singleton.mp hb; exact Nat.le_refl _
    exact I1.fpOk old (I1.hok.fresh old)
  rcases q1 with ⟨xs, hq, q⟩ | ⟨xs, hq, q⟩
  · obtain ⟨its, -, p', -⟩ := I1.list hq
    exact call_enum (PySem.begins_list a its.toArray) p'.isList fun h' he hit hk => wpAny_pyIter_enum he ⟨_, _, _, _, H1, rfl, I1.kept (t' := s1.toks) hk, turn_enum a _ s1.heap.objs.size, ⟨⟨.none, he⟩, ⟨_, hit, rfl, rfl⟩, Nat.succ_ne_self _⟩, fresh, q⟩
  · obtain ⟨its, -, p', -⟩ := I1.tuple hq
    have hlt : a < s1.heap.objs.size := by obtain ⟨_, z, _⟩ := p'; exact Heap.lt_size z
    exact call_enum (PySem.begins_tuple a its.toArray) p' fun h' he hit hk => wpAny_pyIter_enum he ⟨_, _, _, _, H1, rfl, I1.kept (t' := s1.toks) hk, turn_enumT a _ s1.heap.objs.size,
      ⟨⟨.none, he⟩, ⟨_, hit, rfl, rfl⟩, Nat.succ_ne_self _, Nat.ne_of_lt hlt, Nat.ne_of_gt (Nat.lt_succ_of_lt hlt)⟩, fresh, q⟩
end DL
set_option Elab.async false
set_option autoImplicit false
set_option linter.all false
set_option maxRecDepth 100000
set_option maxHeartbeats 3900000
namespace DL
open L2 PyProof.Rows PySem PySem.Spec
variable {τ : Tb}
/-! ### an instance that is being made: its fields -/
theorem putF_new {f : Str} {y : V} : ∀ {vs : List (Str × V)}, f ∉ vs.map (·.1) → putF f y vs = vs ++ [(f, y)]
  | [], _ => rfl
  | (g, z) :: r, h => by
    have hg : ¬ g = f := fun q => h (by rw [← q]; exact List.mem_cons_self)
    have hr : f ∉ r.map (·.1) := fun q => h (List.mem_cons_of_mem _ q)
    show (if g = f then _ else _) = _
    rw [if_neg hg, putF_new hr]
    rfl
/-- self.f = e, self the slot i, not yet there -/
def wFset (C : Addr) (f : Str) (i : Nat) (wa : WE) : WS := fun ρ Δ => (∃ l o, ρ[i]? = some (Sl.own l o)) ∧ wa ρ Δ.xc fun d ρ1 => match ρ1[i]? with
  | some (.own l (.i c ns ds)) => c = C ∧ f ∉ ns ∧ ns.length < 900 ∧ Δ.nx (ρ1.set i (.own l (.i c (ns ++ [f]) (ds ++ [d]))))
  | _ => False
/-- self.f -/
def wFldO (C : Addr) (f : Str) (i : Nat) : WE := fun ρ χ Φ => match ρ[i]? with
  | some (.own l (.i c ns ds)) => c = C ∧ ∃ d, lookD ns ds f = some d ∧ Φ d ρ
  | _ => False
section
variable {K : Fg} {W : WX} {C : Addr} {f : Str} {i : Nat} {wa : WE}
theorem l_fset (hc : Cls K C) (hn : NoAttr K C f) : ∀ D σ H, lS K τ W (wFset C f i wa) D σ H → sFld K (tVar i) (lE K τ W wa) f D σ H := by
  rintro D σ H ⟨ρ, S, F, Δ, e, ⟨⟨l0, o0, hl0⟩, hw⟩, hx, h1, -⟩
  obtain ⟨hσ, -⟩ := e.own i l0 o0 hl0
  refine ⟨ρ, S, F, _, _, e, hw, hx, fun y d ρ' S' H' q s' iv e' => ⟨.ref l0, hσ, ?_⟩⟩
  split at q
  · rename_i l c ns ds hl
    obtain ⟨rfl, hf, hz, q⟩ := q
    obtain ⟨b1, b2, b3, ob, b4, b5⟩ := e'.own i l _ hl
    cases b1.symm.trans hσ
    cases b5 with
    | i hns hi =>
      rename_i dx vs
      subst hns
      have hz' : vs.length < 1000 := by rw [List.length_map] at hz; omega
      refine ⟨_, _, dx, vs, rfl, b4, hc, hn, hz', h1 _ S' σ _ q s' (e'.wr hl ?_)⟩
      rw [putF_new hf]
      exact .i (by simp) (by rw [List.map_append]; exact hi.append (.cons iv .nil))
  · exact q.elim
theorem l_fldO (hc : Cls K C) (hn : NoAttr K C f) : ∀ σ H Q, lE K τ W (wFldO C f i) σ H Q → tFld K (tVar i) f σ H Q := by
  rintro σ H Q ⟨ρ, S, F, χ, Φ, e, hw, hx, hp⟩
  unfold wFldO at hw
  split at hw
  · rename_i l c ns ds hl
    obtain ⟨rfl, d, hd, q⟩ := hw
    obtain ⟨b1, b2, b3, ob, b4, b5⟩ := e.own i l _ hl
    cases b5 with
    | i hns hi =>
      subst hns
      obtain ⟨v, h1, h2⟩ := look_fs hi hd
      exact ⟨.ref _, b1, _, _, _, _, v, rfl, b4, hc, hn, h1, hp v d ρ S H q (Same.refl S) h2 e⟩
  · exact hw.elim
end

/-! ### C(..): the made object is data from then on -/
theorem ER.addS {K : Fg} {S F H : Hp} {ρ : Rho} {σ : L2.St} {p : Addr} {o : HO} (e : ER K τ S F H ρ σ) (h1 : H p = some o) (h2 : S p = none) (h3 : F p = none) (h4 : ∀ (j : Nat) (o2 : OD), ρ[j]? ≠ some (Sl.own p o2)) (h5 : ∀ ps, o ≠ .tbl ps) : ER K τ (upd S p o) F H ρ σ ∧ Same S (upd S p o) := by
  have sS : Same S (upd S p o) := fun b u q => by rw [upd_ne (ne_of_none q h2)]; exact q
  refine ⟨⟨e.len, fun b u q => ?_, fun a u q => ?_, fun j d q => ?_, fun j m od q => ?_, e.dis, e.tb.addS h1 h2 h5⟩, sS⟩
  · by_cases hb : b = p
    · subst hb; rw [upd_same] at q; cases q; exact h1
    · rw [upd_ne hb] at q; exact e.ex b u q
  · obtain ⟨a1, a2⟩ := e.fr a u q
    rw [upd_ne (ne_of_none q h3)]; exact ⟨a1, a2⟩
  · obtain ⟨v, a1, a2⟩ := e.val j d q
    exact ⟨v, a1, a2.mono sS⟩
  · obtain ⟨a1, a2, a3, ob, a4, a5⟩ := e.own j m od q
    have ne : m ≠ p := fun z => by subst z; exact h4 j od q
    exact ⟨a1, by rw [upd_ne ne]; exact a2, a3, ob, a4, a5.mono sS⟩
def wMake (C : Addr) (n m : Nat) (sp : Spc) (gD : List D → List D → List D) (wa wk : WL) : WE := fun ρ χ Φ => wa ρ χ fun ds ρ1 => wk ρ1 χ fun zs ρ2 => ds.length = n ∧ zs.length = m ∧
  sp (some (.i C [] [])) (gD ds zs) (fun d o' => d = .non ∧ ∃ ns es, o' = some (.i C ns es) ∧ Φ (.obj C ns es) ρ2) fun C f d => χ C f d ρ2
section
variable {K : Fg} {W : WX} {C : Addr} {sp : Spc} {n m N : Nat} {gV gW : List V → List V → List V} {gD : List D → List D → List D} {wa wk : WL}
theorem l_make (hg : GRel n m N gW gD) (hgv : ∀ v vs zs, gV (v :: vs) zs = v :: gW vs zs) : ∀ σ H Q, lE K τ W (wMake C n m sp gD wa wk) σ H Q → tMakeG W C n m (lSp K τ.t (N + 1) sp) gV (lL K τ W wa) (lL K τ W wk) σ H Q := by
  rintro σ H Q ⟨ρ, S, F, χ, Φ, e, hw, hx, hp⟩
  refine ⟨ρ, S, F, χ, _, e, hw, hx, fun vs ds ρ1 S1 H1 h1 s1 i1 e1 => ?_⟩
  refine ⟨ρ1, S1, F, χ, _, e1, h1, hx.mono s1, fun us es ρ2 S2 H2 h2 s2 i2 e2 => ?_⟩
  obtain ⟨l1, l2, h3⟩ := h2
  have l1' : vs.length = n := by rw [i1.length]; exact l1
  have l2' : us.length = m := by rw [i2.length]; exact l2
  obtain ⟨ig, lg⟩ := hg K S2 vs ds us es (i1.mono s2) i2 l1' l2'
  refine ⟨l1', l2', fun x dx hx0 hdx hne => ?_⟩
  have sH : Same S2 (upd (upd H2 dx (.own x)) x (.ins C dx [])) := fun b u q => by
    have hb := e2.ex b u q
    rw [upd_ne (ne_of_none hb hx0), upd_ne (ne_of_none hb hdx)]; exact hb
  have fc : ∀ a o, a ∉ τ.t.map (·.1) → S2 a = none → H2 a = some o → others τ.t S2 (upd (upd H2 dx (.own x)) x (.ins C dx [])) (fun a => a = x) a = some o := fun a o n a1 a2 =>
    others_of (p := fun a => a = x) n (ne_of_none a2 hx0) a1 (by rw [upd_ne (ne_of_none a2 hx0), upd_ne (ne_of_none a2 hdx)]; exact a2)
  rw [hgv]
  refine ⟨S2, others τ.t S2 (upd (upd H2 dx (.own x)) x (.ins C dx [])) (fun a => a = x), some (x, .i C [] []), gD ds es, _, _, by rw [List.length_cons, lg],
    er_argsO ig sH (TbOk.oth ⟨(e2.tb.tab.ext fun b u e => by rw [upd_ne (ne_of_none e hx0), upd_ne (ne_of_none e hdx)]; exact e), e2.tb.nS, e2.tb.nF, e2.tb.ks, e2.tb.kf⟩) (fun a o h => by obtain ⟨_, a1, a2⟩ := others_inv h; exact ⟨a2, .inl a1⟩) upd_same (e2.sp hx0) (by unfold others; rw [if_pos (.inl rfl)]) (.i rfl .nil), h3,
    fun d v o2 S' H' q _ s' iv er => ?_, fun C f d v dd S' H' q s' ex tb fr hd iv => ?_⟩
  · obtain ⟨rfl, ns, ys, rfl, q⟩ := q
    cases iv
    obtain ⟨_, c2, _, o3, c4, c5⟩ := er.own 0 x _ rfl
    obtain ⟨e4, s4⟩ := (e2.back s' er.ex er.tb.tab er.tb.nS fc er.fr).addS c4 c2 (e2.fp hx0) (e2.notOwn hx0) c5.notX.1
    refine ⟨rfl, hp (.ref x) _ ρ2 _ H' q (((s1.trans s2).trans s').trans s4) ?_ e4⟩
    cases c5 with
    | i hns hi => exact .obj upd_same hns (hi.mono s4)
  · exact hx C f d v dd ρ2 S' σ H' q ((s1.trans s2).trans s') (e2.back s' ex tb.tab tb.nS fc fr) hd iv
end

/-! ### x != y of two instances of a class that has its own __eq__ alone -/
structure EqC (K : Fg) (C f : Addr) : Prop where
  cls : ∃ nm q N bs hdct sn sub ab col dd k0 k1 k2 k3 k5 ni, K.lookup C = some (excClassObj nm q C N bs [.type "object"] hdct sn sub ab col dd k0 k1 k2 k3 k5 ni) ∧ PySem.W.nsOkIn K N = true ∧ PySem.W.nsIn K N "__eq__" = some (some (.ref f)) ∧ PySem.W.nsIn K N "__ne__" = some none
  fn : true = PySem.W.isFn K (.ref f)
def rNeO (C : Addr) (sp : Sp) : R2 := fun x y H Q => ∃ a b dx dy fs gs, x = .ref a ∧ y = .ref b ∧ H a = some (.ins C dx fs) ∧ H b = some (.ins C dy gs) ∧ sp [x, y] H (fun v H' => ∃ t, v = .bl t ∧ Q (.bl !t) H') fun _ _ _ => False
theorem ns_some_of {K : Fg} {h : Heap} {N : Addr} {mg : Str → Option Value} {n : Str} {v : Value} (X : K.In h) (G : h.Ns N mg) (e : PySem.W.nsIn K N n = some (some v)) : mg n = some v := by
  obtain ⟨_, es, _, ho, hd, -, hf⟩ := G; unfold PySem.W.nsIn at e
  split at e
  · rename_i c d es' n' sl q
    cases ho.symm.trans (X _ _ q)
    cases hd
    rw [← hf]
    unfold nsFind findBy
    rw [← Array.find?_toList]
    split at e
    · rename_i en he
      cases e
      rw [he]; rfl
    · split at e <;> cases e
  · cases e
theorem op_neO {X : Cx} {W : WX} {k : Nat} {C f : Addr} {fd : FuncData} {ps : List Str} {sp : Sp} {g : List Value → List Value → List Value} {gV : List V → List V → List V} (T : EqC X.K C f) (F : FnG X.prog X.w X.K X.mg X.base k f fd ps sp) (c : Cok X W (k + 1)) (hb : KBn X.K fd ps 2 [] g gV)
    (hg : ∀ us, g us [] = us) (hgV : ∀ us, gV us [] = us) : OpR X (compareOp .NotEq) (rNeO C sp) := by
  rintro pins s σ H x y v u Q I rx ry ⟨a, b, dx, dy, fs, gs, rfl, rfl, ha, hb', hsp⟩
  cases rx; cases ry
  obtain ⟨nm, q, N, bs, hdct, sn, sub, ab, col, dd, k0, k1, k2, k3, k5, ni, hC, hN, hE, hNe⟩ := T.cls
  obtain ⟨mA, ⟨O1, -, -⟩, -⟩ := ins_get I.hok ha
  obtain ⟨mB, ⟨O2, -, -⟩, -⟩ := ins_get I.hok hb'
  obtain ⟨hp, gs', dr, tk, os⟩ := s
  have G : Heap.Ns hp N (hp.nsMap N) := Heap.Ns.of_isNs (PySem.W.isNs_of_in I.kIn hN)
  obtain ⟨of, hof, hofc⟩ : ∃ of, hp.get? f = some of ∧ of.cls = .type "function" := by
    have ht : PySem.W.typeIn X.K (.ref f) = some (.type "function") := beq_iff_eq.mp T.fn.symm
    replace ht : (X.K.lookup f).map (·.cls) = some (.type "function") := ht
    cases ho : X.K.lookup f with
    | none => rw [ho] at ht; cases ht
    | some of => rw [ho] at ht; exact ⟨of, I.kIn _ _ ho, Option.some.inj ht⟩
  have own : hp.OwnEqNoNe a C f "object" [.type "object"] := by
    refine ⟨_, of, nm, q, N, bs, hdct, sn, sub, ab, col, dd, k0, k1, k2, k3, k5, ni, hp.nsMap N, _, O1, rfl, I.kIn _ _ hC, G, ns_some_of I.kIn G hE, hof, hofc, PySem.F.cmp_object.mro, PySem.F.cmp_object.eq.lookup, PySem.W.ns_none_of I.kIn G hNe⟩
  refine compareOp_ne_ownEq PySem.F.cmp_object own O2 rfl c.hu ?_
  have e0 : Env0 X.prog X.w X.K X.mg X.base X.A.in1 X.stack ⟨hp, gs', dr, tk, os⟩ H := by
    have z := I.env0
    exact ⟨z.frames, z.mod, z.bs, z.bsz, z.funs, z.frf, z.hok, z.bare⟩
  have r2 : Vals [.ref a, .ref b] [.ref a, .ref b] := .cons rfl (.cons rfl .nil)
  have bt := hb.to ⟨hp, gs', dr, tk, os⟩ [Value.ref a, Value.ref b] [] I.kIn rfl rfl
  rw [hg] at bt
  refine wpAny_call (codeAny_mono (F.run X.A.in1 X.stack ⟨hp, gs', dr, tk, os⟩ H ⟨[.ref a, .ref b], []⟩ _ _ _ _ c.rm.in1 c.gd e0 bt r2 hsp) fun r s' hq => ?_)
  cases r with
  | error er => exact c.tk er s' (XE.of_call I (fun _ _ _ z => z.elim) hq)
  | ok fl =>
    cases fl with
    | ret w =>
      obtain ⟨z, H', I', rz, t, ez, q⟩ := I.after hq
      subst ez
      cases rz
      exact ⟨t, rfl, .bl !t, H', I', rfl, q⟩
    | next => cases hq
    | brk => cases hq
    | cont => cases hq
def wNeO (C : Addr) (sp : Spc) (x y : D) (Φ : D → Prop) : Prop := (∃ ns ds ms es, x = .obj C ns ds ∧ y = .obj C ms es) ∧ sp none [x, y] (fun d _ => ∃ t, d = .bl t ∧ Φ (.bl !t)) fun _ _ _ => False
theorem ok_neO {K : Fg} {C : Addr} {sp : Spc} : OpOk K τ (rNeO C (lSp K τ.t 2 sp)) (wNeO C sp) := by
  rintro S F H ρ σ x y dx dy Φ Q e ix iy ⟨⟨ns, ds, ms, es, rfl, rfl⟩, hs⟩ hp
  have ixy : IsAll K S [x, y] [.obj C ns ds, .obj C ms es] := .cons ix (.cons iy .nil)
  cases ix with
  | obj h1 h2 h3 =>
    cases iy with
    | obj h4 h5 h6 =>
      refine ⟨_, _, _, _, _, _, rfl, rfl, e.ex _ _ h1, e.ex _ _ h4, S, others τ.t S H fun _ => False, none, _, _, _, rfl, er_args ixy e.ex e.tb.oth fun a o h => ?_, hs, fun d v o' S' H' q _ s' iv er => ?_, fun C f d v dd S' H' q => q.elim⟩
      · obtain ⟨_, a1, a2⟩ := others_inv h
        exact ⟨a2, .inl a1⟩
      · obtain ⟨t, rfl, q⟩ := q
        cases iv
        exact ⟨t, rfl, hp _ _ S' H' q s' (.bl _) (e.back s' er.ex er.tb.tab er.tb.nS (fun a o n a1 a2 => others_of n (fun z => z) a1 a2) er.fr)⟩
end DL
set_option Elab.async false
set_option autoImplicit false
set_option linter.all false
set_option maxRecDepth 100000
set_option maxHeartbeats 3900000
namespace DL
open L2 PyProof.Rows PySem PySem.Spec
variable {τ : Tb}
/-! ### {k: v for ..}, the keys all unlike -/
theorem putK_new {k : Key} {v : V} {kvs : List (Key × V)} (h : k ∉ kvs.map (·.1)) : putK kvs k v = kvs ++ [(k, v)] := by
  refine if_neg fun q => ?_
  obtain ⟨p, hp, e⟩ := List.any_eq_true.1 q
  exact h (List.mem_map.2 ⟨p, hp, of_decide_eq_true e⟩)
def wDcL (g : WG) (wt : WT) (wk wv : WE) (vs : List Nat) : List D → List Key → List D → Rho → (List Key → List D → Rho → Prop) → Prop
  | [], ks, acc, ρ, Φ => Φ ks acc ρ
  | d :: ds, ks, acc, ρ, Φ => g d ρ fun ρ1 => wt ρ1 χ0 fun b ρ2 => if b = true then wk ρ2 χ0 fun y ρ3 => wv ρ3 χ0 fun z ρ4 => ∃ k, keyD y = some k ∧ k ∉ ks ∧ ks.length < sizeLine ∧ wDcL g wt wk wv vs ds (ks ++ [k]) (acc ++ [z]) (wipeR ρ4 vs) Φ
      else wDcL g wt wk wv vs ds ks acc (wipeR ρ2 vs) Φ
def wDc (wi : WL) (g : WG) (wt : WT) (wk wv : WE) (vs : List Nat) : WE := fun ρ χ Φ => wi ρ χ fun ds ρ1 => wDcL g wt wk wv vs ds [] [] (wipeR ρ1 vs) fun ks ys ρ2 => Φ (.dic ks ys) (backR ρ1 ρ2 vs)
theorem l_dc {K : Fg} {W : WX} {wi : WL} {g : WG} {wt : WT} {wk wv : WE} {vs : List Nat} : ∀ σ H Q, lE K τ W (wDc wi g wt wk wv vs) σ H Q → tDc (lI K τ W wi) (lGc K τ vs g) (lT K τ W0 wt) (lE K τ W0 wk) (lE K τ W0 wv) vs σ H Q := by
  rintro σ H Q ⟨ρ, S, F, χ, Φ, e, hw, hx, hp⟩
  refine ⟨ρ, S, F, χ, _, e, hw, hx, fun J ds ρ1 S1 H1 q1 s1 e1 wk0 => fun L hL => ?_⟩
  have fL := e1.fp hL
  have gL := e1.tb.free fL
  refine ⟨fun i m H' => m = ds.length - i ∧ i ≤ ds.length ∧ ∃ ρ' S' kvs ks acc, Same S1 S' ∧ ER K τ S' (upd F L (.dK kvs)) H' ρ' (wipe σ vs) ∧ kvs.map (·.1) = ks ∧ IsAll K S' (kvs.map (·.2)) acc ∧ wDcL g wt wk wv vs (ds.drop i) ks acc ρ' (fun zs ys ρ2 => Φ (.dic zs ys) (backR ρ1 ρ2 vs)),
    ⟨_, rfl, Nat.zero_le _, wipeR ρ1 vs, S1, [], [], [], Same.refl S1, (e1.wipe vs).addF hL, rfl, .nil, q1⟩, ?_⟩
  rintro i m H' ⟨rfl, hi, ρ', S', kvs, ks, acc, s', e', hk, iu, q⟩
  subst hk
  by_cases hlt : i < ds.length
  · refine .inr ⟨wk0.go i H' hlt (s'.trans e'.ex), fun H2 => ∃ ρ2 S2 kvs2 acc2, Same S1 S2 ∧ ER K τ S2 (upd F L (.dK kvs2)) H2 ρ2 (wipe σ vs) ∧ IsAll K S2 (kvs2.map (·.2)) acc2 ∧ wDcL g wt wk wv vs (ds.drop (i + 1)) (kvs2.map (·.1)) acc2 ρ2 (fun zs ys ρ3 => Φ (.dic zs ys) (backR ρ1 ρ3 vs)),
      fun H2 ⟨ρ2, S2, kvs2, acc2, z1, z2, z3, z4⟩ => ⟨ds.length - (i + 1), by omega, rfl, hlt, ρ2, S2, kvs2, _, acc2, z1, z2, rfl, z3, z4⟩, fun x H2 y => ?_⟩
    obtain ⟨d, hd, y2⟩ := wk0.yld i H' x H2 hlt (s'.trans e'.ex) y
    obtain ⟨S2, s2, i2, e2⟩ := y2 S' _ ρ' _ s' e'
    have ed : ds.drop i = d :: ds.drop (i + 1) := by
      rw [(List.drop_eq_getElem_cons hlt)]
      rw [List.getElem?_eq_getElem hlt] at hd
      rw [Option.some.inj hd]
    rw [ed] at q
    refine ⟨ρ', S2, _, d, _, e2, i2, q, fun ρ3 S3 σ3 H3 q3 s3 e3 w3 => ⟨w3.trans wipe_wipe, ?_⟩⟩
    have w3' : wipe σ3 vs = wipe σ vs := w3.trans wipe_wipe
    refine ⟨ρ3, S3, _, χ0, _, e3, q3, XOk.none, fun b ρ4 S4 H4 q4 s4 e4 => ?_⟩
    cases b with
    | false =>
      rw [if_neg Bool.false_ne_true] at q4 ⊢
      have e5 := e4.wipe vs
      rw [w3'] at e5
      exact ⟨_, S4, kvs, acc, ((s'.trans s2).trans s3).trans s4, e5, iu.mono ((s2.trans s3).trans s4), q4⟩
    | true =>
      rw [if_pos rfl] at q4 ⊢
      refine ⟨ρ4, S4, _, χ0, _, e4, q4, XOk.none, fun v dv ρ5 S5 H5 q5 s5 i5 e5 => ?_⟩
      refine ⟨ρ5, S5, _, χ0, _, e5, q5, XOk.none, fun u du ρ6 S6 H6 q6 s6 i6 e6 => ?_⟩
      obtain ⟨k, hk, hn, hl, q6⟩ := q6
      obtain ⟨h6, _⟩ := e6.fr L _ upd_same
      have t6 := (((s2.trans s3).trans s4).trans s5).trans s6
      refine ⟨kvs, k, keyD_is i5 hk, h6, by rw [List.length_map] at hl; exact hl, ?_⟩
      rw [putK_new hn]
      have e7 := (e6.wipe vs).chF (o' := .dK (kvs ++ [(k, u)])) gL (fun c q z => by unfold LamX.CodeO at z; cases z)
      rw [w3'] at e7
      exact ⟨_, S6, kvs ++ [(k, u)], acc ++ [du], s'.trans t6, e7, by rw [List.map_append]; exact (iu.mono t6).append (.cons i6 .nil), by rw [List.map_append]; exact q6⟩
  · have ei : i = ds.length := by omega
    subst ei
    rw [List.drop_length] at q
    refine .inl ⟨wk0.stop H' (s'.trans e'.ex), ?_⟩
    obtain ⟨hL2, -⟩ := e'.fr L _ upd_same
    obtain ⟨e8, s8⟩ := e'.doneF fL gL
    exact hp _ _ _ _ H' q ((s1.trans s').trans s8) (.dic upd_same rfl (iu.mono s8)) (e1.restore (s'.trans s8) e8)
end DL
set_option Elab.async false
set_option autoImplicit false
set_option linter.all false
set_option maxRecDepth 100000
set_option maxHeartbeats 3900000
namespace DL
open L2 PyProof.Rows PySem PySem.Spec
variable {τ : Tb}
open PySem.Builtin PySem.Builtin.Str
/-! ### x.replace(y, z, n), y and z written, within a list whose first item has written a text -/
def repN (x y z : PySem.Str) (n : Int) : PySem.Str :=
  if ((occurrences x y 0 x.length (limitOf x n)).isEmpty || (y.length == 0 && z.length == 0)) = true then x else glued z (partsBetween x (occurrences x y 0 x.length (limitOf x n)) y.length)
theorem gives_repN (x y z : PySem.Str) (n : Int) (t u v w : Tok) (hn : (decide (n < -(2 ^ 63 : Int)) || decide (n ≥ 2 ^ 63)) = false) (h0 : (u == 0 || v == 0) = false) (huv : (u == v) = false) (hyz : (y == z) = false)
    (hl : tooLong (x.length + (occurrences x y 0 x.length (limitOf x n)).length * z.length) = false) :
    Gives («str.replace» ⟨[.str x t, .str y u, .str z v, .int n w], []⟩) (if ((occurrences x y 0 x.length (limitOf x n)).isEmpty || (y.length == 0 && z.length == 0)) = true then .val (.str x t) else .str (glued z (partsBetween x (occurrences x y 0 x.length (limitOf x n)) y.length))) := by
  show Gives (do let limit ← countLimit "str.replace" (some (.int n w)) (x.length + 1); _) _
  rw [countLimit_int "str.replace" n w (x.length + 1) hn]
  show Gives (if ((occurrences x y 0 x.length (limitOf x n)).isEmpty || (y.length == 0 && z.length == 0)) = true then (do rule "str.replace.nothing"; ret (.str x t)) else
          (do let one ← isSame (.str y u) (.str z v); if one = true then (do rule "str.replace.old-is-new"; ret (.str x t)) else
              if tooLong (x.length + (occurrences x y 0 x.length (limitOf x n)).length * z.length) = true then unsupported "str.replace:memory" else
              retStr (glued z (partsBetween x (occurrences x y 0 x.length (limitOf x n)) y.length)))) _
  split
  · exact .rule (.of_eq rfl)
  · rw [hl, isSame_str_other y z u v h0 huv hyz]; exact .of_eq rfl
theorem gluedN_len (x y z : PySem.Str) (n : Int) : (glued z (partsBetween x (occurrences x y 0 x.length (limitOf x n)) y.length)).length ≤ x.length + (occurrences x y 0 x.length (limitOf x n)).length * z.length := by
  have h : (glued y (partsBetween x (occurrences x y 0 x.length (limitOf x n)) y.length)).length = x.length := congrArg PySem.Str.length (StrLaws.glued_between_self x y (limitOf x n))
  rw [PySem.size_glued, PySem.length_partsBetween] at h ⊢
  rw [Nat.add_sub_cancel] at h ⊢
  omega
theorem repN_len (x y z : PySem.Str) (n : Int) : (repN x y z n).length ≤ x.length + (occurrences x y 0 x.length (limitOf x n)).length * z.length := by
  unfold repN
  split
  · exact Nat.le_add_right _ _
  · exact gluedN_len x y z n
theorem mem_glFold (sep : PySem.Str) (c : Nat) : ∀ (ps : List PySem.Str) (acc : Array Nat), c ∈ ps.foldl (fun acc p => acc ++ sep.cps ++ p.cps) acc ↔ c ∈ acc ∨ (ps ≠ [] ∧ c ∈ sep.cps) ∨ ∃ p ∈ ps, c ∈ p.cps
  | [], acc => by simp
  | p :: ps, acc => by
    rw [List.foldl_cons, mem_glFold sep c ps]
    simp only [Array.mem_append, List.mem_cons]
    constructor
    · rintro (((h | h) | h) | ⟨_, h⟩ | ⟨q, h1, h2⟩)
      · exact .inl h
      · exact .inr (.inl ⟨by simp, h⟩)
      · exact .inr (.inr ⟨p, .inl rfl, h⟩)
      · exact .inr (.inl ⟨by simp, h⟩)
      · exact .inr (.inr ⟨q, .inr h1, h2⟩)
    · rintro (h | ⟨_, h⟩ | ⟨q, rfl | h1, h2⟩)
      · exact .inl (.inl (.inl h))
      · exact .inl (.inl (.inr h))
      · exact .inl (.inr h2)
      · exact .inr (.inr ⟨q, h1, h2⟩)
theorem repN_mem {x y z : PySem.Str} {n : Int} {c : Nat} (h : c ∈ (repN x y z n).cps) : c ∈ x.cps ∨ c ∈ z.cps := by
  unfold repN at h
  split at h
  · exact .inl h
  · have hx := StrLaws.glued_between_self x y (limitOf x n)
    cases hp : partsBetween x (occurrences x y 0 x.length (limitOf x n)) y.length with
    | nil =>
      rw [hp] at h
      cases (show c ∈ (#[] : Array Nat) from h)
      all_goals simp_all
    | cons p ps =>
      rw [hp] at h hx
      have h' : c ∈ ps.foldl (fun acc p => acc ++ z.cps ++ p.cps) p.cps := h
      have hx' : x.cps = ps.foldl (fun acc p => acc ++ y.cps ++ p.cps) p.cps := (congrArg PySem.Str.cps hx).symm
      rw [hx']
      rcases (mem_glFold z c ps p.cps).mp h' with h | ⟨_, h⟩ | h
      · exact .inl ((mem_glFold y c ps p.cps).mpr (.inl h))
      · exact .inr h
      · exact .inl ((mem_glFold y c ps p.cps).mpr (.inr (.inr h)))
/-- an expression behind which a token is out -/
def PE1 (X : Cx) (e : Expr) (t : TE) : Prop := ∀ (pins : List (Addr × Obj)) (s : Shared) (σ : L2.St) (H : Hp) (Q : VK), Inv X pins σ H s → t σ H Q → wpAny (model X.prog X.w) X.A (eval e X.env) (fun v s1 => 1 ≤ s1.toks ∧ EP X pins σ Q v s1) X.xe s
section
variable {X : Cx} {a b e o : Expr} {es : List Expr} {ta tb te to : TE} {tl : TA} {op : Operator} {r : R2} {pos cpos apos c1 c2 c3 : Pos} {c y z : PySem.Str} {j j1 j2 j3 : Nat} {n : Int}
theorem petOf (h : PE X e te) : PET X e te := fun _ _ _ _ _ _ I q => h.run _ _ _ _ _ I q
theorem pe1_bin (ho : OpR X (binaryOp op) r) (ha : PE X a ta) : PE1 X (.BinOp a op (.Constant (.str c) j cpos) pos) (tOp r ta (tC (.str c))) := by
  intro pins s σ H Q I h
  refine wpAny_BinOp (thn (ha.run pins s σ H _ I h) fun v s1 ⟨x, H1, I1, r1, q1⟩ => Calls.Constant_str ?_)
  refine wpAny_mono (wpAny_toks_of (n := 1) (Nat.succ_le_succ (Nat.zero_le _)) (ho pins _ σ H1 x (.str c) v _ Q (I1.tok (s1.toks + 1)) r1 ⟨_, rfl⟩ q1)) (fun _ _ q => q) fun _ _ q => q.2
theorem pa_cons1 (ha : PE1 X e te) (hr : PAT X es tl) (hs : starEach (e :: es) X.env = (false, eval e X.env) :: starEach es X.env := by rfl) : PA X (e :: es) (tCons te tl) := by
  constructor; intro pos pins s σ H Q I h
  rw [hs]
  exact Calls.spliced_cons (thn (ha pins s σ H _ I h) fun v s1 ⟨h1, x, H1, I1, r1, q1⟩ => thn (hr pos pins s1 σ H1 _ h1 I1 q1) fun us s2 ⟨xs, H2, I2, r2, q2⟩ => ⟨x :: xs, H2, I2, .cons r1 r2, q2⟩)
theorem pet_op (ho : OpR X (binaryOp op) r) (ha : PET X a ta) (hb : PE X b tb) : PET X (.BinOp a op b pos) (tOp r ta tb) := fun pins s σ H Q h0 I h =>
  wpAny_BinOp (thn (ha pins s σ H _ h0 I h) fun v s1 ⟨x, H1, I1, r1, q1⟩ => thn (hb.run pins s1 σ H1 _ I1 q1) fun u s2 ⟨w, H2, I2, r2, q2⟩ => ho pins s2 σ H2 x w v u Q I2 r1 r2 q2)
def tRepN (y z : PySem.Str) (n : Int) (to : TE) : TE := fun σ H Q => to σ H fun x H1 => ∃ s, x = .str s ∧ s.length + (occurrences s y 0 s.length (limitOf s n)).length * z.length ≤ 16777216 ∧ Q (.str (repN s y z n)) H1
theorem pet_repN (ho : PE X o to) (hn : (decide (n < -(2 ^ 63 : Int)) || decide (n ≥ 2 ^ 63)) = false) (hyz : (y == z) = false) (hbase : attributeBase o "replace" X.env (eval o X.env) = eval o X.env := by rfl)
    (hfew : ((backTo cpos (starEach [.Constant (.str y) j1 c1, .Constant (.str z) j2 c2, .Constant (.int n) j3 c3] X.env)).all (fun x => !x.1) && (backToKw cpos (keywordEach [] X.env)).all (fun x => x.1.isSome)
      && decide ([.Constant (.str y) j1 c1, .Constant (.str z) j2 c2, Expr.Constant (.int n) j3 c3].length + ([] : List Keyword).length + (if ([] : List Keyword).isEmpty then 0 else 1) < 30)) = true := by rfl)
    (hline : (apos.endLine == cpos.line) = true := by rfl) :
    PET X (.Call (.Attribute o "replace" apos) [.Constant (.str y) j1 c1, .Constant (.str z) j2 c2, .Constant (.int n) j3 c3] [] cpos) (tRepN y z n to) := by
  intro pins s σ H Q h0 I h
  refine wpAny_Call_method_late hbase hfew hline rfl (wpAny_mono (wpAny_toks_of h0 (ho.run pins s σ H _ I h)) (fun v s1 ⟨h1, x, H1, I1, r1, a, ex, hz, q⟩ => ?_) fun _ _ q => q.2)
  subst ex
  obtain ⟨t, rfl⟩ := (show ∃ t, v = Value.str a t from r1)
  refine ⟨"str", _, F.plainAttrs_str, F.slot_str_replace, F.type_str_replace, typeIs_str _ _ _, (fun _ e => nomatch e), Calls.callWith_builtin rfl (Calls.evalArgs_plain ?_)⟩
  show wpAny _ _ (spliced [(false, eval (.Constant (.str y) j1 c1) X.env), (false, eval (.Constant (.str z) j2 c2) X.env), (false, eval (.Constant (.int n) j3 c3) X.env)]) _ _ _
  refine Calls.spliced_cons (Calls.Constant_str (Calls.spliced_cons (Calls.Constant_str (Calls.spliced_cons (wpAny_Constant_int (Calls.spliced_nil ?_))))))
  refine call_gives F.slot_str_replace (typeIs_str _ _ _) F.entry_str_replace (F.args_str_replace_4 _ _ _ _) (gives_repN a y z n t s1.toks (s1.toks + 1) _ hn (by have hu : s1.toks ≠ 0 := Nat.ne_of_gt h1; simp [hu]) (by simp) hyz (by unfold tooLong; refine decide_eq_false ?_; show ¬ (_ > sizeLine); rw [sizeLine_eq]; omega)) ?_
  unfold repN at q
  split
  · rename_i e
    rw [if_pos e] at q
    exact ⟨.str a, H1, I1.tok _, ⟨t, rfl⟩, q⟩
  · rename_i e
    rw [if_neg e] at q
    refine ⟨?_, .str (glued z (partsBetween a (occurrences a y 0 a.length (limitOf a n)) y.length)), H1, I1.tok _, ⟨_, rfl⟩, q⟩
    have hl := gluedN_len a y z n
    rw [sizeLine_eq]
    omega
end
def wRepN (y z : PySem.Str) (n : Int) (wa : WE) : WE := fun ρ χ Φ => wa ρ χ fun x ρ1 => match x with
  | .str s => s.length + (occurrences s y 0 s.length (limitOf s n)).length * z.length ≤ 16777216 ∧ Φ (.str (repN s y z n)) ρ1
  | _ => False
theorem l_repN {K : Fg} {W : WX} {y z : PySem.Str} {n : Int} {wa : WE} : ∀ σ H Q, lE K τ W (wRepN y z n wa) σ H Q → tRepN y z n (lE K τ W wa) σ H Q := by
  rintro σ H Q ⟨ρ, S, F, χ, Φ, e, hw, hx, hp⟩
  refine ⟨ρ, S, F, χ, _, e, hw, hx, fun v d ρ' S' H' q s' iv e' => ?_⟩
  cases iv with
  | str s => exact ⟨s, rfl, q.1, hp _ _ ρ' S' H' q.2 s' (.str _) e'⟩
  | _ => exact q.elim
end DL
set_option Elab.async false
set_option autoImplicit false
set_option linter.all false
set_option maxRecDepth 100000
set_option maxHeartbeats 3900000
namespace DL
open L2 PyProof.Rows PySem PySem.Spec
variable {τ : Tb}
/-! ### the law is called from above all: no text is being made there -/
/-- what is told of the heap: the script, unless the program's own part tells it already -/
theorem told {P : Program} {w : World} {K : Fg} {s : Shared} {a : Addr} {vs : List Value} {ns : List Int} (KX : K.In s.heap) (ha : s.heap.get? a = some { cls := .type "list", data := .seq vs.toArray }) (hi : IntsAre vs ns) (hl : ns.length ≤ sizeLine) :
    ∃ H : Hp, Only H ∧ SqL K H a (ns.map V.int) ∧ HOk P w H s.heap ∧ ∀ b u, H b = some u → b = a ∧ K.lookup a = none := by
  have rv := vals_ints hi
  cases hk : K.lookup a with
  | some o =>
    cases ha.symm.trans (KX a o hk)
    exact ⟨fun _ => none, fun _ => .inl rfl, .inr ⟨_, vs.toArray, _, hk, rfl, rfl, rfl, by rw [List.size_toArray, hi.length]; exact hl, by simpa using rv⟩, (fun _ _ z => by cases z), fun _ _ z => by cases z⟩
  | none =>
    have one : ∀ {b : Addr} {u : HO}, (if b = a then some (HO.frz { cls := .type "list", data := .seq vs.toArray } (.lst (ns.map V.int))) else none) = some u → b = a ∧ u = .frz { cls := .type "list", data := .seq vs.toArray } (.lst (ns.map V.int)) := fun {b u} z => by
      by_cases hb : b = a
      · rw [if_pos hb] at z; exact ⟨hb, (Option.some.inj z).symm⟩
      · rw [if_neg hb] at z; cases z
    refine ⟨fun b => if b = a then some (.frz { cls := .type "list", data := .seq vs.toArray } (.lst (ns.map V.int))) else none, fun b => ?_, .inl (.inr ⟨_, if_pos rfl⟩), fun b u z => ?_, fun b u z => ⟨(one z).1, rfl⟩⟩
    · exact (Classical.em (b = a)).elim (fun hb => .inr ⟨_, _, if_pos hb⟩) fun hb => .inl (if_neg hb)
    · obtain ⟨rfl, rfl⟩ := one z
      exact ⟨ha, (by rw [List.length_map]; exact hl), vs, _, rv, ha⟩
/-- the tables come in beside the script -/
def withT (cs : List (Addr × Addr)) (H : Hp) : Hp := fun b => if b ∈ cs.map (·.2) then some (.tbl #[]) else H b
theorem withT_in {cs : List (Addr × Addr)} {H : Hp} {p : Addr × Addr} (h : p ∈ cs) : withT cs H p.2 = some (.tbl #[]) := if_pos (List.mem_map.mpr ⟨p, h, rfl⟩)
theorem withT_out {cs : List (Addr × Addr)} {H : Hp} {b : Addr} (h : b ∉ cs.map (·.2)) : withT cs H b = H b := if_neg h
theorem law_g {P : Program} {w : World} {K : Fg} {mg mb : Str → Option Value} {k : Nat} {fa a : Addr} {cs : List (Addr × Addr)} {fd : FuncData} {x : Str} {sp : Sp} {s : Shared} {vs : List Value} {ns : List Int}
    (KX : K.In s.heap) (hns : s.heap.Ns mainGlobals mg) (hb : s.heap.Ns builtinsNs mb) (hbb : ∀ x : Str, x ≠ "__name__" → mb x = bootBuiltins x) (hlim : s.heap.NoLimit) (hg : s.gens = #[])
    (hT : ∀ p ∈ cs, s.heap.get? p.2 = some (PySem.W.tabObj #[])) (nT : ∀ p ∈ cs, K.lookup p.2 = none) (hC : ∀ p ∈ cs, PySem.W.codeHdIn K p.1 p.2 = true)
    (hm : ∃ (bm : Addr) (ob : Obj), mg "__builtins__" = some (.ref bm) ∧ bm ≠ builtinsNs ∧ s.heap.get? bm = some ob ∧ ob.cls = .type "module" ∧ ob.dict = some builtinsNs ∧ ob.data = .plain)
    (ha : s.heap.get? a = some { cls := .type "list", data := .seq vs.toArray }) (hi : IntsAre vs ns) (hl : ns.length ≤ sizeLine) (hr : Room k callerA)
    (F : ∀ base : Heap, K.In base → base.Ns mainGlobals mg → (∀ p ∈ cs, LamX.TabB base mg p.1 p.2) → FnG P w K mg base k fa fd [x] sp) (hbind : ∀ (s : Shared) (u : Value), BindsTo s fd ⟨[u], []⟩ [(x, u)])
    (hsp : ∀ H : Hp, (∀ p ∈ cs, H p.2 = some (.tbl #[]) ∧ p.2 ≠ a) → SqL K H a (ns.map V.int) → sp [.ref a] H (fun v _ => v = .bl true) fun _ _ _ => False) :
    codeAny (model P w) callerA (.call (.ref fa) ⟨[.ref a], []⟩) (fun r s' => r = .ok (.ret (.bool true)) ∧ OldK s.heap s'.heap ∧ s'.os = s.os ∧ AllBare s'.gens) s := by
  obtain ⟨H0, hO, hS0, hok0, hA0⟩ := told (P := P) (w := w) KX ha hi hl
  have isT : ∀ b, b ∈ cs.map (·.2) → s.heap.get? b = some (PySem.W.tabObj #[]) ∧ K.lookup b = none := fun b z => by
    obtain ⟨p, hp, rfl⟩ := List.mem_map.mp z
    exact ⟨hT p hp, nT p hp⟩
  have aT : a ∉ cs.map (·.2) := fun z => by
    have q := (isT a z).1
    rw [ha] at q
    exact absurd (congrArg Obj.data (Option.some.inj q)) (by intro z'; cases z')
  -- the tracked part
  have tr : ∀ {b : Addr} {u : HO}, withT cs H0 b = some u → (b ∈ cs.map (·.2) ∧ u = .tbl #[]) ∨ (b = a ∧ K.lookup a = none ∧ H0 b = some u) := fun {b u} z => by
    by_cases hb : b ∈ cs.map (·.2)
    · rw [show withT cs H0 b = some (.tbl #[]) from if_pos hb] at z
      exact .inl ⟨hb, (Option.some.inj z).symm⟩
    · rw [withT_out hb] at z
      obtain ⟨rfl, h2⟩ := hA0 b u z
      exact .inr ⟨rfl, h2, z⟩
  have free : ∀ {b : Addr}, b ∉ cs.map (·.2) → (b = a → False) ∨ K.lookup b ≠ none → withT cs H0 b = none := fun {b} nb z => by
    cases q : withT cs H0 b with
    | none => rfl
    | some u =>
      rcases tr q with ⟨q1, -⟩ | ⟨rfl, q2, -⟩
      · exact absurd q1 nb
      · exact z.elim (fun z => (z rfl).elim) fun z => absurd q2 z
  have nd : ∀ {b : Addr} {o : Obj}, s.heap.get? b = some o → (∀ us n, o.data ≠ .seq us n) → o.data ≠ .fields #[] → withT cs H0 b = none := fun {b o} e h1 h2 => by
    refine free (fun z => ?_) (.inl fun z => ?_)
    · rw [(isT b z).1] at e
      exact h2 (by rw [← Option.some.inj e])
    · rw [z, ha] at e
      exact h1 _ _ (by rw [← Option.some.inj e])
  have hid : ∀ {b : Addr} {m : Str → Option Value}, s.heap.Ns b m → (hidT s.heap (withT cs H0)).Ns b m := fun {b m} ⟨o, es, ep, e, d, r⟩ => by
    refine ⟨o, es, ep, hidT_get e (nd e (fun _ _ z => ?_) fun z => ?_), d, r⟩ <;> (rw [d] at z; cases z)
  have hK : K.In (hidT s.heap (withT cs H0)) := fun b o e => hidT_get (KX b o e) (free (fun z => by rw [(isT b z).2] at e; cases e) (.inr (by rw [e]; simp)))
  have hok : HOk P w (withT cs H0) s.heap := fun b u z => by
    rcases tr z with ⟨q1, rfl⟩ | ⟨rfl, q2, q3⟩
    · exact (isT b q1).1
    · obtain z2 | ⟨ob, xs, z2⟩ := hO b
      · rw [z2] at q3; cases q3
      · rw [q3] at z2; cases z2
        exact hok0 b _ q3
  have hS : SqL K (withT cs H0) a (ns.map V.int) := by
    rcases hS0 with (z | ⟨o, z⟩) | z
    · exact .inl (.inl (by rw [withT_out aT]; exact z))
    · exact .inl (.inr ⟨o, by rw [withT_out aT]; exact z⟩)
    · exact .inr z
  have TB : ∀ p ∈ cs, LamX.TabB (hidT s.heap (withT cs H0)) mg p.1 p.2 := fun p hp => by
    refine ⟨PySem.W.codeHd_of_K hK (hC p hp), ?_, fun z => ?_⟩
    · obtain ⟨bm, ob, b1, b2, b3, b4, b5, b6⟩ := hm
      refine ⟨bm, ob, b1, b2, fun q => ?_, fun q => ?_, hidT_get b3 (nd b3 (fun _ _ z => ?_) fun z => ?_), b4, b5, b6⟩
      · obtain ⟨o, es, ep, e, d, -⟩ := hns
        rw [q, e] at b3; cases b3; rw [d] at b6; cases b6
      · rw [q, hT p hp] at b3; cases b3; cases b6
      · rw [b6] at z; cases z
      · rw [b6] at z; cases z
    · obtain ⟨o, es, ep, e, d, -⟩ := hns
      rw [z, hT p hp] at e; cases e; cases d
  obtain ⟨mc, l1, l2⟩ := hlim
  have e0 : Env0 P w K mg (hidT s.heap (withT cs H0)) callerA [] s (withT cs H0) :=
    ⟨rfl, ⟨hK, hid hns, ⟨mb, hid hb, hbb⟩, ⟨mc, hid l1, l2⟩⟩, fun _ _ e => of_hidT e, Nat.le_of_eq (hidT_size _ _), trivial, (fun b hb => (List.not_mem_nil (a := b) hb).elim), hok, .of_eq hg⟩
  refine codeAny_mono ((F _ hK (hid hns) TB).run callerA [] s (withT cs H0) ⟨[.ref a], []⟩ [.ref a] [.ref a] _ _ hr rfl e0 (hbind s (.ref a)) (.cons rfl .nil) (hsp _ (fun p hp => ⟨withT_in hp, fun z => aT (z ▸ List.mem_map.mpr ⟨p, hp, rfl⟩)⟩) hS)) fun r s' h => ?_
  match r, h with
  | .error e, h => obtain ⟨_, _, _, _, _, _, _, _, _, _, _, _, z⟩ := h; exact z.elim
  | .ok .next, h => exact h.elim
  | .ok .brk, h => exact h.elim
  | .ok .cont, h => exact h.elim
  | .ok (.ret u), h =>
    obtain ⟨v, H', os, bare, un, hok', r', q⟩ := h; cases (show v = .bl true from q)
    cases (show u = Value.bool true from r')
    have key : ∀ b o, b ∉ cs.map (·.2) → s.heap.get? b = some o → s'.heap.get? b = some o := fun b o nb e => by
      obtain z | ⟨ob, xs, z⟩ := hO b
      · exact un.keep b o e (by rw [withT_out nb]; exact z) (List.not_mem_nil) (by simp)
      · obtain ⟨e1, -⟩ := hok0 b _ z
        obtain ⟨e2, -⟩ := hok' b _ (un.frzs b ob _ (by rw [withT_out nb]; exact z))
        rw [← Option.some.inj (e.symm.trans e1)] at e2
        exact e2
    have grown : ∀ p ∈ cs, ∃ more : Array Value, s'.heap.get? p.2 = some { cls := .none, data := .fields more } := fun p hp => by
      obtain ⟨more, z⟩ := un.tbls p.2 #[] (withT_in hp)
      exact ⟨_, hok' p.2 _ z⟩
    refine ⟨rfl, ⟨fun b o e => ?_, fun b o e => ?_⟩, os, bare⟩ <;> by_cases hb : b ∈ cs.map (·.2)
    · obtain ⟨p, hp, rfl⟩ := List.mem_map.mp hb
      obtain ⟨more, hm⟩ := grown p hp
      rw [hT p hp] at e
      cases e
      exact .inr (.inl ⟨((PySem.W.codeHd_of_K KX (hC p hp)).tab (hT p hp)).isCodeTable, rfl, #[], more, rfl, by rw [Array.empty_append]; exact hm⟩)
    · exact .inl (key b o hb e)
    · obtain ⟨p, hp, rfl⟩ := List.mem_map.mp hb
      obtain ⟨more, hm⟩ := grown p hp
      exact ⟨_, hm⟩
    · exact ⟨o, key b o hb e⟩
/-- what a law's def means for data: its script, then True -/
abbrev spLaw (P : List Int → Prop) : Spc := fun h ds Ψ _ => h = none ∧ ∃ ns, ds = [.scr ns] ∧ P ns ∧ Ψ (.bl true) none
theorem walk_g {l : PySem.W.OpenLaw} {n k : Nat} {q : Program} {loose : List Str} {XP : (Str → Option Value) → Heap → Prop} {YP : World → Heap → Prop} {d : DefRec} {K : Params → Fg} {x : Str} {cs : List (Addr × Addr)} {t : List (Addr × Str)}
    (hn : l.most = some n) (hn2 : n ≤ sizeLine) (hdf : d.params.defaults = []) (hY : ∀ (w : World) (h : Heap), YP w h → (K w.params).In h ∧ ∀ p ∈ cs, h.get? p.2 = some (PySem.W.tabObj #[])) (hr : Room k callerA)
    (nT : ∀ w : World, ∀ p ∈ cs, (K w.params).lookup p.2 = none) (hC : ∀ w : World, ∀ p ∈ cs, PySem.W.codeHdIn (K w.params) p.1 p.2 = true) (ht : ∀ p ∈ t, ∃ c, (c, p.1) ∈ cs)
    (F : ∀ (w : World) (mg : Str → Option Value) (fa : Addr) (h : Heap), (K w.params).In h → h.Ns mainGlobals mg → mg d.name = some (.ref fa) → ∃ fd : FuncData,
      (∀ (s : Shared) (u : Value), BindsTo s fd ⟨[u], []⟩ [(x, u)]) ∧
        ∀ base : Heap, (K w.params).In base → base.Ns mainGlobals mg → (∀ p ∈ cs, LamX.TabB base mg p.1 p.2) → FnG l.prog w (K w.params) mg base k fa fd [x] (lSp (K w.params) t 1 (spLaw fun ns => ns.length ≤ n))) :
    PySem.W.WalkO q loose XP YP l.row.toRowW d [] fun g us => PySem.call g us := by
  refine Att.attach_call hn hdf fun w s₀ s mg mb fa o pm cd doc a vs ns G Y ho hd hcd hmg hobj hints hlen hg => ?_
  obtain ⟨Y1, Y2⟩ := hY w _ Y
  obtain ⟨fd, hb, hF⟩ := F w mg fa _ Y1 G.T.g hmg
  refine law_g Y1 G.T.g G.T.b G.T.builtins G.T.nolimit hg Y2 (nT w) (hC w) G.T.bmain hobj hints (Nat.le_trans hlen hn2) hr hF hb fun H hH hS => ?_
  -- all but the tables never changes
  have hP : ∀ p ∈ t, ∃ q ∈ cs, q.2 = p.1 := fun p hp => by obtain ⟨c, hc⟩ := ht p hp; exact ⟨_, hc, rfl⟩
  let S : Hp := fun b => if b ∈ cs.map (·.2) then none else H b
  have sS : Same S H := fun b u z => by
    by_cases hb : b ∈ cs.map (·.2)
    · rw [show S b = none from if_pos hb] at z; cases z
    · rw [show S b = H b from if_neg hb] at z; exact z
  have aS : S a = H a := if_neg fun z => by obtain ⟨p, hp, e⟩ := List.mem_map.mp z; exact (hH p hp).2 e
  have hS' : SqL (K w.params) S a (ns.map V.int) := by
    rcases hS with (z | ⟨o, z⟩) | z
    · exact .inl (.inl (aS.trans z))
    · exact .inl (.inr ⟨o, aS.trans z⟩)
    · exact .inr z
  have tb : TbOk (tb0 t) S (fun _ => none) H := by
    refine ⟨fun p hp => ?_, fun p hp => ?_, fun _ _ => rfl, (fun _ _ z => nomatch z), fun _ _ z => nomatch z⟩
    · obtain ⟨q, hq, e⟩ := hP p hp
      exact .nil (by rw [← e]; exact (hH q hq).1)
    · obtain ⟨q, hq, e⟩ := hP p hp
      exact if_pos (List.mem_map.mpr ⟨q, hq, e⟩)
  refine ⟨S, fun _ => none, none, [.scr ns], fun d _ => d = .bl true, fun _ _ _ => False, rfl, er_args (.cons (.scr hS') .nil) sS tb (fun _ _ z => nomatch z), ⟨rfl, ns, rfl, hlen, rfl⟩, fun d v o' S' H' q _ _ iv _ => ?_, fun _ _ _ _ _ _ _ z => z.elim⟩
  subst q; cases iv; rfl
end DL
set_option Elab.async false
set_option autoImplicit false
set_option linter.all false
set_option maxRecDepth 100000
set_option maxHeartbeats 3900000
namespace DL
open L2 PyProof.Rows PySem PySem.Spec
variable {τ : Tb}
/-! ### the rules, each with what it means for data -/
abbrev PEd (X : Cx) (τ : Tb) (W : WX) (e : Expr) (w : WE) : Prop := PE X e (lE X.K τ W w)
abbrev PTd (X : Cx) (τ : Tb) (W : WX) (e : Expr) (w : WT) : Prop := PT X e (lT X.K τ W w)
abbrev PAd (X : Cx) (τ : Tb) (W : WX) (es : List Expr) (w : WL) : Prop := PA X es (lL X.K τ W w)
abbrev PSd (X : Cx) (τ : Tb) (W : WX) (s : Stmt) (w : WS) : Prop := PS X s (lS X.K τ W w)
abbrev PSsd (X : Cx) (τ : Tb) (W : WX) (s : List Stmt) (w : WS) : Prop := PSs X s (lS X.K τ W w)
abbrev PId (X : Cx) (τ : Tb) (W : WX) (tg e : Expr) (w : WL) : Prop := PI X tg e (lI X.K τ W w)
abbrev PGd (X : Cx) (τ : Tb) (e : Expr) (g : WG) : Prop := PG X e (lG X.K τ g)
abbrev PEO (X : Cx) (τ : Tb) (W : WX) (e : Expr) (w : WEO) : Prop := PE X e (lEO X.K τ W w)
section
variable {X : Cx} {W : WX} {k : Nat} {x : Str} {a b c d e : Expr} {es rest : List Expr} {p pos pos' cpos apos tpos : Pos} {wa wb wc wk wv : WE} {wt wu : WT} {wl : WL} {w u : WS} {j j' : Nat} {wo : WEO}
theorem e_var {i : Nat} (hN : X.N[i]? = some x := by rfl) (hv : Vis X.env.scope x := by first | exact .inl rfl | exact .inr (.inl rfl) | exact .inr (.inr rfl)) (hd : (x == ("__debug__" : Str)) = false := by decide) (hc : (x == ("__classdict__" : Str)) = false := by decide) :
    PEd X τ W (.Name x pos) (wVar i) := PE.imp (pe_var hN hv hd hc) l_var
theorem e_int {i : Int} : PEd X τ W (.Constant (.int i) j pos) (wC (.int i)) := PE.imp pe_int (l_c fun _ => .int i)
theorem e_str {s : Str} : PEd X τ W (.Constant (.str s) j pos) (wC (.str s)) := PE.imp pe_str (l_c fun _ => .str s)
theorem e_bl {b : Bool} : PEd X τ W (.Constant (.bool b) j pos) (wC (.bl b)) := PE.imp pe_bl (l_c fun _ => .bl b)
theorem e_non : PEd X τ W (.Constant .none j pos) (wC .non) := PE.imp pe_non (l_c fun _ => .non)
theorem e_globI {i : Int} {t : Tok} (hm : X.mg x = some (.int i t)) (hg : Gl X x := by rfl) (hd : (x == ("__debug__" : Str)) = false := by decide) : PEd X τ W (.Name x pos) (wC (.int i)) := PE.imp (pe_glob (v := .int i) hg hm ⟨t, rfl⟩ hd) (l_c fun _ => .int i)
theorem e_cls {C : Addr} (hm : X.mg x = some (.ref C)) (hg : Gl X x := by rfl) (hd : (x == ("__debug__" : Str)) = false := by decide) : PEd X τ W (.Name x pos) (wC (.raw (.ref C))) := PE.imp (pe_glob (v := .ref C) hg hm rfl hd) (l_c fun _ => .raw _)
theorem e_ty {n : String} (hm : X.mg x = none) (hv : bootBuiltins x = some (.type n)) (hg : Gl X x := by rfl) (hn : x ≠ "__name__" := by decide) (hd : (x == ("__debug__" : Str)) = false := by decide) : PEd X τ W (.Name x pos) (wC (.raw (.ty n))) :=
  PE.imp (t := tC (.ty n)) ⟨fun pins s σ H Q I h => ld_blt I hg hm hv ⟨.ty n, H, I, rfl, h⟩ hn hd⟩ (l_c fun _ => .raw _)
theorem a_nil : PAd X τ W [] wNil := PA.imp pa_nil l_nil
theorem a_cons (h : PEd X τ W e wa) (r : PAd X τ W es wl) (hs : starEach (e :: es) X.env = (false, eval e X.env) :: starEach es X.env := by rfl) : PAd X τ W (e :: es) (wCons wa wl) := PA.imp (pa_cons h r hs) l_cons
theorem e_tup {kk : Nat} (h : PAd X τ W es wl) : PEd X τ W (.Tuple es kk pos) (wTup wl) := PE.imp (pe_tup h) l_tup
theorem e_lst (h : PAd X τ W es wl) : PEd X τ W (.List es pos) (wLst wl) := PE.imp (pe_lst h) l_lst
/-! operators -/
theorem e_add (ha : PEd X τ W a wa) (hb : PEd X τ W b wb) : PEd X τ W (.BinOp a .Add b pos) (wOp wAdd wa wb) := PE.imp (pe_op or_add ha hb) (l_op ok_add)
theorem e_sub (ha : PEd X τ W a wa) (hb : PEd X τ W b wb) : PEd X τ W (.BinOp a .Sub b pos) (wOp wSub wa wb) := PE.imp (pe_op op_sub ha hb) (l_op ok_sub)
theorem e_mul (ha : PEd X τ W a wa) (hb : PEd X τ W b wb) : PEd X τ W (.BinOp a .Mult b pos) (wOp wMul wa wb) := PE.imp (pe_op or_mul ha hb) (l_op ok_mul)
theorem e_mod (ha : PEd X τ W a wa) (hb : PEd X τ W b wb) : PEd X τ W (.BinOp a .Mod b pos) (wOp wMod wa wb) := PE.imp (pe_op op_mod ha hb) (l_op ok_mod)
theorem e_div (ha : PEd X τ W a wa) (hb : PEd X τ W b wb) : PEd X τ W (.BinOp a .FloorDiv b pos) (wOp wDiv wa wb) := PE.imp (pe_op op_fdiv ha hb) (l_op ok_div)
theorem e_pow (ha : PEd X τ W a wa) (hb : PEd X τ W b wb) : PEd X τ W (.BinOp a .Pow b pos) (wOp wPow wa wb) := PE.imp (pe_op op_pow ha hb) (l_op ok_pow)
theorem e_ix (ha : PEd X τ W a wa) (hb : PEd X τ W b wb) (hs : PlainIx b := by intro _ _; rfl) : PEd X τ W (.Subscript a b pos) (wOp wIx wa wb) := PE.imp (pe_ix ix_seq ha hb hs) (l_op ok_ix)
abbrev wLt := wCmp fun i j => decide (i < j)
abbrev wLe := wCmp fun i j => decide (i ≤ j)
abbrev wGt := wCmp fun i j => decide (j < i)
abbrev wGe := wCmp fun i j => decide (j ≤ i)
theorem e_lt (ha : PEd X τ W a wa) (hb : PEd X τ W b wb) : PEd X τ W (.Compare a [.Lt] [b] pos) (wOp wLt wa wb) := PE.imp (pe_cmpR op_lt ha hb (nomark _)) (l_op ok_B0)
theorem e_le (ha : PEd X τ W a wa) (hb : PEd X τ W b wb) : PEd X τ W (.Compare a [.LtE] [b] pos) (wOp wLe wa wb) := PE.imp (pe_cmpR op_le ha hb (nomark _)) (l_op ok_B0)
theorem e_gt (ha : PEd X τ W a wa) (hb : PEd X τ W b wb) : PEd X τ W (.Compare a [.Gt] [b] pos) (wOp wGt wa wb) := PE.imp (pe_cmpR op_gt ha hb (nomark _)) (l_op ok_B0)
theorem e_ge (ha : PEd X τ W a wa) (hb : PEd X τ W b wb) : PEd X τ W (.Compare a [.GtE] [b] pos) (wOp wGe wa wb) := PE.imp (pe_cmpR op_ge ha hb (nomark _)) (l_op ok_B0)
theorem Cok.u64 (o : Cok X W (k + 1)) : X.A.units + 64 < cLine := by have := o.rm.un; omega
theorem Cok.u1 (o : Cok X W k) : X.A.units + 1 < cLine := o.hu
theorem Cok.u64' (o : Cok X W k) : X.A.units + 64 < cLine := by have := o.rm.un; omega
theorem e_eq (o : Cok X W k) (ha : PEd X τ W a wa) (hb : PEd X τ W b wb) : PEd X τ W (.Compare a [.Eq] [b] pos) (wOp (wEq false) wa wb) := PE.imp (pe_cmpR (op_eqD o.u64') ha hb (nomark _)) (l_op ok_eq)
theorem e_ne (o : Cok X W k) (ha : PEd X τ W a wa) (hb : PEd X τ W b wb) : PEd X τ W (.Compare a [.NotEq] [b] pos) (wOp (wEq true) wa wb) := PE.imp (pe_cmpR (op_neD o.u64') ha hb (nomark _)) (l_op ok_ne)
theorem e_isN (ha : PEd X τ W a wa) (hb : PEd X τ W b wb) : PEd X τ W (.Compare a [.Is] [b] pos) (wOp (wIsN false) wa wb) := PE.imp (pe_cmpR op_isN ha hb (nomark _)) (l_op ok_isN)
theorem e_notN (ha : PEd X τ W a wa) (hb : PEd X τ W b wb) : PEd X τ W (.Compare a [.IsNot] [b] pos) (wOp (wIsN true) wa wb) := PE.imp (pe_cmpR op_notN ha hb (nomark _)) (l_op ok_notN)
theorem e_leLt (ha : PEd X τ W a wa) (hb : PEd X τ W b wb) (hc : PEd X τ W c wc) (hm : lastMarks [.LtE, .Lt] [b, c] = false := by with_unfolding_all rfl) : PEd X τ W (.Compare a [.LtE, .Lt] [b, c] pos) (wChain wLe wLt wa wb wc) := PE.imp (pe_chain op_le op_lt ha hb hc hm) (l_chain ok_B0 ok_B0)
theorem e_leLe (ha : PEd X τ W a wa) (hb : PEd X τ W b wb) (hc : PEd X τ W c wc) (hm : lastMarks [.LtE, .LtE] [b, c] = false := by with_unfolding_all rfl) : PEd X τ W (.Compare a [.LtE, .LtE] [b, c] pos) (wChain wLe wLe wa wb wc) := PE.imp (pe_chain op_le op_le ha hb hc hm) (l_chain ok_B0 ok_B0)
theorem e_and1 (h : PEd X τ W a wa) : PEd X τ W (.BoolOp .And [a] pos) wa := pe_one h
theorem e_or1 (h : PEd X τ W a wa) : PEd X τ W (.BoolOp .Or [a] pos) wa := pe_one h
theorem e_and (ha : PEd X τ W a wa) (hb : PEd X τ W (.BoolOp .And (b :: rest) pos) wb) : PEd X τ W (.BoolOp .And (a :: b :: rest) pos) (wAndV wa wb) := PE.imp (pe_and ha hb) l_andV
theorem e_or (ha : PEd X τ W a wa) (hb : PEd X τ W (.BoolOp .Or (b :: rest) pos) wb) : PEd X τ W (.BoolOp .Or (a :: b :: rest) pos) (wOrV wa wb) := PE.imp (pe_or ha hb) l_orV
theorem e_not (ha : PEd X τ W a wa) : PEd X τ W (.UnaryOp .Not a pos) (wNotV wa) := PE.imp (pe_not ha) l_notV
theorem e_if (ht : PTd X τ W c wt) (ha : PEd X τ W a wa) (hb : PEd X τ W b wb) : PEd X τ W (.IfExp c a b pos) (wIf wt wa wb) := PE.imp (pe_ifExp ht ha hb) l_if
/-! tests -/
theorem t_of {t : TE} (h : PT X e (tTest t)) (m : ∀ σ H Q, lE X.K τ W wa σ H Q → t σ H Q) : PTd X τ W e (wB wa) := PT.imp h fun σ H Q z => m σ H _ (l_test σ H Q z)
theorem t_val (h : PEd X τ W e wa) (he : ∀ whole, isTrue e X.env whole = (do let v ← whole; standAt e.pos; holding [v] (truthy v)) := by intro _; rfl) : PTd X τ W e (wB wa) := PT.imp (pt_val h he) l_B
theorem t_lt (ha : PEd X τ W a wa) (hb : PEd X τ W b wb) : PTd X τ W (.Compare a [.Lt] [b] pos) (wB (wOp wLt wa wb)) := t_of (pt_cmpR op_lt ha hb (nomark _)) (l_op ok_B0)
theorem t_le (ha : PEd X τ W a wa) (hb : PEd X τ W b wb) : PTd X τ W (.Compare a [.LtE] [b] pos) (wB (wOp wLe wa wb)) := t_of (pt_cmpR op_le ha hb (nomark _)) (l_op ok_B0)
theorem t_gt (ha : PEd X τ W a wa) (hb : PEd X τ W b wb) : PTd X τ W (.Compare a [.Gt] [b] pos) (wB (wOp wGt wa wb)) := t_of (pt_cmpR op_gt ha hb (nomark _)) (l_op ok_B0)
theorem t_ge (ha : PEd X τ W a wa) (hb : PEd X τ W b wb) : PTd X τ W (.Compare a [.GtE] [b] pos) (wB (wOp wGe wa wb)) := t_of (pt_cmpR op_ge ha hb (nomark _)) (l_op ok_B0)
theorem t_eq (o : Cok X W k) (ha : PEd X τ W a wa) (hb : PEd X τ W b wb) : PTd X τ W (.Compare a [.Eq] [b] pos) (wB (wOp (wEq false) wa wb)) := t_of (pt_cmpR (op_eqD o.u64') ha hb (nomark _)) (l_op ok_eq)
theorem t_ne (o : Cok X W k) (ha : PEd X τ W a wa) (hb : PEd X τ W b wb) : PTd X τ W (.Compare a [.NotEq] [b] pos) (wB (wOp (wEq true) wa wb)) := t_of (pt_cmpR (op_neD o.u64') ha hb (nomark _)) (l_op ok_ne)
theorem t_isN (ha : PEd X τ W a wa) (hb : PEd X τ W b wb) : PTd X τ W (.Compare a [.Is] [b] pos) (wB (wOp (wIsN false) wa wb)) := t_of (pt_cmpR op_isN ha hb (nomark _)) (l_op ok_isN)
theorem t_notN (ha : PEd X τ W a wa) (hb : PEd X τ W b wb) : PTd X τ W (.Compare a [.IsNot] [b] pos) (wB (wOp (wIsN true) wa wb)) := t_of (pt_cmpR op_notN ha hb (nomark _)) (l_op ok_notN)
theorem t_leLe (ha : PEd X τ W a wa) (hb : PEd X τ W b wb) (hc : PEd X τ W c wc) (hm : lastMarks [.LtE, .LtE] [b, c] = false := by with_unfolding_all rfl) : PTd X τ W (.Compare a [.LtE, .LtE] [b, c] pos) (wB (wChain wLe wLe wa wb wc)) := t_of (pt_chain op_le op_le ha hb hc hm) (l_chain ok_B0 ok_B0)
theorem t_not (h : PTd X τ W a wt) : PTd X τ W (.UnaryOp .Not a pos) (wNot wt) := PT.imp (pt_not h) l_not
abbrev PWd (X : Cx) (τ : Tb) (W : WX) (e : Expr) (w : WT) : Prop := PW X e (lT X.K τ W w)
theorem q_and1 (h : PTd X τ W a wt) : PWd X τ W (.BoolOp .And [a] pos) wt := pw_and1 h
theorem q_or1 (h : PTd X τ W a wt) : PWd X τ W (.BoolOp .Or [a] pos) wt := pw_or1 h
theorem q_and (h : PTd X τ W a wt) (r : PWd X τ W (.BoolOp .And (b :: rest) pos) wu) : PWd X τ W (.BoolOp .And (a :: b :: rest) pos) (wAnd wt wu) := PW.imp (pw_and h r) l_and
theorem q_or (h : PTd X τ W a wt) (r : PWd X τ W (.BoolOp .Or (b :: rest) pos) wu) : PWd X τ W (.BoolOp .Or (a :: b :: rest) pos) (wOr wt wu) := PW.imp (pw_or h r) l_or
theorem t_pw (h : PWd X τ W a wt) : PTd X τ W a wt := PW.pt h
theorem t_din (o : Cok X W k) (ha : PEd X τ W a wa) (hb : PEd X τ W b wb) (h1 : behindInMarks .In b = false := by first | exact nobehind _ (by decide) (by decide) | rfl) : PTd X τ W (.Compare a [.In] [b] pos) (wB (wDIn false wa wb)) := PT.imp (pt_cmp (pc_din o.u1 (PE.imp ha fun _ _ _ z => z) hb) h1) fun σ H Q z => l_din σ H _ (l_B σ H Q z)
theorem t_dnin (o : Cok X W k) (ha : PEd X τ W a wa) (hb : PEd X τ W b wb) (h1 : behindInMarks .NotIn b = false := by first | exact nobehind _ (by decide) (by decide) | rfl) : PTd X τ W (.Compare a [.NotIn] [b] pos) (wB (wDIn true wa wb)) := PT.imp (pt_cmp (pc_dnotin o.u1 ha hb) h1) fun σ H Q z => l_dnin σ H _ (l_B σ H Q z)
/-! built-ins -/
theorem e_len (hm : X.mg "len" = none) (ha : PAd X τ W (e :: es) wl) (hg : Gl X "len" := by rfl) (he : starEach (e :: es) X.env = (false, eval e X.env) :: starEach es X.env := by rfl) (hpl : (backTo pos (starEach es X.env)).any (·.1) = false := by rfl) : PEd X τ W (.Call (.Name "len" p) (e :: es) [] pos) (wCB wLen wl) := PE.imp (pe_callB cr_lenD hg hm PySem.boot_len ha (by decide) (by decide) he hpl) (l_cb ok_len)
theorem e_lenO {i : Nat} (hm : X.mg "len" = none) (hN : X.N[i]? = some x := by rfl) (hv : Vis X.env.scope x := by first | exact .inl rfl | exact .inr (.inl rfl) | exact .inr (.inr rfl)) (hg : Gl X "len" := by rfl) (hd : (x == ("__debug__" : Str)) = false := by decide) (hc : (x == ("__classdict__" : Str)) = false := by decide)
    (he : starEach [.Name x pos'] X.env = [(false, eval (.Name x pos') X.env)] := by rfl) : PEd X τ W (.Call (.Name "len" p) [.Name x pos'] [] pos) (wLenO i) := PE.imp (pe_callB cr_lenD hg hm PySem.boot_len (pa_cons (pe_var hN hv hd hc) pa_nil he) (by decide) (by decide) he rfl) l_lenO
theorem e_abs (hm : X.mg "abs" = none) (ha : PAd X τ W (e :: es) wl) (hg : Gl X "abs" := by rfl) (he : starEach (e :: es) X.env = (false, eval e X.env) :: starEach es X.env := by rfl) (hpl : (backTo pos (starEach es X.env)).any (·.1) = false := by rfl) : PEd X τ W (.Call (.Name "abs" p) (e :: es) [] pos) (wCB wAbs wl) := PE.imp (pe_callB call_abs hg hm PyProof.Rows.Boot.abs ha (by decide) (by decide) he hpl) (l_cb ok_abs)
end
end DL
set_option Elab.async false
set_option autoImplicit false
set_option linter.all false
set_option maxRecDepth 100000
set_option maxHeartbeats 3900000
namespace DL
open L2 PyProof.Rows PySem PySem.Spec
variable {τ : Tb}
section
variable {X : Cx} {W : WX} {k : Nat} {x y : Str} {a b c d e f o : Expr} {es rest : List Expr} {p pos pos' cpos apos tpos px py pt pt2 : Pos} {wa wb wc wk wv : WE} {wt wu : WT} {wl wi : WL} {w u : WS} {j j' kt k2 : Nat} {wo : WEO} {wr : WCl} {r : List V → Hp → VK → Prop} {id T : String}
/-! built-ins by name: functions, types -/
theorem e_blt (cr : CallR X (.builtin id) r) (ok : CallOk X.K τ r wr) (hm : X.mg x = none) (hv : bootBuiltins x = some (.builtin id)) (ha : PAd X τ W (e :: es) wl) (hg : Gl X x := by rfl) (hn : x ≠ "__name__" := by decide) (hd : (x == ("__debug__" : Str)) = false := by decide)
    (he : starEach (e :: es) X.env = (false, eval e X.env) :: starEach es X.env := by rfl) (hpl : (backTo pos (starEach es X.env)).any (·.1) = false := by rfl) : PEd X τ W (.Call (.Name x p) (e :: es) [] pos) (wCB wr wl) := PE.imp (pe_callB cr hg hm hv ha hn hd he hpl) (l_cb ok)
theorem e_bty (cr : CallR X (.type T) r) (ok : CallOk X.K τ r wr) (hm : X.mg x = none) (hv : bootBuiltins x = some (.type T)) (ha : PAd X τ W (e :: es) wl) (hg : Gl X x := by rfl) (hn : x ≠ "__name__" := by decide) (hd : (x == ("__debug__" : Str)) = false := by decide)
    (he : starEach (e :: es) X.env = (false, eval e X.env) :: starEach es X.env := by rfl) (hpl : (backTo pos (starEach es X.env)).any (·.1) = false := by rfl) : PEd X τ W (.Call (.Name x p) (e :: es) [] pos) (wCB wr wl) := PE.imp (pe_callTy cr hg hm hv ha hn hd he hpl) (l_cb ok)
theorem e_tupRg (hc : X.calm = true) (hm : X.mg "tuple" = none) (hm2 : X.mg "range" = none) (ha : PEd X τ W a wa) (hg : Gl X "tuple" := by rfl) (hg2 : Gl X "range" := by rfl) (na : starEach [a] X.env = (false, eval a X.env) :: starEach [] X.env := by rfl)
    (nb : starEach [.Call (.Name "range" p) [a] [] pos'] X.env = (false, eval (.Call (.Name "range" p) [a] [] pos') X.env) :: starEach [] X.env := by rfl) : PEd X τ W (.Call (.Name "tuple" px) [.Call (.Name "range" p) [a] [] pos'] [] pos) (wRgT (wCons wa wNil)) :=
  PE.imp (pe_tupRg hc hg hm (prg_1 hg2 hm2 ha na) nb) l_rgT
/-! methods of texts, lists -/
theorem e_join (ha : PEd X τ W o wa) (hb : PEd X τ W e wb) (hs : starEach [e] X.env = [(false, eval e X.env)] := by rfl) (hbase : attributeBase o "join" X.env (eval o X.env) = eval o X.env := by rfl) (hline : (apos.endLine == pos.line) = true := by rfl) :
    PEd X τ W (.Call (.Attribute o "join" apos) [e] [] pos) (wM1 wJoin wa wb) := PE.imp (pe_join ha hb hs hbase hline) (l_m1 ok_join)
theorem e_split (ha : PEd X τ W o wa) (hb : PEd X τ W e wb) (hs : starEach [e] X.env = [(false, eval e X.env)] := by rfl) (hbase : attributeBase o "split" X.env (eval o X.env) = eval o X.env := by rfl) (hline : (apos.endLine == pos.line) = true := by rfl) :
    PEd X τ W (.Call (.Attribute o "split" apos) [e] [] pos) (wM1 wSplit wa wb) := PE.imp (pe_split ha hb hs hbase hline) (l_m1 ok_split)
/-! dicts, slices, fields, f-strings -/
theorem e_dget (q : Cok X W k) (ha : PEd X τ W o wa) (hb : PEd X τ W e wb) (hs : NoSl e := by intro _ _; rfl) : PEd X τ W (.Subscript o e pos) (wDGet wa wb) := PE.imp (pe_dget q.u1 ha hb hs) l_dget
theorem e_dget2 (q : Cok X W k) (ha : PEd X τ W o wa) (hb : PEd X τ W e wb) (hc : PEd X τ W f wc) (m : M2 X o "get" apos e f cpos) : PEd X τ W (.Call (.Attribute o "get" apos) [e, f] [] cpos) (wDGet2 wa wb wc) := PE.imp (pe_dget2 q.u1 ha hb hc m) l_dget2
abbrev POd (X : Cx) (τ : Tb) (W : WX) (e : Option Expr) (w : WO) : Prop := PO X e (lO X.K τ W w)
variable {lo hi : Option Expr} {wlo whi : WO} {p2 : Pos}
theorem s_none : POd X τ W none woNone := ⟨fun pins s σ H Q I h => po_none.run pins s σ H Q I (o_none σ H Q h)⟩
theorem s_some (ha : PEd X τ W e wa) : POd X τ W (some e) (woSome wa) := ⟨fun pins s σ H Q I h => (po_some ha).run pins s σ H Q I (o_some σ H Q h)⟩
theorem e_slice (ha : PEd X τ W e wa) (hl : POd X τ W lo wlo) (hu : POd X τ W hi whi) : PEd X τ W (.Subscript e (.Slice lo hi none p2) pos) (wSl wa wlo whi) := PE.imp (pe_slice (SlR.or sl_list sl_tupA) ha hl hu) l_sl
theorem e_fld {C : Addr} (hc : Cls X.K C) (hn : NoAttr X.K C x) (ha : PEd X τ W e wa) (hb : attributeBase e x X.env (eval e X.env) = eval e X.env := by rfl) : PEd X τ W (.Attribute e x pos) (wFld C x wa) := PE.imp (pe_fld ha hb) (l_fld hc hn)
theorem e_fldO {C : Addr} {i : Nat} (hc : Cls X.K C) (hn : NoAttr X.K C x) (hN : X.N[i]? = some y := by rfl) (hv : Vis X.env.scope y := by first | exact .inl rfl | exact .inr (.inl rfl) | exact .inr (.inr rfl)) (hd : (y == ("__debug__" : Str)) = false := by decide) (hcd : (y == ("__classdict__" : Str)) = false := by decide)
    (hb : attributeBase (.Name y p) x X.env (eval (.Name y p) X.env) = eval (.Name y p) X.env := by rfl) : PEd X τ W (.Attribute (.Name y p) x pos) (wFldO C x i) := PE.imp (pe_fld (pe_var hN hv hd hcd) hb) (l_fldO hc hn)
theorem e_fmt (ha : PEd X τ W e wa) : PEd X τ W (.FormattedValue e (-1) none pos) (wFmt wa) := PE.imp (pe_fmt ha) l_fmt
inductive PJd (X : Cx) (τ : Tb) (W : WX) : List Expr → List WE → Prop
  | nil : PJd X τ W [] []
  | cons {e : Expr} {w : WE} {es : List Expr} {ws : List WE} (h : PEd X τ W e w) (r : PJd X τ W es ws) : PJd X τ W (e :: es) (w :: ws)
theorem PJd.pj : ∀ {es : List Expr} {ws : List WE}, PJd X τ W es ws → PJ X es (ws.map (lE X.K τ W))
  | _, _, .nil => .nil
  | _, _, .cons h r => .cons h r.pj
theorem e_fs {ws : List WE} (h : PJd X τ W (a :: b :: es) ws) : PEd X τ W (.JoinedStr (a :: b :: es) pos) (wFs ws) := PE.imp (pe_joined h.pj) l_fs
/-! own lists -/
theorem e_ixO {i : Nat} (hb : PEd X τ W b wb) (hN : X.N[i]? = some x := by rfl) (hv : Vis X.env.scope x := by first | exact .inl rfl | exact .inr (.inl rfl) | exact .inr (.inr rfl)) (hs : PlainIx b := by intro _ _; rfl) (hd : (x == ("__debug__" : Str)) = false := by decide) (hc : (x == ("__classdict__" : Str)) = false := by decide) :
    PEd X τ W (.Subscript (.Name x p) b pos) (wIxO i wb) := PE.imp (pe_ix ix_seq (pe_var hN hv hd hc) hb hs) l_ixO
theorem o_lst (h : PAd X τ W es wl) : PEO X τ W (.List es pos) (woLst wl) := PE.imp (pe_lst h) lo_lst
theorem o_lstOf (hm : X.mg "list" = none) (ha : PAd X τ W [e] wl) (hg : Gl X "list" := by rfl) (he : starEach [e] X.env = (false, eval e X.env) :: starEach [] X.env := by rfl) : PEO X τ W (.Call (.Name "list" p) [e] [] pos) (woLstOf wl) := PE.imp (pe_callTy call_list_of hg hm PyProof.Rows.Boot.list ha (by decide) (by decide) he rfl) lo_lstOf
/-! statements -/
theorem s_nil : PSsd X τ W [] wNext := PSs.imp pss_nil l_next
variable {st : Stmt} {sts body tl fl : List Stmt} {i : Nat}
theorem s_cons (h : PSd X τ W st w) (r : PSsd X τ W sts u) : PSsd X τ W (st :: sts) (wSeq w u) := PSs.imp (pss_cons h r) l_seq
theorem s_one (h : PSd X τ W st w) : PSsd X τ W [st] w := pss_one h
theorem s_pass : PSd X τ W (.Pass pos) wNext := PS.imp ps_pass l_next
theorem s_brk : PSd X τ W (.Break pos) wBreak := PS.imp ps_break l_brk
theorem s_cnt : PSd X τ W (.Continue pos) wCont := PS.imp ps_continue l_cnt
theorem s_ret (h : PEd X τ W e wa) : PSd X τ W (.Return (some e) pos) (wRet wa) := PS.imp (ps_ret h) l_ret
theorem s_retN : PSd X τ W (.Return none pos) wRetN := PS.imp ps_retN l_retN
theorem s_retO (h : PEO X τ W e wo) : PSd X τ W (.Return (some e) pos) (wRetO wo) := PS.imp (ps_ret h) l_retO
theorem s_drop (h : PEd X τ W e wa) (hs : swapsWith e none pos.line X.env = pure false := by rfl) : PSd X τ W (.Expr e pos) (wDrop wa) := PS.imp (ps_expr h hs) l_drop
theorem s_set (hN : X.N.Nodup) (i : Nat) (h : PEd X τ W e wa) (hi : X.N[i]? = some x := by rfl) (hx : Loc X.env.scope x := by first | exact .inl rfl | exact .inr rfl) (hs : swapsWith e (some (.Name x pos')) pos.line X.env = pure false := by rfl)
    (hf : X.fn x = true ∨ X.env.scope.names.lookup x = some .local := by first | exact .inl rfl | exact .inr rfl) : PSd X τ W (.Assign [.Name x pos'] e pos) (wAsg i wa) := PS.imp (ps_set hN hi hx h hs hf) l_asg
theorem s_setO (hN : X.N.Nodup) (i : Nat) (h : PEO X τ W e wo) (hi : X.N[i]? = some x := by rfl) (hx : Loc X.env.scope x := by first | exact .inl rfl | exact .inr rfl) (hs : swapsWith e (some (.Name x pos')) pos.line X.env = pure false := by rfl)
    (hf : X.fn x = true ∨ X.env.scope.names.lookup x = some .local := by first | exact .inl rfl | exact .inr rfl) : PSd X τ W (.Assign [.Name x pos'] e pos) (wAsgO i wo) := PS.imp (ps_set hN hi hx h hs hf) l_asgO
theorem s_par (hN : X.N.Nodup) (hc : X.calm = true) (i m : Nat) (h : PAd X τ W [a, b] wl) (hw : swappedStores [.Tuple [.Name x px, .Name y py] kt pt] (.Tuple [a, b] k2 pt2) X.env = pure (some [x, y])) (hij : i ≠ m := by decide) (hi : X.N[i]? = some x := by rfl) (hj : X.N[m]? = some y := by rfl)
    (hx : X.env.scope.names.lookup x = some .local := by rfl) (hy : X.env.scope.names.lookup y = some .local := by rfl) (hs : swapsWithSole [.Tuple [.Name x px, .Name y py] kt pt] (.Tuple [a, b] k2 pt2) pos.line X.env = pure false := by rfl) :
    PSd X τ W (.Assign [.Tuple [.Name x px, .Name y py] kt pt] (.Tuple [a, b] k2 pt2) pos) (wPar i m wl) := PS.imp (ps_par hc hN hi hj hij hx hy h hw hs) l_par
theorem s_parO (hN : X.N.Nodup) (hc : X.calm = true) (i m : Nat) (h : PEd X τ W a wa) (ho : PEO X τ W b wo) (hw : swappedStores [.Tuple [.Name x px, .Name y py] kt pt] (.Tuple [a, b] k2 pt2) X.env = pure (some [x, y])) (hij : i ≠ m := by decide) (hi : X.N[i]? = some x := by rfl) (hj : X.N[m]? = some y := by rfl)
    (hx : X.env.scope.names.lookup x = some .local := by rfl) (hy : X.env.scope.names.lookup y = some .local := by rfl) (hs : swapsWithSole [.Tuple [.Name x px, .Name y py] kt pt] (.Tuple [a, b] k2 pt2) pos.line X.env = pure false := by rfl)
    (h1 : starEach [a, b] X.env = (false, eval a X.env) :: starEach [b] X.env := by rfl) (h2 : starEach [b] X.env = (false, eval b X.env) :: starEach [] X.env := by rfl) :
    PSd X τ W (.Assign [.Tuple [.Name x px, .Name y py] kt pt] (.Tuple [a, b] k2 pt2) pos) (wParO i m wa wo) := PS.imp (ps_par hc hN hi hj hij hx hy (pa_cons h (pa_cons ho pa_nil h2) h1) hw hs) l_parO
theorem s_if (ht : PTd X τ W c wt) (ha : PSsd X τ W tl w) (hb : PSsd X τ W fl u) : PSd X τ W (.If c tl fl pos) (wIfS wt w u) := PS.imp (ps_if ht ha hb) l_ifS
theorem s_setO1 {wj : WE} (i : Nat) (hk : PEd X τ W b wj) (h : PEd X τ W e wa) (hN : X.N[i]? = some x := by rfl) (hv : Vis X.env.scope x := by first | exact .inl rfl | exact .inr (.inl rfl) | exact .inr (.inr rfl)) (hd : (x == ("__debug__" : Str)) = false := by decide) (hc : (x == ("__classdict__" : Str)) = false := by decide)
    (ha : ∀ v, assign (.Subscript (.Name x p) b tpos) X.env v = (do
      let ov ← holding [v] (eval (.Name x p) X.env)
      let iv ← holding [v, ov] (eval b X.env)
      standAt tpos
      holding [v, ov, iv] (setItem ov iv v); release [v, ov, iv] []) := by intro _; rfl)
    (hs : swapsWithSole [.Subscript (.Name x p) b tpos] e pos.line X.env = pure false := by rfl) (hw : swappedStores [.Subscript (.Name x p) b tpos] e X.env = pure none := by rfl)
    (h1 : (assignEach [.Subscript (.Name x p) b tpos] X.env).map (·.2) = [assign (.Subscript (.Name x p) b tpos) X.env] := by rfl) : PSd X τ W (.Assign [.Subscript (.Name x p) b tpos] e pos) (wSetO i wj wa) :=
  PS.imp (ps_asg h (pg_sub (pe_var hN hv hd hc) hk set_list ha) hs hw h1) l_setO
theorem s_app (i : Nat) (h : PEd X τ W e wa) (hN : X.N[i]? = some x := by rfl) (hv : Vis X.env.scope x := by first | exact .inl rfl | exact .inr (.inl rfl) | exact .inr (.inr rfl)) (hd : (x == ("__debug__" : Str)) = false := by decide) (hc : (x == ("__classdict__" : Str)) = false := by decide)
    (hbase : attributeBase (.Name x p) "append" X.env (eval (.Name x p) X.env) = eval (.Name x p) X.env := by rfl)
    (hfew : ((backTo cpos (starEach [e] X.env)).all (fun x => !x.1) && (backToKw cpos (keywordEach [] X.env)).all (fun x => x.1.isSome) && decide ([e].length + ([] : List Keyword).length + (if ([] : List Keyword).isEmpty then 0 else 1) < 30)) = true := by rfl)
    (hline : (apos.endLine == cpos.line) = true := by rfl) (hs : starEach [e] X.env = (false, eval e X.env) :: starEach [] X.env := by rfl) (hw : swapsWith (.Call (.Attribute (.Name x p) "append" apos) [e] [] cpos) none pos.line X.env = pure false := by rfl) :
    PSd X τ W (.Expr (.Call (.Attribute (.Name x p) "append" apos) [e] [] cpos) pos) (wApp i wa) :=
  PS.imp (ps_expr (pe_bm PySem.F.plainAttrs_list PySem.F.slot_list_append PySem.F.type_list_append mt_append (pe_var hN hv hd hc) (pa_cons h pa_nil hs) hbase hfew hline hs rfl) hw) l_app
theorem s_fset {C : Addr} (i : Nat) (hc : Cls X.K C) (hn : NoAttr X.K C y) (h : PEd X τ W e wa) (hN : X.N[i]? = some x := by rfl) (hv : Vis X.env.scope x := by first | exact .inl rfl | exact .inr (.inl rfl) | exact .inr (.inr rfl)) (hd : (x == ("__debug__" : Str)) = false := by decide) (hcd : (x == ("__classdict__" : Str)) = false := by decide)
    (hs : swapsWith e (some (.Attribute (.Name x p) y pos')) pos.line X.env = pure false := by rfl) : PSd X τ W (.Assign [.Attribute (.Name x p) y pos'] e pos) (wFset C y i wa) := PS.imp (ps_fld (pe_var hN hv hd hcd) h hs) (l_fset hc hn)
/-! targets, walks, loops -/
theorem g_nm (hN : X.N.Nodup) (i : Nat) (hi : X.N[i]? = some x := by rfl) (hx : Loc X.env.scope x := by first | exact .inl rfl | exact .inr rfl) (hf : X.fn x = true ∨ X.env.scope.names.lookup x = some .local := by first | exact .inl rfl | exact .inr rfl) : PGd X τ (.Name x pos) (wgName i) := PG.imp (pg_name hN hi hx hf) g_name
theorem g_two (hN : X.N.Nodup) (hc : X.calm = true) (i m : Nat) (hi : X.N[i]? = some x := by rfl) (hj : X.N[m]? = some y := by rfl) (hx : Loc X.env.scope x := by first | exact .inl rfl | exact .inr rfl) (hy : Loc X.env.scope y := by first | exact .inl rfl | exact .inr rfl)
    (hf : X.fn x = true ∨ X.env.scope.names.lookup x = some .local := by first | exact .inl rfl | exact .inr rfl) (hf2 : X.fn y = true ∨ X.env.scope.names.lookup y = some .local := by first | exact .inl rfl | exact .inr rfl)
    (hn : (assignEach [.Name x px, .Name y py] X.env).length = 2 := by rfl) (hst : (assignEach [.Name x px, .Name y py] X.env).findIdx? (·.1) = none := by rfl) : PGd X τ (.Tuple [.Name x px, .Name y py] kt pt) (wgTup 2 (wgCons (wgName i) (wgCons (wgName m) wgNil))) :=
  PG.imp (pg_tup hc (PGs.imp (pgs_cons (PG.imp (pg_name hN hi hx hf) g_name) (PGs.imp (pgs_cons (PG.imp (pg_name hN hj hy hf2) g_name) (PGs.imp pgs_nil g_nil)) g_cons)) g_cons) hn hst) g_tup
theorem i_seq {tg : Expr} (h : PEd X τ W e wa) : PId X τ W tg e (wiSeq wa) := d_seq h
theorem i_rng1 {tg : Expr} (hm : X.mg "range" = none) (ha : PAd X τ W [a] wl) (hg : Gl X "range" := by rfl) (hs : starEach [a] X.env = [(false, eval a X.env)] := by rfl) : PId X τ W tg (.Call (.Name "range" p) [a] [] pos) (wiRg1 wl) := PI.imp (pi_range1 hg hm ha hs) i_rg1
theorem s_for {tg : Expr} {g : WG} (hp : PassesOwn (model X.prog X.w) X.A X.env X.xe) (hc : X.calm = true) (hi : PId X τ W tg e wi) (hg : PGd X τ tg g) (hb : PSsd X τ W body w) (hs : ∀ x, foldedSetIterable e X.env x = pure x := by intro _; rfl) : PSd X τ W (.For tg e body [] pos) (wFor wi g w) := PS.imp (ps_for hp hc hi hg hb hs) l_for
end
end DL
set_option Elab.async false
set_option autoImplicit false
set_option linter.all false
set_option maxRecDepth 100000
set_option maxHeartbeats 3900000
namespace DL
open L2 PyProof.Rows PySem PySem.Spec
variable {τ : Tb}
/-! ### comprehensions -/
abbrev Blk (X : Cx) (P : Cx → Prop) (scope : Scope) : Prop := ∀ (s : Shared) (H : Hp) (C : Addr) (cl : List (Str × Addr)) (fp : List Addr), P (X.blk s H scope (compEnvC scope cl C X.env) fp)
theorem PTs.imp {X : Cx} {ifs : List Expr} {t t' : TT} (h : PTs X ifs t) (m : ∀ σ H Q, t' σ H Q → t σ H Q) : PTs X ifs t' := ⟨fun pins s σ H Q I q => h.run pins s σ H Q I (m σ H Q q)⟩
theorem PK.imp {X : Cx} {ks : List Keyword} {t t' : TA} (h : PK X ks t) (m : ∀ σ H Q, t' σ H Q → t σ H Q) : PK X ks t' := ⟨fun pos pins s σ H Q I q => h.run pos pins s σ H Q I (m σ H Q q)⟩
theorem f_nil {X : Cx} {W : WX} : PTs X [] (lT X.K τ W wTrue) := PTs.imp pts_nil l_yes
theorem f_one {X : Cx} {W : WX} {c : Expr} {wt : WT} (h : PTd X τ W c wt) : PTs X [c] (lT X.K τ W wt) := pts_one h
section
variable {X : Cx} {W : WX} {k n m N : Nat} {x : Str} {e tg iter elt kx : Expr} {es : List Expr} {ifs : List Expr} {scope : Scope} {own : List (Str × Nat)} {p pos p2 : Pos} {wa we wk : WE} {wi wl : WL} {g : WG} {wt : WT} {f C : Addr} {fd : FuncData} {ps ks : List Str} {sp : Spc}
theorem e_lc (hc : X.calm = true) (hN : X.N.Nodup) (hi : PId X τ W tg iter wi) (ok : BlkOk X.N X.env.scope scope own) (hg : Blk X (fun Y => PG Y tg (lGc X.K τ (own.map (·.2)) g)) scope) (ht : Blk X (fun Y => PTs Y ifs (lT X.K τ W0 wt)) scope) (he : Blk X (fun Y => PE Y elt (lE X.K τ W0 we)) scope)
    (hs : ∀ x, foldedSetIterable iter X.env x = pure x := by intro _; rfl) : PEd X τ W (.ListComp elt [⟨tg, iter, ifs, 0⟩] scope pos) (wLc wi g wt we (own.map (·.2))) := PE.imp (pe_lc hc hN hi ok hg ht he hs) l_lc
theorem o_lc (hc : X.calm = true) (hN : X.N.Nodup) (hi : PId X τ W tg iter wi) (ok : BlkOk X.N X.env.scope scope own) (hg : Blk X (fun Y => PG Y tg (lGc X.K τ (own.map (·.2)) g)) scope) (ht : Blk X (fun Y => PTs Y ifs (lT X.K τ W0 wt)) scope) (he : Blk X (fun Y => PE Y elt (lE X.K τ W0 we)) scope)
    (hs : ∀ x, foldedSetIterable iter X.env x = pure x := by intro _; rfl) : PEO X τ W (.ListComp elt [⟨tg, iter, ifs, 0⟩] scope pos) (woLc wi g wt we (own.map (·.2))) := PE.imp (pe_lc hc hN hi ok hg ht he hs) lo_lc
theorem e_dc (hc : X.calm = true) (hN : X.N.Nodup) (hi : PId X τ W tg iter wi) (ok : BlkOk X.N X.env.scope scope own) (hg : Blk X (fun Y => PG Y tg (lGc X.K τ (own.map (·.2)) g)) scope) (ht : Blk X (fun Y => PTs Y ifs (lT X.K τ W0 wt)) scope) (hk : Blk X (fun Y => PE Y kx (lE X.K τ W0 wk)) scope) (he : Blk X (fun Y => PE Y elt (lE X.K τ W0 we)) scope)
    (hs : ∀ x, foldedSetIterable iter X.env x = pure x := by intro _; rfl) : PEd X τ W (.DictComp kx elt [⟨tg, iter, ifs, 0⟩] scope pos) (wDc wi g wt wk we (own.map (·.2))) := PE.imp (pe_dc hc hN hi ok hg ht hk he hs) l_dc
theorem g_c {K : Fg} {vs : List Nat} {Y : Cx} (i : Nat) (hN : Y.N.Nodup) (hv : i ∈ vs := by decide) (hi : Y.N[i]? = some x := by rfl) (hx : Loc Y.env.scope x := by first | exact .inl rfl | exact .inr rfl) (hf : Y.fn x = true ∨ Y.env.scope.names.lookup x = some .local := by first | exact .inl rfl | exact .inr rfl) : PG Y (.Name x pos) (lGc K τ vs (wgName i)) :=
  PG.imp (pg_name hN hi hx hf) (gc_name hv)

/-! ### calls of defs -/
theorem lL_mono {K : Fg} {w : WL} {σ : L2.St} {H : Hp} {Q Q' : List V → Hp → Prop} (h : lL K τ W w σ H Q) (m : ∀ vs H', Q vs H' → Q' vs H') : lL K τ W w σ H Q' := by
  obtain ⟨ρ, S, F, χ, Φ, e, hw, hx, hp⟩ := h
  exact ⟨ρ, S, F, χ, Φ, e, hw, hx, fun vs ds ρ' S' H' a b c d => m vs H' (hp vs ds ρ' S' H' a b c d)⟩
structure Dn (K : Fg) (mg : Str → Option Value) (x : Str) (f : Addr) (fd : FuncData) (ps : List Str) (n : Nat) : Prop where
  m : mg x = some (.ref f)
  kp : PySem.W.keepIn K (Value.ref f) = true
  kb : KBn K fd ps n [] (fun us _ => us) (fun us _ => us)
theorem kb_of {K : Fg} {fd : FuncData} {ps : List Str} {n : Nat} (h : Binds K fd ps []) (hn : ps.length = n) : KBn K fd ps n [] (fun us _ => us) (fun us _ => us) :=
  ⟨fun s us ws hK h1 h2 => by
    have z := h s us hK (by rw [List.append_nil, h1, hn])
    rw [List.append_nil] at z
    exact z, fun r _ => r⟩
theorem grel_pos : GRel n 0 n (fun vs _ => vs) (fun ds _ => ds) := fun K S vs ds us es i1 i2 h1 h2 => ⟨i1, h1⟩
theorem e_call {tt : List (Addr × Str)} (o : Cok X W k) {j : Nat} (F : FnG X.prog X.w X.K X.mg X.base j f fd ps (lSp X.K tt n sp)) (U : Dn X.K X.mg x f fd ps n) (ha : PAd X τ W (e :: es) wl) (hj : j ≤ k := by decide) (hg : Gl X x := by rfl) (hd : (x == ("__debug__" : Str)) = false := by decide)
    (he : starEach (e :: es) X.env = (false, eval e X.env) :: starEach es X.env := by rfl) (hpl : (backTo pos (starEach es X.env)).any (·.1) = false := by rfl) (ht : τ.t = tt := by rfl) : PEd X τ W (.Call (.Name x p) (e :: es) [] pos) (wCallA n 0 sp (fun ds _ => ds) wl wNil) := by
  subst ht
  exact PE.imp (pe_g (F.mono hj) o hg U.m U.kp U.kb ha hpl hd he) fun σ H Q z => lL_mono (l_callA grel_pos σ H Q z) fun vs H' q => l_nil σ H' _ q
theorem e_callB {tt : List (Addr × Str)} (o : Cok X W k) {i j : Nat} (F : FnG X.prog X.w X.K X.mg X.base j f fd ps (lSp X.K tt (n + 1) sp)) (U : Dn X.K X.mg x f fd ps (n + 1)) {y : Str} {py : Pos} (ha : PAd X τ W es wl) (hj : j ≤ k := by decide) (hN : X.N[i]? = some y := by rfl) (hv : Vis X.env.scope y := by first | exact .inl rfl | exact .inr (.inl rfl) | exact .inr (.inr rfl))
    (hg : Gl X x := by rfl) (hd : (x == ("__debug__" : Str)) = false := by decide) (hd2 : (y == ("__debug__" : Str)) = false := by decide) (hc2 : (y == ("__classdict__" : Str)) = false := by decide)
    (he : starEach (.Name y py :: es) X.env = (false, eval (.Name y py) X.env) :: starEach es X.env := by rfl) (hpl : (backTo pos (starEach es X.env)).any (·.1) = false := by rfl) (ht : τ.t = tt := by rfl) : PEd X τ W (.Call (.Name x p) (.Name y py :: es) [] pos) (wCallB i n sp wl) := by
  subst ht
  exact PE.imp (pe_g (F.mono hj) o hg U.m U.kp U.kb (pa_cons (pe_var hN hv hd2 hc2) ha he) hpl hd he) (l_callB fun _ => rfl)
theorem o_call {tt : List (Addr × Str)} (o : Cok X W k) {j : Nat} {so : SpcO} (F : FnG X.prog X.w X.K X.mg X.base j f fd ps (lSpO X.K tt n so)) (U : Dn X.K X.mg x f fd ps n) (ha : PAd X τ W (e :: es) wl) (hj : j ≤ k := by decide) (hg : Gl X x := by rfl) (hd : (x == ("__debug__" : Str)) = false := by decide)
    (he : starEach (e :: es) X.env = (false, eval e X.env) :: starEach es X.env := by rfl) (hpl : (backTo pos (starEach es X.env)).any (·.1) = false := by rfl) (ht : τ.t = tt := by rfl) : PEO X τ W (.Call (.Name x p) (e :: es) [] pos) (woCall n so wl) := by
  subst ht
  exact PE.imp (pe_g (F.mono hj) o hg U.m U.kp U.kb ha hpl hd he) (lo_call fun _ => rfl)
theorem e_callT {tt : List (Addr × Str)} (o : Cok X W k) {j : Nat} {wo : WEO} (F : FnG X.prog X.w X.K X.mg X.base j f fd ps (lSp X.K tt (n + 1) sp)) (U : Dn X.K X.mg x f fd ps (n + 1)) (h : PEO X τ W e wo) (ha : PAd X τ W es wl) (hj : j ≤ k := by decide) (hg : Gl X x := by rfl) (hd : (x == ("__debug__" : Str)) = false := by decide)
    (he : starEach (e :: es) X.env = (false, eval e X.env) :: starEach es X.env := by rfl) (hpl : (backTo pos (starEach es X.env)).any (·.1) = false := by rfl) (ht : τ.t = tt := by rfl) : PEd X τ W (.Call (.Name x p) (e :: es) [] pos) (wCallT n sp wo wl) := by
  subst ht
  exact PE.imp (pe_g (F.mono hj) o hg U.m U.kp U.kb (pa_cons h ha he) hpl hd he) (l_callT fun _ => rfl)
/-- keywords alone -/
abbrev PKd (X : Cx) (τ : Tb) (W : WX) (ks : List Keyword) (w : WL) : Prop := PK X ks (lL X.K τ W w)
theorem k_nil : PKd X τ W [] wNil := PK.imp pk_nil l_nil
theorem k_cons {nm : Option Str} {kp : Pos} {kws : List Keyword} (h : PEd X τ W e wa) (r : PKd X τ W kws wl) : PKd X τ W (⟨nm, e, kp⟩ :: kws) (wCons wa wl) := PK.imp (pk_cons h r) l_cons
theorem e_callK {tt : List (Addr × Str)} (o : Cok X W k) {j : Nat} {kws : List Keyword} {gl : List Value → List Value → List Value} {gV : List V → List V → List V} {gD : List D → List D → List D} (F : FnG X.prog X.w X.K X.mg X.base j f fd ps (lSp X.K tt n sp)) (hm : X.mg x = some (.ref f)) (kp : PySem.W.keepIn X.K (.ref f) = true)
    (hb : KBn X.K fd ps 0 ks gl gV) (hr : GRel 0 ks.length n gV gD) (ha : PKd X τ W kws wl) (hj : j ≤ k := by decide) (hg : Gl X x := by rfl) (hall : (backToKw pos (keywordEach kws X.env)).all (·.1.isSome) = true := by rfl) (hks : (backToKw pos (keywordEach kws X.env)).filterMap (·.1) = ks := by rfl)
    (hd : (x == ("__debug__" : Str)) = false := by decide) (hpl : ((backTo pos (starEach [] X.env)).any (·.1) || (backToKw pos (keywordEach kws X.env)).any (·.1.isNone)) = false := by rfl) (ht : τ.t = tt := by rfl) : PEd X τ W (.Call (.Name x p) [] kws pos) (wCallA 0 ks.length sp gD wNil wl) := by
  subst ht
  exact PE.imp (pe_gk0 (F.mono hj) o hg hm kp hb ha hall hks (hpl := hpl) (hdb := hd)) fun σ H Q z => l_nil σ H _ (l_callA hr σ H Q z)
/-- C(..) -/
theorem grel_mk : ∀ (v : V) (vs zs : List V), (fun (us : List V) (_ : List V) => us) (v :: vs) zs = v :: (fun (us : List V) (_ : List V) => us) vs zs := fun _ _ _ => rfl
theorem e_make {tt : List (Addr × Str)} (o : Cok X W (k + 1)) {j : Nat} (M : Mk X.K C f) (F : FnG X.prog X.w X.K X.mg X.base j f fd ps (lSp X.K tt (n + 1) sp)) (hm : X.mg x = some (.ref C)) (kb : KBn X.K fd ps (n + 1) [] (fun us _ => us) (fun us _ => us)) (ha : PAd X τ W (e :: es) wl) (hj : j ≤ k := by decide) (hg : Gl X x := by rfl) (hd : (x == ("__debug__" : Str)) = false := by decide)
    (he : starEach (e :: es) X.env = (false, eval e X.env) :: starEach es X.env := by rfl) (hpl : (backTo pos (starEach es X.env)).any (·.1) = false := by rfl) (ht : τ.t = tt := by rfl) : PEd X τ W (.Call (.Name x p) (e :: es) [] pos) (wMake C n 0 sp (fun ds _ => ds) wl wNil) := by
  subst ht
  exact PE.imp (pe_mk M (F.mono hj) o hg hm kb ha (hpl := hpl) (hdb := hd) (he := he)) fun σ H Q z => lL_mono (l_make (gV := fun us _ => us) grel_pos grel_mk σ H Q z) fun vs H' q => l_nil σ H' _ q
/-- x != y by an own == -/
theorem e_neO {tt : List (Addr × Str)} (o : Cok X W (k + 1)) {j : Nat} {a b : Expr} {wb : WE} (T : EqC X.K C f) (F : FnG X.prog X.w X.K X.mg X.base j f fd ps (lSp X.K tt 2 sp)) (kb : KBn X.K fd ps 2 [] (fun us _ => us) (fun us _ => us)) (ha : PEd X τ W a wa) (hb : PEd X τ W b wb) (hj : j ≤ k := by decide) (ht : τ.t = tt := by rfl) :
    PTd X τ W (.Compare a [.NotEq] [b] pos) (wB (wOp (fun x y Φ => wEq true x y Φ ∨ wNeO C sp x y Φ) wa wb)) := by
  subst ht
  exact t_of (pt_cmpR ((op_neD o.u64').or (op_neO T (F.mono hj) o kb (fun _ => rfl) fun _ => rfl)) ha hb (nomark _)) (l_op (ok_ne.or ok_neO))

/-! ### raise, try -/
variable {C0 fI : Addr} {fn s : Str} {w : WS}
theorem s_raise (hc : X.calm = true) (o : Cok X W (k + 1)) (hC : ErrC X.K C fI fn) (F1 : FnOk X.prog X.w X.K X.mg X.base (L2.CX X.prog X.w) k fI fd [s, fn] (spIni X.K fn)) (hb : Binds X.K fd [s, fn] []) (hx : Passes (L2.CX X.prog X.w) X (fun _ _ _ => False))
    (hm : X.mg x = some (.ref C)) (ha : PAd X τ W [e] wl) (hg : Gl X x := by rfl) (hd : (x == ("__debug__" : Str)) = false := by decide) (he : starEach [e] X.env = [(false, eval e X.env)] := by rfl) :
    PSd X τ W (.Raise (some (.Call (.Name x p) [e] [] pos)) none p2) (wRaise C fn wl) := ps_rs hc o hC F1 hb hx hg hm ha hd he
def wNever : WS := fun _ _ => False
theorem s_never {sts : List Stmt} : PSsd X τ W sts wNever := PSs.imp pss_never fun _ _ _ ⟨_, _, _, _, _, h, _⟩ => h
theorem s_try {n : Str} {c : Value} {i : Nat} {body suite : List Stmt} {b₀ : Stmt} {np pos' : Pos} {wb : WS} {ws : Addr → Value → Option Addr → WS} (hN : X.N.Nodup) (o : Cok X W k) (hc : Names X x c)
    (hb : ∀ (W' : WX) (pn : List (Addr × Obj)) (xe : Value → Shared → Prop), Cok (X.tr pn xe) W' k → PassesOwn (model X.prog X.w) X.A X.env xe → PSs (X.tr pn xe) body (lS X.K τ W' wb))
    (hsu : ∀ (a : Addr) (oe : Obj) (cls : Value) (d : Option Addr) (pn : List (Addr × Obj)), Zc cls d oe → (∃ vs, oe.data = .fields vs) → PSs (X.suite a ((a, oe) :: pn)) (b₀ :: suite) (lS X.K τ W (ws a cls d)))
    (hi : X.N[i]? = some n := by rfl) (hln : X.env.kindOf n = some .local := by rfl) (hs : X.stack = X.env :: X.outer := by rfl) (hf : X.env.frame = some X.env.locals := by rfl) :
    PSd X τ W (.Try body [.ExceptHandler (some (.Name x np)) (some n) (b₀ :: suite) pos'] [] [] pos) (wTry X.K c i wb ws) :=
  PS.imp (ps_try_as (tb := fun W' => lS X.K τ W' wb) hs hf hN hi hln hc o.tk (fun W' pn xe tk hp => hb W' pn xe (o.tr pn xe tk) hp) hsu) l_try
theorem e_xf {a : Addr} {oe : Obj} {cls : Value} {dO : Option Addr} {pn : List (Addr × Obj)} {nf : Str} (T : XfC X.K C) (hno : PySem.W.findIn X.K (.ref C) nf = some none) (hz : Zc cls dO oe) (hf : ∃ vs, oe.data = .fields vs) (he : PEd (X.suite a ((a, oe) :: pn)) τ W e wa)
    (hb : attributeBase e nf X.env (eval e X.env) = eval e X.env := by rfl) : PEd (X.suite a ((a, oe) :: pn)) τ W (.Attribute e nf pos) (wXf a cls dO C nf wa) := PE.imp (pe_xf (X := X) T hno hz hf he hb) l_xf
end
end DL
set_option Elab.async false
set_option autoImplicit false
set_option linter.all false
set_option maxRecDepth 100000
set_option maxHeartbeats 3900000
namespace DL
open L2 PyProof.Rows PySem PySem.Spec
variable {τ : Tb}
/-- a, b = x, y whose names lie in cells: the pair is made, then parted; y an object of one's own -/
theorem l_parG {K : Fg} {W : WX} {i m : Nat} {wa : WE} {wo : WEO} : ∀ D σ H, lS K τ W (wParO i m wa wo) D σ H → tAsg (tTup (tCons (lE K τ W wa) (tCons (lEO K τ W wo) tNil))) (gTup K 2 (gCons (gName i) (gCons (gName m) gNil))) D σ H := by
  rintro D σ H ⟨ρ, S, F, Δ, e, hw, hx, h1, h2, h3, h4, h5⟩
  refine ⟨ρ, S, F, _, _, e, hw, hx, fun v d ρ1 S1 H1 q1 s1 i1 e1 => ?_⟩
  refine ⟨ρ1, S1, F, _, _, e1, q1, hx.mono s1, fun l od o ρ2 S2 H2 q2 s2 a1 a2 a3 a4 a5 e2 => ?_⟩
  refine ⟨show 2 ≤ sizeLine by decide, fun p hp => ⟨p, _, rfl, .inl (.inl upd_same), rfl, v, _, rfl, _, _, rfl, rfl, ?_⟩⟩
  have nl : l ≠ p := ne_of_none a1 hp
  exact h1 _ S2 _ _ q2 (s1.trans s2) (((e2.addH hp).set (i1.mono s2)).setOwn (by rw [upd_ne nl]; exact a1) a3 a4 a2 (notOwn_set a5))
theorem s_parG {X : Cx} {W : WX} {a b : Expr} {x y : Str} {wa : WE} {wo : WEO} {px py pt pt2 pos : Pos} {kt k2 : Nat} (hN : X.N.Nodup) (hc : X.calm = true) (i m : Nat) (h : PEd X τ W a wa) (ho : PEO X τ W b wo) (hi : X.N[i]? = some x := by rfl) (hj : X.N[m]? = some y := by rfl)
    (hx : Loc X.env.scope x := by first | exact .inl rfl | exact .inr rfl) (hy : Loc X.env.scope y := by first | exact .inl rfl | exact .inr rfl) (hf : X.fn x = true ∨ X.env.scope.names.lookup x = some .local := by first | exact .inl rfl | exact .inr rfl)
    (hf2 : X.fn y = true ∨ X.env.scope.names.lookup y = some .local := by first | exact .inl rfl | exact .inr rfl) (hn : (assignEach [.Name x px, .Name y py] X.env).length = 2 := by rfl) (hst : (assignEach [.Name x px, .Name y py] X.env).findIdx? (·.1) = none := by rfl)
    (hs : swapsWithSole [.Tuple [.Name x px, .Name y py] kt pt] (.Tuple [a, b] k2 pt2) pos.line X.env = pure false := by rfl) (hw : swappedStores [.Tuple [.Name x px, .Name y py] kt pt] (.Tuple [a, b] k2 pt2) X.env = pure none := by rfl)
    (h1 : (assignEach [.Tuple [.Name x px, .Name y py] kt pt] X.env).map (·.2) = [assign (.Tuple [.Name x px, .Name y py] kt pt) X.env] := by rfl)
    (e1 : starEach [a, b] X.env = (false, eval a X.env) :: starEach [b] X.env := by rfl) (e2 : starEach [b] X.env = (false, eval b X.env) :: starEach [] X.env := by rfl) :
    PSd X τ W (.Assign [.Tuple [.Name x px, .Name y py] kt pt] (.Tuple [a, b] k2 pt2) pos) (wParO i m wa wo) :=
  PS.imp (ps_asg (pe_tup (pa_cons h (pa_cons ho pa_nil e2) e1)) (pg_tup hc (pgs_cons (pg_name hN hi hx hf) (pgs_cons (pg_name hN hj hy hf2) pgs_nil)) hn hst) hs hw h1) l_parG
theorem s_asg {X : Cx} {W : WX} {tg e : Expr} {wa : WE} {g : WG} {pos : Pos} (h : PEd X τ W e wa) (hg : PGd X τ tg g) (hs : swapsWithSole [tg] e pos.line X.env = pure false := by rfl) (hw : swappedStores [tg] e X.env = pure none := by rfl)
    (h1 : (assignEach [tg] X.env).map (·.2) = [assign tg X.env] := by rfl) : PSd X τ W (.Assign [tg] e pos) (wAsgG g wa) := PS.imp (ps_asg h hg hs hw h1) l_asgG
/-- name = [..] on one line -/
theorem s_setLc {X : Cx} {W : WX} {y : Str} {tg iter elt : Expr} {ifs : List Expr} {scope : Scope} {own : List (Str × Nat)} {pos spos py : Pos} {wi : WL} {g : WG} {wt : WT} {we : WE} (i : Nat) (hc : X.calm = true) (hN : X.N.Nodup) (hi : PId X τ W tg iter wi) (ok : BlkOk X.N X.env.scope scope own)
    (hg : Blk X (fun Y => PG Y tg (lGc X.K τ (own.map (·.2)) g)) scope) (ht : Blk X (fun Y => PTs Y ifs (lT X.K τ W0 wt)) scope) (he : Blk X (fun Y => PE Y elt (lE X.K τ W0 we)) scope) (hy : X.N[i]? = some y := by rfl) (hyl : X.env.scope.names.lookup y = some .local := by rfl)
    (hsw : swapsWith (.ListComp elt [⟨tg, iter, ifs, 0⟩] scope pos) (some (.Name y py)) spos.line X.env = pure true := by rfl) (hs : ∀ x, foldedSetIterable iter X.env x = pure x := by intro _; rfl) :
    PSd X τ W (.Assign [.Name y py] (.ListComp elt [⟨tg, iter, ifs, 0⟩] scope pos) spos) (wAsg i (wLc wi g wt we (own.map (·.2)))) :=
  PS.imp (PS.imp (ps_setLc hc hN hy hyl hsw hi ok hg ht he hs) fun D σ H z => l_lc σ H _ z) l_asg
/-- == where an error is handled -/
theorem e_eqU {X : Cx} {W : WX} {a b : Expr} {wa wb : WE} {pos : Pos} (hu : X.A.units + 64 < cLine) (ha : PEd X τ W a wa) (hb : PEd X τ W b wb) : PEd X τ W (.Compare a [.Eq] [b] pos) (wOp (wEq false) wa wb) := PE.imp (pe_cmpR (op_eqD hu) ha hb (nomark _)) (l_op ok_eq)
theorem e_neU {X : Cx} {W : WX} {a b : Expr} {wa wb : WE} {pos : Pos} (hu : X.A.units + 64 < cLine) (ha : PEd X τ W a wa) (hb : PEd X τ W b wb) : PEd X τ W (.Compare a [.NotEq] [b] pos) (wOp (wEq true) wa wb) := PE.imp (pe_cmpR (op_neD hu) ha hb (nomark _)) (l_op ok_ne)
/-- a block's own names, told by one computation -/
def blkB (N : List Str) (sc scope : Scope) (own : List (Str × Nat)) : Bool :=
  (decide (scope.kind = .function) && scope.names.all fun y => decide (scope.names.lookup y.1 = some y.2)) && ((own.all fun p => decide (N[p.2]? = some p.1)) &&
    ((scope.names.all fun y => decide (y.2 = .free → sc.names.lookup y.1 = some .cell ∨ sc.names.lookup y.1 = some .free)) && scope.names.all fun y => decide (y.2 = .local ∨ y.2 = .cell → y.1 ∈ own.map (·.1) ∨ y.1 ∉ N)))
theorem blk_ok {N : List Str} {sc scope : Scope} {own : List (Str × Nat)} (h : blkB N sc scope own = true) : BlkOk N sc scope own := by
  unfold blkB at h
  simp only [List.all_eq_true, Bool.and_eq_true, decide_eq_true_eq] at h
  obtain ⟨⟨h1, h2⟩, h3, h4, h5⟩ := h
  exact ⟨h1, h2, h3, h4, h5⟩
def wNeg : D → (D → Prop) → Prop := fun x Φ => match x with
  | .int i => Φ (.int (-i))
  | _ => False
theorem ok_neg {K : Fg} : UnOk K τ (rU fun i => .int (-i)) wNeg := by
  intro S F H ρ σ x dx Φ Q e ix hw hp
  cases ix with
  | int i => exact ⟨i, rfl, hp _ _ S H hw (Same.refl S) (.int _) e⟩
  | _ => exact hw.elim
theorem lE_mono {K : Fg} {W : WX} {w : WE} {σ : L2.St} {H : Hp} {Q Q' : VK} (h : lE K τ W w σ H Q) (m : ∀ v H', Q v H' → Q' v H') : lE K τ W w σ H Q' := by
  obtain ⟨ρ, S, F, χ, Φ, e, hw, hx, hp⟩ := h
  exact ⟨ρ, S, F, χ, Φ, e, hw, hx, fun v d ρ' S' H' a b c d' => m v H' (hp v d ρ' S' H' a b c d')⟩
section
variable {X : Cx} {W : WX} {a e o : Expr} {es : List Expr} {wa wb wr : WE} {wl : WL} {pos cpos apos c1 c2 c3 : Pos} {c y z : Str} {j j1 j2 j3 : Nat} {n : Int}
theorem e_neg (ha : PEd X τ W a wa) : PEd X τ W (.UnaryOp .USub a pos) (wUn wNeg wa) := PE.imp (pe_un un_neg ha) (l_un ok_neg)
abbrev PETd (X : Cx) (τ : Tb) (W : WX) (e : Expr) (w : WE) : Prop := PET X e (lE X.K τ W w)
abbrev PATd (X : Cx) (τ : Tb) (W : WX) (es : List Expr) (w : WL) : Prop := PAT X es (lL X.K τ W w)
theorem at_nil : PATd X τ W [] wNil := fun pos pins s σ H Q h0 I h => pat_nil pos pins s σ H Q h0 I (l_nil σ H Q h)
theorem at_cons (ha : PETd X τ W e wa) (hr : PATd X τ W es wl) (hs : starEach (e :: es) X.env = (false, eval e X.env) :: starEach es X.env := by rfl) : PATd X τ W (e :: es) (wCons wa wl) := fun pos pins s σ H Q h0 I h => pat_cons ha hr hs pos pins s σ H Q h0 I (l_cons σ H Q h)
theorem a_first (ha : PEd X τ W a wa) (hr : PATd X τ W es wl) (hs : starEach (.BinOp a .Add (.Constant (.str c) j cpos) pos :: es) X.env = (false, eval (.BinOp a .Add (.Constant (.str c) j cpos) pos) X.env) :: starEach es X.env := by rfl) :
    PAd X τ W (.BinOp a .Add (.Constant (.str c) j cpos) pos :: es) (wCons (wOp wAdd wa (wC (.str c))) wl) := by
  have h1 : PE1 X (.BinOp a .Add (.Constant (.str c) j cpos) pos) (lE X.K τ W (wOp wAdd wa (wC (.str c)))) := fun pins s σ H Q I h => by
    have h2 := l_op (K := X.K) (W := W) ok_add σ H Q h
    exact pe1_bin (c := c) or_add (ta := lE X.K τ W wa) ha pins s σ H Q I (lE_mono h2 fun v H' q => l_c (W := W) (fun _ => .str c) σ H' _ q)
  exact PA.imp (pa_cons1 h1 hr hs) l_cons
theorem t_rep (ho : PEd X τ W o wa) (he : PEd X τ W e wb) (hn : (decide (n < -(2 ^ 63 : Int)) || decide (n ≥ 2 ^ 63)) = false := by decide) (hyz : (y == z) = false := by decide) (hbase : attributeBase o "replace" X.env (eval o X.env) = eval o X.env := by rfl)
    (hfew : ((backTo cpos (starEach [.Constant (.str y) j1 c1, .Constant (.str z) j2 c2, .Constant (.int n) j3 c3] X.env)).all (fun x => !x.1) && (backToKw cpos (keywordEach [] X.env)).all (fun x => x.1.isSome)
      && decide ([.Constant (.str y) j1 c1, .Constant (.str z) j2 c2, Expr.Constant (.int n) j3 c3].length + ([] : List Keyword).length + (if ([] : List Keyword).isEmpty then 0 else 1) < 30)) = true := by rfl)
    (hline : (apos.endLine == cpos.line) = true := by rfl) :
    PETd X τ W (.BinOp (.Call (.Attribute o "replace" apos) [.Constant (.str y) j1 c1, .Constant (.str z) j2 c2, .Constant (.int n) j3 c3] [] cpos) .Add e pos) (wOp wAdd (wRepN y z n wa) wb) := fun pins s σ H Q h0 I h =>
  pet_op or_add (ta := lE X.K τ W (wRepN y z n wa)) (fun pins s σ H Q h0 I h => pet_repN ho hn hyz hbase hfew hline pins s σ H Q h0 I (l_repN σ H Q h)) he pins s σ H Q h0 I (l_op ok_add σ H Q h)
theorem passes_none : Passes (L2.CX X.prog X.w) X (fun _ _ _ => False) := fun _ _ _ _ _ _ _ ⟨_, _, _, _, _, _, _, _, _, _, _, _, z⟩ => z.elim
end
end DL
set_option Elab.async false
set_option autoImplicit false
set_option linter.all false
set_option maxRecDepth 100000
set_option maxHeartbeats 3900000
namespace L2
open PySem PySem.Spec PyProof.Rows
/-! ### several clauses `except x as n`: the library's rule for one such clause and its rule for several without a name, in one -/
abbrev Cl1 := Value × Nat × (Addr → Value → Option Addr → TS)
def endsAt (D : Ends) (i : Nat) : Ends := { nx := fun σ' H' => D.nx (σ'.set i none) H', rt := D.rt, bk := fun σ' H' => D.bk (σ'.set i none) H', ct := fun σ' H' => D.ct (σ'.set i none) H' }
def wManyA (K : PySem.W.Frag) (Wout : WX) (D : Ends) : List Cl1 → WX
  | [] => Wout
  | (c, i, ts) :: r => fun cls d σ H => ∃ b, PySem.W.exmOne K cls c = some b ∧ (b = true → ∀ a, H a = none → ts a cls d (endsAt D i) (σ.set i (some (.ref a))) H) ∧ (b = false → wManyA K Wout D r cls d σ H)
inductive HdsA (X : Cx) : List ExceptHandler → List Cl1 → Prop
  | nil : HdsA X [] []
  | cons {x n : Str} {c : Value} {i : Nat} {ts : Addr → Value → Option Addr → TS} {b₀ : Stmt} {suite : List Stmt} {np pos' : Pos} {hds : List ExceptHandler} {l : List Cl1} (hc : Names X x c) (hi : X.N[i]? = some n) (hln : X.env.kindOf n = some .local)
      (hsu : ∀ (a : Addr) (oe : Obj) (cls : Value) (d : Option Addr) (pn : List (Addr × Obj)), Zc cls d oe → (∃ vs, oe.data = .fields vs) → PSs (X.suite a ((a, oe) :: pn)) (b₀ :: suite) (ts a cls d)) (r : HdsA X hds l) :
      HdsA X (.ExceptHandler (some (.Name x np)) (some n) (b₀ :: suite) pos' :: hds) ((c, i, ts) :: l)
section
variable {X : Cx} {body : List Stmt} {h₀ : ExceptHandler} {hds : List ExceptHandler} {l : List Cl1} {pos : Pos} {tb : WX → TS} {Wo : WX}
theorem ps_try_manyA (hs : X.stack = X.env :: X.outer) (hf : X.env.frame = some X.env.locals) (hN : X.N.Nodup) (tk : Takes X Wo)
    (hb : ∀ (W : WX) (pn : List (Addr × Obj)) (xe : Value → Shared → Prop), Takes (X.tr pn xe) W → PassesOwn (model X.prog X.w) X.A X.env xe → PSs (X.tr pn xe) body (tb W)) (hh : HdsA X (h₀ :: hds) l) :
    PS X (.Try body (h₀ :: hds) [] [] pos) (fun D σ H => tb (wManyA X.K Wo D l) D σ H) := by
  constructor; intro pins s σ H D I h
  have ok := I.ok
  have hfr : X.A.frames = some (X.env :: X.outer) := by rw [ok.frames, hs]
  refine wpAny_Try_except (wpAny_mono ((hb (wManyA X.K Wo D l) (X.pn ++ pins) (fun e s₁ => wpAny (model X.prog X.w) X.A (noteFrame e X.env) (fun _ s₂ => wpAny (model X.prog X.w) X.A (setFlight e none) (fun _ s₃ => wpAny (model X.prog X.w) X.A (handleBy e X.env (h₀ :: hds)) (SP X pins D) X.xe s₃) X.xe s₂) X.xe s₁) (fun u s' xx => ?_) PassesOwn.looking).run [] s σ H D (I.toTry _) h) (fun f s1 hsp => ?_) (fun e s1 he => he))
  · obtain ⟨a, B, sI, pins', σ', H', cls, d, rfl, J', nb, up, sky, na, os, ag, wi⟩ := xx
    have J : Inv X pins σ' H' sI := J'.ofTry ok
    have sky' : Sky B (X.env :: X.outer) a (Zc cls d) X.env.locals s'.heap := by rw [← hs]; exact sky
    show wpAny (model X.prog X.w) X.A (noteFrame (.ref a) X.env) _ _ _
    refine Sky.land Zc.steady hfr hf sky' fun h3 fl3 up3 => ?_
    have J3 : Inv X pins σ' H' { s' with heap := h3 } := J.landed nb fl3.1 (up.trans up3) os ag
    obtain ⟨oe3, vs3, he3, hz3, hd3⟩ := fl3.there
    have nfr : a ∉ frs (X.env :: X.outer) := fun hm => by
      obtain ⟨_, o', e', hnf⟩ := fl3.2.2.1.mem hm
      rw [he3] at e'; cases e'; exact hnf _ hd3
    have nL : a ≠ X.env.locals := fun z => nfr (List.mem_filterMap.mpr ⟨X.env, List.mem_cons_self, by rw [hf, z]⟩)
    have nF : a ∉ X.fs := fun hm => by
      obtain ⟨e, he, q⟩ := List.mem_filterMap.mp hm
      exact nfr (List.mem_filterMap.mpr ⟨e, List.mem_cons_of_mem _ he, q⟩)
    have S3 := J3.suite he3 hd3 na nL nF
    have go : ∀ {hds' : List ExceptHandler} {l' : List Cl1}, HdsA X hds' l' → wManyA X.K Wo D l' cls d σ' H' → wpAny (model X.prog X.w) X.A (handleBy (.ref a) X.env hds') (SP X pins D) X.xe { s' with heap := h3 } := by
      intro hds' l' hk
      induction hk with
      | nil =>
        intro wi
        refine wpAny_handleBy_nil ?_
        obtain ⟨k1, k2, k3, oe, vs, T, oT, ts', he, hz, hd, h1, hr⟩ := id fl3
        unfold PySem.passOn
        refine wpAny_bind (wpAny_field he hd h1 ?_)
        rw [if_neg (show ¬ ((Value.ref T == Value.none) = true) from by simp)]
        have fin : wpAny (model X.prog X.w) X.A (setFlight (.ref a) X.env.frame) (fun _ s4 => wpAny (model X.prog X.w) X.A (throw (.ref a) : Sem Flow) (SP X pins D) X.xe s4) X.xe { s' with heap := h3 } := by
          rw [hf]
          refine HandSPX.setFlight_upZ fl3 fun h4 hh4 up4 => wpAny_throw (tk _ _ ?_)
          exact ⟨a, B, sI, pins, σ', H', cls, d, rfl, J, nb, (up.trans up3).trans up4, .inr (.inr (by rw [hs]; exact hh4)), na, os, ag, wi⟩
        first | exact wpAny_bind (wpAny_pure (wpAny_bind fin)) | exact wpAny_bind fin
      | @cons x n c i ts b₀ suite np pos' hds2 l2 hc hi hln hsu r ih =>
        intro wi
        obtain ⟨b, hb1, hyes, hno⟩ := wi
        refine wpAny_handleBy_cons (codeAny_handlers_test ?_) (by intro q; cases q)
        have LT : PySem.W.Looks (model X.prog X.w) h3 (typeOf (.ref a)) cls := fun A Q E s k q => wpAny_typeOf_ref (k _ _ he3) (by rw [hz3.1]; exact q)
        have LM := PySem.W.exm_one (M := model X.prog X.w) (J3.kIn) LT hb1
        have test : ∀ {Q : Value → Shared → Prop} {E : Value → Shared → Prop}, Q c { s' with heap := h3 } → wpAny (model X.prog X.w) (X.A.mark (some (.ref a))) (eval (.Name x np) X.env) Q E { s' with heap := h3 } := fun {Q E} q => by
          obtain ⟨hg, hdbg, hm | ⟨hm, hv, hnn⟩⟩ := hc
          · exact ld_glob (X := X.suite a ((a, oe3) :: (X.pn ++ pins))) S3 hg hm q hdbg
          · exact ld_blt (X := X.suite a ((a, oe3) :: (X.pn ++ pins))) S3 hg hm hv q hnn hdbg
        refine test (LM.here ?_)
        cases b with
        | true =>
          refine codeAny_handlers_suite_as (HandSPX.lands_againZ fl3 fun h4 fl4 up4 => ?_)
          have J4 : Inv X pins σ' H' { s' with heap := h4 } := J.landed nb fl4.1 ((up.trans up3).trans up4) os ag
          obtain ⟨oe4, vs4, he4, hz4, hd4⟩ := fl4.there
          have S4 := J4.suite he4 hd4 na nL nF
          refine store_ok (X := X.suite a ((a, oe4) :: (X.pn ++ pins))) (v := .ref a) S4 hN hi (.inl hln) rfl (fun s5 S5 => ?_) (.inr hln)
          refine wpAny_mono ((hsu a oe4 cls d (X.pn ++ pins) hz4 ⟨_, hd4⟩).run [] s5 _ H' _ S5 (hyes rfl a na)) (fun f s6 hsp => ?_) (fun _ _ z => False.elim z)
          have fin : ∀ {σ6 : St} {H6 : Hp} {Q : Shared → Prop}, Inv (X.suite a ((a, oe4) :: (X.pn ++ pins))) [] σ6 H6 s6 → (∀ s7, Inv X pins (σ6.set i none) H6 s7 → Q s7) → wpAny (model X.prog X.w) X.A (do bindName X.env n .none; unbindBehindTheSuite X.env n pos') (fun _ s7 => Q s7) X.xe s6 := fun {σ6 H6 Q} S6 hq => gone_ok (S6.unsuite ok) hN hi hln hq
          match f, hsp with
          | .next, ⟨σ6, H6, S6, q6⟩ => exact fin S6 fun s7 J7 => ⟨_, _, J7, q6⟩
          | .brk, ⟨σ6, H6, S6, q6⟩ => exact fin S6 fun s7 J7 => ⟨_, _, J7, q6⟩
          | .cont, ⟨σ6, H6, S6, q6⟩ => exact fin S6 fun s7 J7 => ⟨_, _, J7, q6⟩
          | .ret u, ⟨v6, σ6, H6, S6, r6, q6⟩ => exact fin S6 fun s7 J7 => ⟨_, _, _, J7, r6, q6⟩
        | false =>
          show wpAny _ X.A (handleBy (.ref a) X.env hds2) _ _ _
          exact ih (hno rfl)
    exact go hh wi
  · match f, hsp with
    | .next, ⟨σ', H', J', q⟩ => exact wpAny_execs_nil ⟨σ', H', J'.ofTry ok, q⟩
    | .brk, ⟨σ', H', J', q⟩ => exact ⟨σ', H', J'.ofTry ok, q⟩
    | .cont, ⟨σ', H', J', q⟩ => exact ⟨σ', H', J'.ofTry ok, q⟩
    | .ret u, ⟨v, σ', H', J', r, q⟩ => exact ⟨v, σ', H', J'.ofTry ok, r, q⟩
end
end L2
namespace DL
open L2 PyProof.Rows PySem PySem.Spec
variable {τ : Tb}
/-! what the clauses mean for data -/
abbrev Cl2 := Value × Nat × (Addr → Value → Option Addr → WS)
def deAt (Δ : DE) (i : Nat) : DE := { Δ with nx := fun ρ2 => Δ.nx (ρ2.set i .un), bk := fun ρ2 => Δ.bk (ρ2.set i .un), ct := fun ρ2 => Δ.ct (ρ2.set i .un) }
def xcM (K : Fg) (Δ : DE) : List Cl2 → XC
  | [] => Δ.xc
  | (c, i, ws) :: r => fun C f d ρ1 => ∃ b, exmD K C c = some b ∧ (b = true → ∀ a dd, ws a (.ref C) (some dd) (ρ1.set i (.val (.exn (.ref a) dd f d))) (deAt Δ i)) ∧ (b = false → xcM K Δ r C f d ρ1)
def wTryM (K : Fg) (wb : WS) (cl : List Cl2) : WS := fun ρ Δ => wb ρ { Δ with xc := xcM K Δ cl }
def cl1 (K : Fg) (τ : Tb) (W : WX) : List Cl2 → List Cl1
  | [] => []
  | (c, i, ws) :: r => (c, i, fun a cls d => lS K τ W (ws a cls d)) :: cl1 K τ W r
section
variable {K : Fg} {W : WX} {wb : WS} {cl : List Cl2}
theorem l_tryM : ∀ D σ H, lS K τ W (wTryM K wb cl) D σ H → (fun D σ H => lS K τ (wManyA K W D (cl1 K τ W cl)) wb D σ H) D σ H := by
  rintro D σ H ⟨ρ, S, F, Δ, e, hw, hx, h1, h2, h3, h4, h5⟩
  refine ⟨ρ, S, F, _, e, hw, ?_, h1, h2, h3, h4, h5⟩
  suffices go : ∀ l : List Cl2, XOk K τ F (wManyA K W D (cl1 K τ W l)) S (xcM K Δ l) from go cl
  intro l
  induction l with
  | nil => exact hx
  | cons p l ih =>
    obtain ⟨c, i, ws⟩ := p
    intro C f d v dd ρ' S' σ' H' q s' e' hd hv
    obtain ⟨b, hb, yes, no⟩ := q
    refine ⟨b, hb, fun hy a ha => ?_, fun hn => ih C f d v dd ρ' S' σ' H' (no hn) s' e' hd hv⟩
    refine ⟨_, S', F, _, e'.set (v := .ref a) (i := i) (.exn (v := .ref a) hd hv), yes hy a dd, hx.mono s', fun ρ2 S2 σ2 H2 a b c => h1 _ S2 _ H2 a (s'.trans b) (c.unset i), fun d v ρ2 S2 σ2 H2 a b c f => h2 d v ρ2 S2 σ2 H2 a (s'.trans b) c f,
      fun ρ2 S2 σ2 H2 a b c => h3 _ S2 _ H2 a (s'.trans b) (c.unset i), fun ρ2 S2 σ2 H2 a b c => h4 _ S2 _ H2 a (s'.trans b) (c.unset i), fun l od o ρ2 S2 σ2 H2 a b => h5 l od o ρ2 S2 σ2 H2 a (s'.trans b)⟩
inductive HdsD (X : Cx) (τ : Tb) (W : WX) : List ExceptHandler → List Cl2 → Prop
  | nil : HdsD X τ W [] []
  | cons {x n : Str} {c : Value} {i : Nat} {ws : Addr → Value → Option Addr → WS} {b₀ : Stmt} {suite : List Stmt} {np pos' : Pos} {hds : List ExceptHandler} {l : List Cl2} (hc : Names X x c)
      (hsu : ∀ (a : Addr) (oe : Obj) (cls : Value) (d : Option Addr) (pn : List (Addr × Obj)), Zc cls d oe → (∃ vs, oe.data = .fields vs) → PSs (X.suite a ((a, oe) :: pn)) (b₀ :: suite) (lS X.K τ W (ws a cls d))) (r : HdsD X τ W hds l)
      (hi : X.N[i]? = some n := by rfl) (hln : X.env.kindOf n = some .local := by rfl) :
      HdsD X τ W (.ExceptHandler (some (.Name x np)) (some n) (b₀ :: suite) pos' :: hds) ((c, i, ws) :: l)
theorem HdsD.hds {X : Cx} {W : WX} : ∀ {hds : List ExceptHandler} {l : List Cl2}, HdsD X τ W hds l → HdsA X hds (cl1 X.K τ W l)
  | _, _, .nil => .nil
  | _, _, .cons hc hsu r hi hln => .cons hc hi hln hsu r.hds
theorem s_tryM {X : Cx} {W : WX} {k : Nat} {body : List Stmt} {h₀ : ExceptHandler} {hds : List ExceptHandler} {cl : List Cl2} {pos : Pos} {wb : WS} (hN : X.N.Nodup) (o : Cok X W k)
    (hb : ∀ (W' : WX) (pn : List (Addr × Obj)) (xe : Value → Shared → Prop), Cok (X.tr pn xe) W' k → PassesOwn (model X.prog X.w) X.A X.env xe → PSs (X.tr pn xe) body (lS X.K τ W' wb)) (hh : HdsD X τ W (h₀ :: hds) cl)
    (hs : X.stack = X.env :: X.outer := by rfl) (hf : X.env.frame = some X.env.locals := by rfl) : PS X (.Try body (h₀ :: hds) [] [] pos) (lS X.K τ W (wTryM X.K wb cl)) :=
  PS.imp (ps_try_manyA (tb := fun W' => lS X.K τ W' wb) hs hf hN o.tk (fun W' pn xe tk hp => hb W' pn xe (o.tr pn xe tk) hp) hh.hds) l_tryM
end
end DL
set_option Elab.async false
set_option autoImplicit false
set_option linter.all false
set_option maxRecDepth 100000
set_option maxHeartbeats 3900000
namespace DL
open L2 LamX PyProof.Rows PySem PySem.Spec
variable {τ : Tb}
/-! ### a lambda without parameters, handed to a def -/
section
variable {X : Cx} {pins : List (Addr × Obj)} {σ : L2.St} {H : Hp} {s : Shared}
/-- the library's making of a lambda, with one word more: all but the table stays -/
theorem lam_mk {T : List (Addr × Str)} {c P : Addr} {params : Arguments} {body : Expr} {scope : Scope} {pos : Pos} {E Q : Value → Shared → Prop} (I : Inv X pins σ H s) (TB : TabB X.base X.mg c P) (hc0 : X.env.code = .ref c)
    (hm : (P, X.env.qual ++ "<lambda>") ∈ T) (hu : ∀ p ∈ T, p.1 = P → p.2 = X.env.qual ++ "<lambda>") (hT : Tabs T H) (hd : defaultsOf params X.env = ([], [])) (hf : ∀ y ∈ scope.names, y.2 = .free → ∃ c, X.env.cells.lookup y.1 = some c)
    (h : ∀ (f c' : Addr) (pm ctv : Value) (H1 : Hp) (s' : Shared), Inv X pins σ H1 s' → (∀ b o, b ≠ P → H b = some o → H1 b = some o) → Tabs T H1 →
      s'.heap.get? f = some (PySem.W.kla_obj "<lambda>" (X.env.qual ++ "<lambda>") params body scope (cloFrom X.env.cells scope.names []) pm c' ctv) → H1 f = none → f ∉ frs X.stack → H1 c' = some (CodeO c' (X.env.qual ++ "<lambda>")) → Q (.ref f) s') :
    wpAny (model X.prog X.w) X.A (eval (.Lambda params body scope pos) X.env) Q E s := by
  obtain ⟨ps, hP, ht, ha⟩ := hT _ hm
  have bP : s.heap.BuiltinsAt X.mg P := TB.bm.keeps I.bk
  have hP' : s.heap.get? P = some { cls := .none, data := .fields ps } := I.hok P _ hP
  have nofr : ∀ f, s.heap.objs.size ≤ f → f ∉ frs X.stack := fun f hf z => (List.mem_cons.mp (I.stkSub _ z)).elim (fun e => absurd I.lt (by rw [← e]; exact Nat.not_lt.mpr hf)) fun e => I.nofs hf e
  refine PySem.W.kla_eval hd ?_
  cases hc : codeAmong pos ps.toList with
  | none =>
    refine PySem.W.kla_makeFunction (mg := X.mg) (c := c) (P := P) (ps := ps) (closure_ok hf) I.ok.glob (I.mod.glob.keeps I.bk) hc0 (TB.code.keeps I.bk) hP' ht hc TB.gP bP fun c' ctv h' tk hx hge hlt hrec htb => ?_
    obtain ⟨c2, oc, vs, t, e2, hoc, hd, hv⟩ := hrec
    cases e2
    have hsz : s.heap.objs.size ≤ h'.objs.size := Nat.le_trans hge (Nat.le_of_lt hlt)
    have nC : H c' = none := I.hok.fresh hge
    have I1 := inv_table (t' := tk) (more := #[rawInt pos.line, rawInt pos.col, .ref c']) (h' := h'.push (PySem.W.kla_obj "<lambda>" (X.env.qual ++ "<lambda>") params body scope (cloFrom X.env.cells scope.names []) ((X.mg "__name__").getD .none) c' ctv)) I hP
      (fun b o hb e => Heap.get?_push_of_some _ (hx b o hb e)) (Heap.get?_push_of_some _ htb) hge ⟨oc, vs, t, Heap.get?_push_of_some _ hoc, hd, hv⟩
    have keep : ∀ b o, b ≠ P → H b = some o → upd (upd H P (.tbl (ps ++ #[rawInt pos.line, rawInt pos.col, .ref c']))) c' (CodeO c' (X.env.qual ++ "<lambda>")) b = some o := fun b o n e => by rw [upd_ne (ne_of_none e nC), upd_ne n]; exact e
    have eL : (ps ++ #[rawInt pos.line, rawInt pos.col, .ref c']).toList = ps.toList ++ [rawInt pos.line, rawInt pos.col, .ref c'] := by simp
    have cP : ∀ {c0 q}, H c0 = some (CodeO c0 q) → c0 ≠ P := fun {c0 q} e z => by rw [z, hP] at e; exact codeO_ne _ (Option.some.inj e).symm
    refine h h'.objs.size c' ((X.mg "__name__").getD .none) ctv _ _ I1 keep (fun p hp => ?_) (Heap.get?_push_size _ rfl) ?_ (nofr _ hsz) upd_same
    · by_cases hb : p.1 = P
      · rw [hu p hp hb, hb]
        refine ⟨_, by rw [upd_ne (ne_of_none hP nC), upd_same], by rw [eL]; exact PySem.TriplesOk_snoc _ _ _ _ ht, fun p' cv hcv => ?_⟩
        rw [eL] at hcv
        rcases among_app _ ht hcv with z | z
        · obtain ⟨c0, e1, e2⟩ := ha p' cv z; exact ⟨c0, e1, keep _ _ (cP e2) e2⟩
        · exact ⟨c', z, upd_same⟩
      · obtain ⟨ps', a1, a2, a3⟩ := hT p hp
        refine ⟨ps', by rw [upd_ne (ne_of_none a1 nC), upd_ne hb]; exact a1, a2, fun p' cv hcv => ?_⟩
        obtain ⟨c0, e1, e2⟩ := a3 p' cv hcv; exact ⟨c0, e1, keep _ _ (cP e2) e2⟩
    · rw [upd_ne (Nat.ne_of_gt hlt), upd_ne (Nat.ne_of_gt (Nat.lt_of_lt_of_le (Heap.lt_size hP') hsz))]; exact I.hok.fresh hsz
  | some cv =>
    obtain ⟨c', e, hco⟩ := ha pos cv hc
    subst e
    refine PySem.W.kla_makeFunctionHit (mg := X.mg) (c := c) (P := P) (ps := ps) (closure_ok hf) I.ok.glob (I.mod.glob.keeps I.bk) hc0 (TB.code.keeps I.bk) hP' ht hc bP fun ctv h' tk hx hsz => ?_
    have I1 : Inv X pins σ H { s with heap := h'.push (PySem.W.kla_obj "<lambda>" (X.env.qual ++ "<lambda>") params body scope (cloFrom X.env.cells scope.names []) ((X.mg "__name__").getD .none) c' ctv), toks := tk } := I.kept fun b o e => Heap.get?_push_of_some _ (hx b o e)
    exact h h'.objs.size c' ((X.mg "__name__").getD .none) ctv H _ I1 (fun _ _ _ e => e) hT (Heap.get?_push_size _ rfl) (I.hok.fresh hsz) (nofr _ hsz) hco
/-- where a lambda's body runs -/
theorem lam_cok {A : Around} {outer : List Env} {E : XK} {scope : Scope} {f c' : Addr} {k : Nat} (hg : A.guards = some []) (hr : Room k (A.deeper (lamEnv X scope s.heap.objs.size f c'))) : Cok (lamCx X A outer s H E scope f c') (wishOf E) k := ⟨takes_of rfl rfl rfl rfl, hg, hr⟩
/-- x(), in the def that got the lambda -/
theorem lam_act {Eg : XK} {Ng : List Str} {qg : Str} {sg : Scope} {g f c' : Addr} {cdg pm ctv : Value} {params : Arguments} {body : Expr} {scope : Scope} {k : Nat} {a : Str} {pn : List (Addr × Obj)} {xe : Value → Shared → Prop} {W : WX} {tb : XK → TE} {p1 p2 : Pos}
    (I : Inv X pins σ H s) (L : LamS X.env.scope scope) (hf : s.heap.get? f = some (PySem.W.kla_obj "<lambda>" (X.env.qual ++ "<lambda>") params body scope (cloFrom X.env.cells scope.names []) pm c' ctv)) (hfn : H f = none) (hfr : f ∉ frs X.stack)
    (hbind : bindArgs (PySem.W.kla_fn "<lambda>" (X.env.qual ++ "<lambda>") params body scope (cloFrom X.env.cells scope.names []) pm (.ref c') ctv) ⟨[], []⟩ = pure []) (gd : X.A.guards = some [])
    (tk : Takes ((cxOf (L2.CX X.prog X.w) X.prog X.w X.K X.mg X.base Ng qg sg g cdg X.A X.stack s H Eg).tr pn xe) W) (hr : Room (k + 1) (X.A.deeper (envOfC qg sg s.heap.objs.size g cdg)))
    (hbody : ∀ (A : Around) (outer : List Env) (s : Shared) (H : Hp) (E : XK), A.guards = some [] → Room k (A.deeper (lamEnv X scope s.heap.objs.size f c')) → PE (lamCx X A outer s H E scope f c') body (tb E))
    (hN : Ng[0]? = some a) (hv : Vis sg a) (hd : (a == ("__debug__" : Str)) = false := by decide) (hcd : (a == ("__classdict__" : Str)) = false := by decide) :
    PE ((cxOf (L2.CX X.prog X.w) X.prog X.w X.K X.mg X.base Ng qg sg g cdg X.A X.stack s H Eg).tr pn xe) (.Call (.Name a p1) [] [] p2)
      (fun σZ HZ Q => σZ[0]? = some (some (.ref f)) ∧ HZ c' = some (CodeO c' (X.env.qual ++ "<lambda>")) ∧ tb (fun cls d H' => W cls d σZ H') σ HZ Q) := by
  constructor; intro pZ sZ σZ HZ Q IZ h
  obtain ⟨hs, hc, ht⟩ := h
  refine wpAny_Call_Name_kw (thn ((pe_var (pos := p1) (i := 0) hN hv hd hcd).run pZ sZ σZ HZ (fun v H1 => v = .ref f ∧ H1 = HZ) IZ ⟨.ref f, hs, rfl, rfl⟩) fun u s1 ⟨v, H1, I1, r1, ev, eH⟩ => ?_)
  subst ev; rw [eH] at I1
  obtain rfl : u = Value.ref f := r1
  have of1 : s1.heap.get? f = some (PySem.W.kla_obj "<lambda>" (X.env.qual ++ "<lambda>") params body scope (cloFrom X.env.cells scope.names []) pm c' ctv) := I1.base.keep f _ hf hfn hfr (fun z => nomatch (show f ∈ ([] : List Addr) from z))
  refine PySem.W.callWith_F0 ⟨_, _, _, _, of1⟩ ?_
  have un : Un (frs X.stack) [] H HZ s.heap s1.heap := I1.base
  obtain ⟨⟨oc, vs, t, hoc, hdc, hvc⟩, _, _⟩ := I1.hok c' _ hc
  have rc : codeAny (model X.prog X.w) (X.A.deeper (envOfC qg sg s.heap.objs.size g cdg)) (.call (.ref f) ⟨[], []⟩) (CR (L2.CX X.prog X.w) (envOfC qg sg s.heap.objs.size g cdg :: X.stack) X.prog X.w HZ s1 Q fun cls d H' => W cls d σZ H') s1 := by
    refine PySem.W.kla_callFunE hr.depth of1 rfl L.co L.gen rfl ⟨c', oc, vs, t, rfl, hoc, hdc, hvc⟩ ?_
    rw [hbind]
    refine wpAny_pure (wpAny_newFunctionEnv (fun y hy => (L.own y hy).2) (fun y hy => absurd hy (by simp)) (fun h₁ hns hsb => ⟨I1.nolimit.fresh _ hsb, ?_⟩) L.kind)
    show codeAny _ _ (.expr body (lamEnv X scope s1.heap.objs.size f c')) _ _
    have kp : ∀ b o, s1.heap.get? b = some o → h₁.get? b = some o := fun b o e => hsb.extBut b o (Nat.ne_of_lt (Heap.lt_size e)) (Heap.get?_push_of_some _ e)
    have J : Inv (lamCx X (X.A.deeper (envOfC qg sg s.heap.objs.size g cdg)) (envOfC qg sg s.heap.objs.size g cdg :: X.stack) s1 HZ (fun cls d H' => W cls d σZ H') scope f c') [] σ HZ { s1 with heap := h₁, toks := s1.toks + ([] : List (Str × Value)).length } :=
      lam_start2 I L I1.env0 hr.hd un hns kp
    refine PySem.W.kla_codeExpr (wpAny_mono ((hbody (X.A.deeper (envOfC qg sg s.heap.objs.size g cdg)) (envOfC qg sg s.heap.objs.size g cdg :: X.stack) s1 HZ _ gd (hr.deeper _)).run [] _ _ HZ Q J ht) (fun v s' hq => ?_) fun e s' hq => hq)
    obtain ⟨w', H', J', rv, q⟩ := hq
    exact ⟨w', H', J'.os, J'.bare, J'.base, J'.hok, rv, q⟩
  refine wpAny_call (codeAny_mono rc fun r s' hq => ?_)
  match r, hq with
  | .error e, hq => exact tk e s' (XE.of_call I1 (fun cls d H' h => h) hq)
  | .ok (.ret u), hq => exact I1.after hq
  | .ok .next, hq => exact hq.elim
  | .ok .brk, hq => exact hq.elim
  | .ok .cont, hq => exact hq.elim
end
end DL
set_option Elab.async false
set_option autoImplicit false
set_option linter.all false
set_option maxRecDepth 100000
set_option maxHeartbeats 3900000
namespace DL
open L2 LamX PyProof.Rows PySem PySem.Spec
variable {τ : Tb}
/-- what is one's own is not looked at -/
def hideR (ρ : Rho) : Rho := ρ.map fun s => match s with
  | .own _ _ => .un
  | s => s
theorem hideR_val {ρ : Rho} {i : Nat} {d : D} (h : (hideR ρ)[i]? = some (Sl.val d)) : ρ[i]? = some (Sl.val d) := by
  unfold hideR at h
  rw [List.getElem?_map] at h
  cases e : ρ[i]? with
  | none => rw [e] at h; cases h
  | some s => rw [e] at h; cases s <;> first | exact h | cases h
theorem hideR_own {ρ : Rho} {i : Nat} {l : Addr} {od : OD} : (hideR ρ)[i]? ≠ some (Sl.own l od) := fun h => by
  unfold hideR at h
  rw [List.getElem?_map] at h
  cases e : ρ[i]? with
  | none => rw [e] at h; cases h
  | some s => rw [e] at h; cases s <;> cases h
section
variable {K : Fg} {S F H : Hp} {ρ : Rho} {σ : L2.St}
/-- a later heap in which all that never changes is there still -/
theorem ER.hide {S' H' : Hp} {τ' : Tb} {F' : Hp} (e : ER K τ S F H ρ σ) (s : Same S S') (ex : Same S' H') (t : TbOk τ' S' F' H') : ER K (tb0 τ'.t) S' (others τ'.t S' H' fun _ => False) H' (hideR ρ) σ := by
  refine ⟨by unfold hideR; rw [List.length_map]; exact e.len, ex, fun a o h => ?_, fun i d h => ?_, fun i l od h => absurd h hideR_own, fun i j l o o' h _ => absurd h hideR_own, t.oth⟩
  · obtain ⟨_, a1, a2⟩ := others_inv h; exact ⟨a2, .inl a1⟩
  · obtain ⟨v, h1, h2⟩ := e.val i d (hideR_val h); exact ⟨v, h1, h2.mono s⟩
/-- a table has grown -/
theorem ER.tabs {H1 : Hp} {P : Addr} {q : Str} (e : ER K τ S F H ρ σ) (hm : (P, q) ∈ τ.t) (k : ∀ b o, b ≠ P → H b = some o → H1 b = some o) (T1 : Tabs τ.t H1) : ER K τ S F H1 ρ σ := by
  refine ⟨e.len, fun b u h => k b u (fun z => ?_) (e.ex b u h), fun b u h => ?_, e.val, fun i l od h => ?_, e.dis, ⟨T1, e.tb.nS, e.tb.nF, e.tb.ks, e.tb.kf⟩⟩
  · rw [z, e.tb.nS _ hm] at h; cases h
  · obtain ⟨a1, a2⟩ := e.fr b u h
    exact ⟨k b u (fun z => by rw [z, e.tb.nF _ hm] at h; cases h) a1, a2⟩
  · have nl := e.nTb h
    obtain ⟨a1, a2, a3, o, a4, a5⟩ := e.own i l od h
    exact ⟨a1, a2, a3, o, k l o (fun z => nl (z ▸ List.mem_map.mpr ⟨_, hm, rfl⟩)) a4, a5⟩
end
def wAsk (f : Addr) (tl : (D → Prop) → (Addr → Str → D → Prop) → Prop) : WE := fun ρ χ Φ => ρ[0]? = some (.val (.raw (.ref f))) ∧ tl (fun d => Φ d ρ) fun C fl d => χ C fl d ρ
def wLam (xb : WE → WS) (n : Nat) (wb : WE) : WE := fun ρ χ Φ => ∀ f : Addr, xb (wAsk f fun Ψ Ξ => wb (hideR ρ) (fun C fl d _ => Ξ C fl d) fun d _ => Ψ d) (.val (.raw (.ref f)) :: List.replicate n .un)
  { nx := fun _ => Φ .non ρ, rt := fun d _ => Φ d ρ, bk := fun _ => False, ct := fun _ => False, xc := fun C fl d _ => χ C fl d ρ }
noncomputable abbrev tbL (τ : Tb) (S H : Hp) : Tb := ⟨τ.t, S, others τ.t S H fun _ => False⟩
theorem l_ask {K : Fg} {S F H1 : Hp} {ρ : Rho} {σ : L2.St} {f c' : Addr} {q : Str} {wb : WE} {W' : WX} (e1 : ER K τ S F H1 ρ σ) (hco : H1 c' = some (CodeO c' q)) (σZ : L2.St) (HZ : Hp) (Q : VK)
    (h : lE K (tbL τ S H1) W' (wAsk f fun Ψ Ξ => wb (hideR ρ) (fun C fl d _ => Ξ C fl d) fun d _ => Ψ d) σZ HZ Q) :
    σZ[0]? = some (some (.ref f)) ∧ HZ c' = some (CodeO c' q) ∧ lE K (tb0 τ.t) (wishOf fun cls d H' => W' cls d σZ H') wb σ HZ Q := by
  obtain ⟨ρz, Sz, Fz, χz, Φz, ez, ⟨h0, hw⟩, hxz, hpz⟩ := h
  have sS : Same S Sz := fun a o h => ez.tb.ks a o h
  refine ⟨?_, ?_, hideR ρ, Sz, others τ.t Sz HZ (fun _ => False), _, _, e1.hide (τ' := tbL τ S H1) sS ez.ex ez.tb, hw, fun C fl d v dd ρ' S' σ' H' hq s' er hd iv => ?_, fun v d ρ' S' H' hq s' iv er => ?_⟩
  · obtain ⟨v, a1, a2⟩ := ez.val 0 _ h0
    cases a2; exact a1
  · cases hS : S c' with
    | some u =>
      have z := e1.ex c' u hS
      rw [hco] at z
      rw [← Option.some.inj z] at hS
      exact ez.ex _ _ (sS _ _ hS)
    | none =>
      have nt : c' ∉ τ.t.map (·.1) := fun z => by
        obtain ⟨p, hp, rfl⟩ := List.mem_map.mp z
        obtain ⟨ps, h6⟩ := e1.tb.at hp
        rw [hco] at h6; exact codeO_ne ps (Option.some.inj h6)
      exact (ez.fr _ _ (ez.tb.kf c' _ (others_of (p := fun _ => False) nt (fun z => z) hS hco))).1
  · exact hxz C fl d v dd ρz S' σZ H' hq s' (ez.back s' er.ex er.tb.tab er.tb.nS (fun a o n a1 a2 => others_of n (fun z => z) a1 a2) er.fr) hd iv
  · exact hpz v d ρz S' H' hq s' iv (ez.back s' er.ex er.tb.tab er.tb.nS (fun a o n a1 a2 => others_of n (fun z => z) a1 a2) er.fr)
theorem e_lam {tt : List (Addr × Str)} {X : Cx} {W : WX} {x a : Str} {g c P : Addr} {gfd : FuncData} {pg : Arguments} {bg : List Stmt} {sg : Scope} {Ng : List Str} {k n : Nat} {xb : WE → WS} {wb : WE} {params : Arguments} {body : Expr} {scope : Scope} {p lpos pos : Pos}
    (o : Cok X W (k + 2)) (FD : FunD X.K x x pg bg sg [] [] g gfd) (Sg : FnScope Ng [a] sg) (U : Dn X.K X.mg x g gfd [a] 1) (TB : TabB X.base X.mg c P) (hc0 : X.env.code = .ref c) (hm : (P, X.env.qual ++ "<lambda>") ∈ tt) (hu : ∀ p ∈ tt, p.1 = P → p.2 = X.env.qual ++ "<lambda>")
    (L : LamS X.env.scope scope)
    (hcal : ∀ (cdv : Value) (s : Shared) (H : Hp) (E : XK) (τ' : Tb) (wa : WE), τ'.t = tt → Cok (cxOf (L2.CX X.prog X.w) X.prog X.w X.K X.mg X.base Ng x sg g cdv X.A X.stack s H E) (wishOf E) (k + 1) →
      (∀ (W' : WX) (pn : List (Addr × Obj)) (xe : Value → Shared → Prop) (p1 p2 : Pos), Takes ((cxOf (L2.CX X.prog X.w) X.prog X.w X.K X.mg X.base Ng x sg g cdv X.A X.stack s H E).tr pn xe) W' →
        PE ((cxOf (L2.CX X.prog X.w) X.prog X.w X.K X.mg X.base Ng x sg g cdv X.A X.stack s H E).tr pn xe) (.Call (.Name a p1) [] [] p2) (lE X.K τ' W' wa)) →
      PSs (cxOf (L2.CX X.prog X.w) X.prog X.w X.K X.mg X.base Ng x sg g cdv X.A X.stack s H E) bg (lS X.K τ' (wishOf E) (xb wa)))
    (hbody : ∀ (A : Around) (outer : List Env) (s : Shared) (H : Hp) (E : XK) (f c' : Addr), Cok (lamCx X A outer s H E scope f c') (wishOf E) k → PE (lamCx X A outer s H E scope f c') body (lE X.K (tb0 tt) (wishOf E) wb))
    (hNg : Ng[0]? = some a := by rfl) (hn : Ng.length = n + 1 := by rfl) (hva : Vis sg a := by first | exact .inl rfl | exact .inr (.inl rfl) | exact .inr (.inr rfl)) (hg : Gl X x := by rfl) (hd : defaultsOf params X.env = ([], []) := by rfl)
    (hbind : ∀ (q : Str) (cl : List (Str × Addr)) (pm cv ctv : Value), bindArgs (PySem.W.kla_fn "<lambda>" q params body scope cl pm cv ctv) ⟨[], []⟩ = pure [] := by intros; rfl)
    (hdb : (x == ("__debug__" : Str)) = false := by decide) (hd2 : (a == ("__debug__" : Str)) = false := by decide) (hcd2 : (a == ("__classdict__" : Str)) = false := by decide) (ht : τ.t = tt := by rfl) :
    PEd X τ W (.Call (.Name x p) [.Lambda params body scope lpos] [] pos) (wLam xb n wb) := by
  subst ht
  constructor; rintro pins s σ H Q I ⟨ρ, S, F, χ, Φ, e, hw, hx, hp⟩
  obtain ⟨_, _, dV, kV, doc, pm, an, cdv, ct, _, rfl, lk, hcd, _, _⟩ := FD.ex
  refine wpAny_Call_Name_kw (ld_glob I hg U.m ?_ hdb)
  refine PySem.W.callWith_K (h₀ := X.base) I.ok.mod.kin U.kp ?_ (by rfl) (by rfl)
  show wpAny _ _ (spliced ((false, eval (.Lambda params body scope lpos) X.env) :: backTo pos (starEach [] X.env))) _ _ s
  refine Calls.spliced_cons (lam_mk I TB hc0 hm hu e.tb.tab hd (L.has I.ok) fun f c' pm' ctv H1 s' I1 kp T1 hf hfn hfr hco => ?_)
  refine Calls.spliced_nil ⟨I1.kIn, ?_⟩
  have e1 : ER X.K τ S F H1 ρ σ := e.tabs hm kp T1
  have bt := U.kb.to s' [Value.ref f] [] I1.kIn rfl rfl
  have rc : codeAny (model X.prog X.w) X.A (.call (.ref g) ⟨[.ref f], []⟩) (CR (L2.CX X.prog X.w) X.stack X.prog X.w H1 s' Q fun cls d H' => W cls d σ H') s' := by
    refine run_ofS (N := Ng) (ps := [a]) (us := [.ref f]) (vs := [.ref f]) lk hcd Sg o.rm I1.env0 bt (.cons rfl .nil) rfl fun hr' => ?_
    refine ⟨_, hcal cdv s' H1 (fun cls d H' => W cls d σ H') (tbL τ S H1) (wAsk f fun Ψ Ξ => wb (hideR ρ) (fun C fl d _ => Ξ C fl d) fun d _ => Ψ d) rfl ⟨takes_of rfl rfl rfl rfl, o.gd, hr'⟩ (fun W' pn xe p1 p2 tk => ?_), ?_⟩
    · exact PE.imp (lam_act (tb := fun E => lE X.K (tb0 τ.t) (wishOf E) wb) I1 L hf hfn hfr (hbind _ _ _ _ _) o.gd tk hr' (fun A outer s H E hg hr => hbody A outer s H E f c' (lam_cok hg hr)) hNg hva hd2 hcd2) fun σZ HZ Q' h' => l_ask e1 hco σZ HZ Q' h'
    · have tbc : TbOk (tbL τ S H1) S (others τ.t S H1 fun _ => False) H1 := ⟨e1.tb.tab, e1.tb.nS, (fun _ h => others_tb h), (fun _ _ z => z), fun _ _ z => z⟩
      have er := er_more (er_args (K := X.K) (τ := tbL τ S H1) (vs := [V.ref f]) (ds := [.raw (.ref f)]) (.cons (.raw _) .nil) e1.ex tbc fun a o h => by obtain ⟨_, a1, a2⟩ := others_inv h; exact ⟨a2, .inl a1⟩) n
      have es : L2.start Ng [V.ref f] = [V.ref f].map some ++ List.replicate n none := by unfold L2.start; rw [hn]; rfl
      rw [es]
      have bk : ∀ {ρ' : Rho} {S' H' : Hp} {σ' : L2.St}, Same S S' → ER X.K (tbL τ S H1) S' (others τ.t S H1 fun _ => False) H' ρ' σ' → ER X.K τ S' F H' ρ σ := fun {ρ' S' H' σ'} s' e' => e1.back s' e'.ex e'.tb.tab e'.tb.nS (fun a o n a1 a2 => others_of n (fun z => z) a1 a2) e'.fr
      refine ⟨_, S, _, _, er, hw f, fun C fl d v dd ρ' S' σ' H' q s' e' hd iv => hx C fl d v dd ρ S' σ H' q s' (bk s' e') hd iv, fun ρ' S' σ' H' q s' e' => hp .non .non ρ S' H' q s' .non (bk s' e'), fun d v ρ' S' σ' H' q s' iv e' => hp v d ρ S' H' q s' iv (bk s' e'), fun _ _ _ _ q => q.elim, fun _ _ _ _ q => q.elim, fun _ _ _ _ _ _ _ q => q.elim⟩
  refine wpAny_call (codeAny_mono rc fun r s2 hq => ?_)
  match r, hq with
  | .error er, hq => exact o.tk er s2 (XE.of_call I1 (fun cls d H' h => h) hq)
  | .ok (.ret u), hq => exact I1.after hq
  | .ok .next, hq => exact hq.elim
  | .ok .brk, hq => exact hq.elim
  | .ok .cont, hq => exact hq.elim
end DL
set_option Elab.async false
set_option autoImplicit false
set_option linter.all false
set_option maxRecDepth 100000
set_option maxHeartbeats 3900000
namespace DL
open L2 PyProof.Rows PySem PySem.Spec
variable {τ : Tb}
/-! ### while, name op= e -/
def wWhile (wt : WT) (wb : WS) : WS := fun ρ Δ => ∃ I : Nat → Rho → Prop, (∃ m, I m ρ) ∧ ∀ m ρ, I m ρ → wt ρ Δ.xc fun b ρ1 => if b = true then wb ρ1 { Δ with nx := fun ρ' => ∃ m', m' < m ∧ I m' ρ', ct := fun ρ' => ∃ m', m' < m ∧ I m' ρ', bk := Δ.nx } else Δ.nx ρ1
theorem l_while {K : Fg} {W : WX} {wt : WT} {wb : WS} : ∀ D σ H, lS K τ W (wWhile wt wb) D σ H → tWhile (lT K τ W wt) (lS K τ W wb) D σ H := by
  rintro D σ H ⟨ρ, S, F, Δ, e, ⟨I, ⟨m0, i0⟩, tn⟩, hx, h1, h2, h3, h4, h5⟩
  refine ⟨fun m σ' H' => ∃ ρ' S', Same S S' ∧ ER K τ S' F H' ρ' σ' ∧ I m ρ', ⟨m0, ρ, S, Same.refl S, e, i0⟩, ?_⟩
  rintro m σ' H' ⟨ρ', S', s', e', im⟩
  refine ⟨ρ', S', F, _, _, e', tn m ρ' im, hx.mono s', fun b ρ1 S1 H1 q s1 e1 => ?_⟩
  have t1 : Same S S1 := s'.trans s1
  cases b with
  | false => exact h1 ρ1 S1 _ H1 q t1 e1
  | true =>
    refine ⟨fun σ2 H2 => ∃ ρ2 S2, Same S S2 ∧ ER K τ S2 F H2 ρ2 σ2 ∧ ∃ m', m' < m ∧ I m' ρ2, fun σ2 H2 ⟨ρ2, S2, s2, e2, m', hm, i2⟩ => ⟨m', hm, ρ2, S2, s2, e2, i2⟩, ?_⟩
    exact ⟨ρ1, S1, F, _, e1, q, hx.mono t1, fun ρ4 S4 σ4 H4 a b c => ⟨ρ4, S4, t1.trans b, c, a⟩, fun d v ρ4 S4 σ4 H4 a b c f => h2 d v ρ4 S4 σ4 H4 a (t1.trans b) c f,
      fun ρ4 S4 σ4 H4 a b c => h1 ρ4 S4 σ4 H4 a (t1.trans b) c, fun ρ4 S4 σ4 H4 a b c => ⟨ρ4, S4, t1.trans b, c, a⟩, fun l od o ρ4 S4 σ4 H4 a b => h5 l od o ρ4 S4 σ4 H4 a (t1.trans b)⟩
def wAug (f : Int → Int → Int) (i : Nat) (wa : WE) : WS := fun ρ Δ => ∃ a, ρ[i]? = some (Sl.val (.int a)) ∧ wa ρ Δ.xc fun y ρ1 => match y with
  | .int b => Δ.nx (ρ1.set i (.val (.int (f a b))))
  | _ => False
theorem l_aug {K : Fg} {W : WX} {f : Int → Int → Int} {i : Nat} {wa : WE} : ∀ D σ H, lS K τ W (wAug f i wa) D σ H → tAug i (lE K τ W wa) (ipI f) D σ H := by
  rintro D σ H ⟨ρ, S, F, Δ, e, ⟨a, ha, hw⟩, hx, h1, -⟩
  obtain ⟨v, hv, iv⟩ := e.val i _ ha
  cases iv
  refine ⟨_, hv, ρ, S, F, _, _, e, hw, hx, fun y d ρ1 S1 H1 q s1 i1 e1 => ?_⟩
  cases d with
  | int b => cases i1; exact ⟨a, b, rfl, rfl, h1 _ S1 _ H1 q s1 (e1.set (.int _))⟩
  | _ => exact False.elim q
/-! ### reversed(x), x a list or a tuple -/
def wiRev (wa : WE) : WL := fun ρ χ Φ => wa ρ χ fun d ρ1 => match d with
  | .lst ds => Φ ds.reverse ρ1
  | .tup ds => Φ ds.reverse ρ1
  | _ => False
theorem rev_at {α : Type} {xs : List α} {i : Nat} (h : i < xs.length) : xs.reverse[i]? = xs[xs.length - 1 - i]? := List.getElem?_reverse h
theorem dwk_rvL {K : Fg} {S : Hp} {a : Addr} {vs : List V} {ds : List D} (h : S a = some (.lst vs)) (hi : IsAll K S vs ds) : DWk K τ S (Itv K a vs.length) ds.reverse := by
  have hl := hi.length
  have hq : ∀ {H}, Same S H → SqL K H a vs := fun s => .inl (.inl (s _ _ h))
  refine ⟨fun i H h1 s => ?_, fun H s => by rw [List.length_reverse, ← hl]; exact Nat.le_refl _, fun i H x H' h1 s y => ?_⟩
  · rw [List.length_reverse] at h1
    have hlt : vs.length - 1 - i < vs.length := by omega
    exact ⟨by omega, vs, vs[vs.length - 1 - i], hq s, by simp [hlt]⟩
  · rw [List.length_reverse] at h1
    obtain ⟨rfl, y⟩ := y
    have hx := y vs (hq s)
    have hlt : vs.length - 1 - i < ds.length := by omega
    obtain ⟨v, q1, q2⟩ := hi.get (i := vs.length - 1 - i) (d := ds[vs.length - 1 - i]) (by simp [hlt])
    rw [q1] at hx; cases hx
    exact ⟨_, by rw [rev_at h1, ← hl]; simp [hlt], fun S1 F ρ σ s1 e => ⟨S1, Same.refl S1, q2.mono s1, e⟩⟩
theorem dwk_rvTQ {K : Fg} {S : Hp} {a : Addr} {vs : List V} {ds : List D} (h : ∀ H, Same S H → SqT K H a vs) (hi : IsAll K S vs ds) : DWk K τ S (RT.ItvT K a vs.length) ds.reverse := by
  have hl := hi.length
  have hq : ∀ {H}, Same S H → SqT K H a vs := fun s => h _ s
  refine ⟨fun i H h1 s => ?_, fun H s => by rw [List.length_reverse, ← hl]; exact Nat.le_refl _, fun i H x H' h1 s y => ?_⟩
  · rw [List.length_reverse] at h1
    have hlt : vs.length - 1 - i < vs.length := by omega
    exact ⟨by omega, vs, vs[vs.length - 1 - i], hq s, by simp [hlt]⟩
  · rw [List.length_reverse] at h1
    obtain ⟨rfl, y⟩ := y
    have hx := y vs (hq s)
    have hlt : vs.length - 1 - i < ds.length := by omega
    obtain ⟨v, q1, q2⟩ := hi.get (i := vs.length - 1 - i) (d := ds[vs.length - 1 - i]) (by simp [hlt])
    rw [q1] at hx; cases hx
    exact ⟨_, by rw [rev_at h1, ← hl]; simp [hlt], fun S1 F ρ σ s1 e => ⟨S1, Same.refl S1, q2.mono s1, e⟩⟩
theorem i_rev {K : Fg} {W : WX} {wa : WE} : ∀ σ H R, lI K τ W (wiRev wa) σ H R → RT.iRevA K (lE K τ W wa) σ H R := by
  rintro σ H R ⟨ρ, S, F, χ, Φ, e, hw, hx, hp⟩
  refine ⟨ρ, S, F, χ, _, e, hw, hx, fun v d ρ1 S1 H1 h1 s1 i1 e1 => ?_⟩
  cases i1 with
  | lst a b => exact ⟨_, _, rfl, .inl ⟨.inl (.inl (e1.ex _ _ a)), hp _ _ ρ1 S1 H1 h1 s1 e1 (dwk_rvL a b)⟩⟩
  | tup a b => exact ⟨_, _, rfl, .inr ⟨.inl (.inl (e1.ex _ _ a)), hp _ _ ρ1 S1 H1 h1 s1 e1 (dwk_rvTQ (fun H s => .inl (.inl (s _ _ a))) b)⟩⟩
  | ktup a b a3 => exact ⟨_, _, rfl, .inr ⟨.inr a, hp _ _ ρ1 S1 H1 h1 s1 e1 (dwk_rvTQ (fun _ _ => .inr a) b)⟩⟩
  | _ => exact False.elim h1
/-! ### x[::-1], x a list -/
def revK (wb : WE) (χ : XC) (Φ : D → Rho → Prop) (x : D) (ρ1 : Rho) : Prop := wb ρ1 χ fun y ρ2 => match x, y with
  | .lst ds, .int (-1) => Φ (.lst ds.reverse) ρ2
  | _, _ => False
def wRevSl (wa wb : WE) : WE := fun ρ χ Φ => wa ρ χ fun x ρ1 => revK wb χ Φ x ρ1
section
variable {X : Cx} {W : WX} {k : Nat} {x y : Str} {a b c d e f o : Expr} {es rest : List Expr} {p pos pos' p2 : Pos} {wa wb : WE} {wt : WT} {wl wi : WL} {w u : WS} {body : List Stmt} {i : Nat}
theorem e_revSl (ha : PEd X τ W e wa) (hb : PEd X τ W b wb) : PEd X τ W (.Subscript e (.Slice none none (some b) p2) pos) (wRevSl wa wb) := by
  constructor; rintro pins s σ H Q I ⟨ρ, S, F, χ, Φ, e0, hw, hx, hp⟩
  have h' : lE X.K τ W wa σ H (fun v H1 => ∃ ρ1 S1 dv, ER X.K τ S1 F H1 ρ1 σ ∧ Same S S1 ∧ Is X.K S1 v dv ∧ revK wb χ Φ dv ρ1) := ⟨ρ, S, F, χ, _, e0, hw, hx, fun v dv ρ1 S1 H1 q1 s1 i1 e1 => ⟨ρ1, S1, dv, e1, s1, i1, q1⟩⟩
  refine Subscript_ (thn (ha.run pins s σ H _ I h') fun v s1 ⟨vx, H1, I1, r1, ρ1, S1, dv, e1, t1, i1, q1⟩ => ?_)
  refine wpAny_Slice ?_
  rw [evalPart_none, evalPart_some]
  refine wpAny_pure (wpAny_pure ?_)
  refine thn (hb.run pins s1 σ H1 (fun y H2 => y = .int (-1) ∧ ∃ p ws, vx = .ref p ∧ SqL X.K H2 p ws ∧ ∀ q, H2 q = none → Q (.ref q) (upd H2 q (.lst ws.reverse))) I1 ⟨ρ1, S1, F, χ, _, e1, q1, hx.mono t1, fun y dy ρ2 S2 H2 q2 s2 i2 e2 => ?_⟩) fun vk s2 ⟨y, H2, I2, r2, ey, p, ws, ex, hq, q2⟩ => ?_
  · split at q2
    · rename_i ds
      cases i2
      cases i1 with
      | lst h1 h2 => exact ⟨rfl, _, _, rfl, .inl (.inl (e2.ex _ _ (s2 _ _ h1))), fun q hq => hp _ _ ρ2 _ _ q2 ((t1.trans s2).trans (e2.sn hq)) (.lst upd_same (((h2.mono s2).reverse).mono (e2.sn hq))) (e2.new hq)⟩
    · exact q2.elim
  · subst ey; subst ex
    cases r1
    obtain ⟨t, rfl⟩ := r2
    have I4 : Inv X pins σ H2 { s2 with heap := s2.heap.push { cls := .type "slice", data := .fields #[.none, .none, .int (-1) t] } } := I2.kept (t' := s2.toks) fun b ob q => Heap.get?_push_of_some _ q
    obtain ⟨its, r, ht, hz⟩ := I4.list hq
    have hl := r.length
    have fin : wpAny (model X.prog X.w) X.A (getItem (.ref p) (.ref s2.heap.objs.size)) (EP X pins σ Q) X.xe { s2 with heap := s2.heap.push { cls := .type "slice", data := .fields #[.none, .none, .int (-1) t] } } := by
      refine wpAny_getItem_list_slice (lo := none) (hi := none) (st := some (-1)) ht.isList (Heap.IsSliceOf.new ..) .none .none (.int _ _) (by decide) ?_ (by rw [List.size_toArray]; omega)
      rw [PySem.W.krv_pick]
      refine ⟨.ref _, _, I4.laid (t' := s2.toks) (o := .lst ws.reverse) (fun b ob q => Heap.get?_push_of_some _ q) (Nat.le_refl _) ?_, rfl, q2 _ (I4.hok.fresh (Nat.le_refl _))⟩
      exact ⟨by rw [List.length_reverse]; exact hz, _, 0, r.reverse, Heap.get?_push_size _ rfl⟩
    exact tail_any (ops := [.ref p, .ref s2.heap.objs.size]) ht.isList.typeIs slot_list_getitem.lookup fin (by with_unfolding_all rfl)
theorem s_while {c : Expr} (hp : PassesOwn (model X.prog X.w) X.A X.env X.xe) (hc : PTd X τ W c wt) (hb : PSsd X τ W body w) : PSd X τ W (.While c body [] pos) (wWhile wt w) := PS.imp (ps_while hp hc hb) l_while
theorem s_augS (hN : X.N.Nodup) (i : Nat) (he : PEd X τ W e wa) (hi : X.N[i]? = some x := by rfl) (hx : Loc X.env.scope x := by first | exact .inl rfl | exact .inr rfl) (hf : X.fn x = true ∨ X.env.scope.names.lookup x = some .local := by first | exact .inl rfl | exact .inr rfl) :
    PSd X τ W (.AugAssign (.Name x pos') .Sub e pos) (wAug (fun i j => i - j) i wa) := PS.imp (ps_aug hN hi hx he ip_sub hf) l_aug
theorem s_augA (hN : X.N.Nodup) (i : Nat) (he : PEd X τ W e wa) (hi : X.N[i]? = some x := by rfl) (hx : Loc X.env.scope x := by first | exact .inl rfl | exact .inr rfl) (hf : X.fn x = true ∨ X.env.scope.names.lookup x = some .local := by first | exact .inl rfl | exact .inr rfl) :
    PSd X τ W (.AugAssign (.Name x pos') .Add e pos) (wAug (fun i j => i + j) i wa) := PS.imp (ps_aug hN hi hx he ip_add hf) l_aug
theorem i_rvd {tg : Expr} (hm : X.mg "reversed" = none) (ha : PEd X τ W e wa) (hg : Gl X "reversed" := by rfl) (hs : starEach [e] X.env = (false, eval e X.env) :: starEach [] X.env := by rfl) : PId X τ W tg (.Call (.Name "reversed" p) [e] [] pos) (wiRev wa) := PI.imp (RT.pi_revA hg hm ha hs) i_rev
theorem i_rng2 {tg : Expr} (hm : X.mg "range" = none) (ha : PAd X τ W [a, b] wl) (hg : Gl X "range" := by rfl) (hs : starEach [a, b] X.env = [(false, eval a X.env), (false, eval b X.env)] := by rfl) (hs2 : starEach [b] X.env = [(false, eval b X.env)] := by rfl) : PId X τ W tg (.Call (.Name "range" p) [a, b] [] pos) (wiRg2 wl) := PI.imp (pi_range2 hg hm ha hs hs2) i_rg2
/-- a comprehension's target a, b -/
theorem g_c2 {vs : List Nat} (hN : X.N.Nodup) (hc : X.calm = true) (i m : Nat) {px py pt : Pos} {kt : Nat} (hv : i ∈ vs := by decide) (hv2 : m ∈ vs := by decide) (hi : X.N[i]? = some x := by rfl) (hj : X.N[m]? = some y := by rfl) (hx : Loc X.env.scope x := by first | exact .inl rfl | exact .inr rfl) (hy : Loc X.env.scope y := by first | exact .inl rfl | exact .inr rfl)
    (hf : X.fn x = true ∨ X.env.scope.names.lookup x = some .local := by first | exact .inl rfl | exact .inr rfl) (hf2 : X.fn y = true ∨ X.env.scope.names.lookup y = some .local := by first | exact .inl rfl | exact .inr rfl)
    (hn : (assignEach [.Name x px, .Name y py] X.env).length = 2 := by rfl) (hst : (assignEach [.Name x px, .Name y py] X.env).findIdx? (·.1) = none := by rfl) : PG X (.Tuple [.Name x px, .Name y py] kt pt) (lGc X.K τ vs (wgTup 2 (wgCons (wgName i) (wgCons (wgName m) wgNil)))) :=
  PG.imp (pg_tup hc (PGs.imp (pgs_cons (PG.imp (pg_name hN hi hx hf) (gc_name hv)) (PGs.imp (pgs_cons (PG.imp (pg_name hN hj hy hf2) (gc_name hv2)) (PGs.imp pgs_nil gc_nil)) gc_cons)) gc_cons) hn hst) gc_tup
end
/-- a target a, b for a tuple or a list -/
def wgSeq (n : Nat) (gs : WGs) : WG := fun d ρ Φ => match d with
  | .tup ds => ds.length = n ∧ gs ds ρ Φ
  | .lst ds => ds.length = n ∧ gs ds ρ Φ
  | _ => False
theorem g_c2S {X : Cx} {x y : Str} {vs : List Nat} (hN : X.N.Nodup) (hc : X.calm = true) (i m : Nat) {px py pt : Pos} {kt : Nat} (hv : i ∈ vs := by decide) (hv2 : m ∈ vs := by decide) (hi : X.N[i]? = some x := by rfl) (hj : X.N[m]? = some y := by rfl) (hx : Loc X.env.scope x := by first | exact .inl rfl | exact .inr rfl) (hy : Loc X.env.scope y := by first | exact .inl rfl | exact .inr rfl)
    (hf : X.fn x = true ∨ X.env.scope.names.lookup x = some .local := by first | exact .inl rfl | exact .inr rfl) (hf2 : X.fn y = true ∨ X.env.scope.names.lookup y = some .local := by first | exact .inl rfl | exact .inr rfl)
    (hn : (assignEach [.Name x px, .Name y py] X.env).length = 2 := by rfl) (hst : (assignEach [.Name x px, .Name y py] X.env).findIdx? (·.1) = none := by rfl) : PG X (.Tuple [.Name x px, .Name y py] kt pt) (lGc X.K τ vs (wgSeq 2 (wgCons (wgName i) (wgCons (wgName m) wgNil)))) := by
  constructor; rintro pins s σ H v u Q I r ⟨ρ, S, F, d, Φ, e, hd, hg, hp⟩
  have gs : PGs X [.Name x px, .Name y py] (lGcs X.K τ vs (wgCons (wgName i) (wgCons (wgName m) wgNil))) := PGs.imp (pgs_cons (PG.imp (pg_name hN hi hx hf) (gc_name hv)) (PGs.imp (pgs_cons (PG.imp (pg_name hN hj hy hf2) (gc_name hv2)) (PGs.imp pgs_nil gc_nil)) gc_cons)) gc_cons
  cases hd with
  | tup h1 h2 => exact (pg_tup hc gs hn hst).run pins s σ H _ u Q I r ⟨_, _, rfl, .inl (.inl (e.ex _ _ h1)), h2.length.trans hg.1, ρ, S, F, _, Φ, e, h2, hg.2, hp⟩
  | ktup h1 h2 a3 => exact (pg_tup hc gs hn hst).run pins s σ H _ u Q I r ⟨_, _, rfl, .inr h1, h2.length.trans hg.1, ρ, S, F, _, Φ, e, h2, hg.2, hp⟩
  | lst h1 h2 => exact (pg_lst hc gs hn hst).run pins s σ H _ u Q I r ⟨_, _, rfl, .inl (.inl (e.ex _ _ h1)), h2.length.trans hg.1, ρ, S, F, _, Φ, e, h2, hg.2, hp⟩
  | _ => exact False.elim hg
/-! ### max, min of a list of whole numbers; min(.., default=) -/
def intsOf : List D → Option (List Int)
  | [] => some []
  | .int i :: ds => (intsOf ds).map (i :: ·)
  | _ :: _ => none
theorem ints_is {K : Fg} {S : Hp} : ∀ {vs : List V} {ds : List D} {ns : List Int}, IsAll K S vs ds → intsOf ds = some ns → vs = ns.map V.int
  | _, [], ns, .nil, h => by cases h; rfl
  | _, d :: ds, ns, .cons r t, h => by
    cases d with
    | int i =>
      cases r
      have h' : (intsOf ds).map (i :: ·) = some ns := h
      cases e : intsOf ds with
      | none => rw [e] at h'; cases h'
      | some ms => rw [e] at h'; cases h'; rw [ints_is t e]; rfl
    | _ => cases h
def wMaxL : WCl := fun ds Φ => match ds with
  | [.lst xs] => ∃ ns, intsOf xs = some ns ∧ 0 < ns.length ∧ ∀ m, m ∈ ns → (∀ y, y ∈ ns → y ≤ m) → Φ (.int m)
  | _ => False
def wMinL : WCl := fun ds Φ => match ds with
  | [.lst xs] => ∃ ns, intsOf xs = some ns ∧ 0 < ns.length ∧ ∀ m, m ∈ ns → (∀ y, y ∈ ns → m ≤ y) → Φ (.int m)
  | _ => False
theorem ok_maxL {K : Fg} : CallOk K τ (rMax K) wMaxL := by
  intro S F H ρ σ vs ds Φ Q e hi hw hp
  unfold wMaxL at hw
  split at hw
  · obtain ⟨ns, h1, h2, h3⟩ := hw
    cases hi with
    | cons r hi =>
      cases hi; cases r with
      | lst a b =>
        cases ints_is b h1
        exact ⟨_, ns, rfl, .inl (.inl (e.ex _ _ a)), h2, fun m p q => hp _ _ S H (h3 m p q) (Same.refl S) (.int _) e⟩
  · exact hw.elim
theorem ok_minL {K : Fg} : CallOk K τ (rMin K) wMinL := by
  intro S F H ρ σ vs ds Φ Q e hi hw hp
  unfold wMinL at hw
  split at hw
  · obtain ⟨ns, h1, h2, h3⟩ := hw
    cases hi with
    | cons r hi =>
      cases hi; cases r with
      | lst a b =>
        cases ints_is b h1
        exact ⟨_, ns, rfl, .inl (.inl (e.ex _ _ a)), h2, fun m p q => hp _ _ S H (h3 m p q) (Same.refl S) (.int _) e⟩
  · exact hw.elim
def rMinDf (K : Fg) : List V → List V → Hp → VK → Prop := fun vs zs H Q => ∃ (a : Addr) (ns : List Int) (d : Int), vs = [V.ref a] ∧ zs = [V.int d] ∧ SqL K H a (ns.map V.int) ∧ (ns = [] → Q (.int d) H) ∧ ∀ m, m ∈ ns → (∀ y, y ∈ ns → m ≤ y) → Q (.int m) H
theorem minOf_ok : ∀ (xs : List Int) (x : Int), PySem.W.minOf x xs ∈ x :: xs ∧ ∀ y ∈ x :: xs, PySem.W.minOf x xs ≤ y
  | [], x => ⟨by simp [PySem.W.minOf], by simp [PySem.W.minOf]⟩
  | z :: xs, x => by
    have e : PySem.W.minOf x (z :: xs) = PySem.W.minOf (if z < x then z else x) xs := by
      unfold PySem.W.minOf
      rw [List.foldl_cons]
      congr 1
      show (if decide (z < x) = true then z else x) = _
      by_cases h : z < x <;> simp [h]
    obtain ⟨h1, h2⟩ := minOf_ok xs (if z < x then z else x)
    rw [e]
    refine ⟨?_, fun y hy => ?_⟩
    · rcases List.mem_cons.mp h1 with h | h
      · rw [h]; by_cases h : z < x <;> simp [h]
      · simp [h]
    · have h3 := h2 _ List.mem_cons_self
      rcases List.mem_cons.mp hy with rfl | hy
      · by_cases h : z < y
        · rw [if_pos h] at h3 ⊢; omega
        · rw [if_neg h] at h3 ⊢; exact h3
      · rcases List.mem_cons.mp hy with rfl | hy
        · by_cases h : y < x
          · rw [if_pos h] at h3 ⊢; exact h3
          · rw [if_neg h] at h3 ⊢; omega
        · exact h2 y (List.mem_cons_of_mem _ hy)
theorem hold_ints {h : Heap} : ∀ {vs : List Value} {ns : List Int}, IntsAre vs ns → PySem.W.HoldAll h vs ns := fun {vs ns} hi => PySem.W.HoldAll.of_ints hi
theorem cr_minDf {X : Cx} {W : WX} {k : Nat} (hc : X.calm = true) (o : Cok X W k) : CallRK X (.builtin "min") [Str.ofString "default"] (rMinDf X.K) := by
  intro pins s σ H xs zs us ws Q I r rz h
  obtain ⟨a, ns, d, rfl, rfl, hs, h0, h1⟩ := h
  obtain ⟨its, rv, hl, hz⟩ := I.list hs
  rw [Vals.ref1 r]
  cases rz with
  | cons r2 rr =>
    cases rr
    obtain ⟨t, rfl⟩ := r2
    refine PySem.W.min_list_datum_default (α := Int) (xs := ns) (I.ok.hd hc) hl.isList (hold_ints rv.ints) (by have := o.u64'; show X.A.units + 1 + 0 < cLine; omega) (fun e h' tk hk => ⟨.int d, H, I.kept hk, ⟨t, rfl⟩, h0 e⟩) fun y ys i v h' tk e hi hv hk => ?_
    subst e
    obtain ⟨h3, h4⟩ := minOf_ok ys y
    obtain ⟨as, hr⟩ := hv
    have hr : Reads h' v (.int (PySem.W.minOf y ys)) as := hr
    refine ⟨.int (PySem.W.minOf y ys), H, I.kept hk, ?_, h1 _ h3 h4⟩
    cases hr
    exact ⟨_, rfl⟩
/-- min(x, default=d) -/
def wMinDf (wl wk : WL) : WE := fun ρ χ Φ => wl ρ χ fun ds ρ1 => wk ρ1 χ fun zs ρ2 => match ds, zs with
  | [.lst xs], [.int d] => ∃ ns, intsOf xs = some ns ∧ (ns = [] → Φ (.int d) ρ2) ∧ ∀ m, m ∈ ns → (∀ y, y ∈ ns → m ≤ y) → Φ (.int m) ρ2
  | _, _ => False
theorem l_minDf {K : Fg} {W : WX} {wl wk : WL} : ∀ σ H Q, lE K τ W (wMinDf wl wk) σ H Q → tCKw (rMinDf K) (lL K τ W wl) (lL K τ W wk) σ H Q := by
  rintro σ H Q ⟨ρ, S, F, χ, Φ, e, hw, hx, hp⟩
  refine ⟨ρ, S, F, χ, _, e, hw, hx, fun vs ds ρ1 S1 H1 h1 s1 i1 e1 => ?_⟩
  refine ⟨ρ1, S1, F, χ, _, e1, h1, hx.mono s1, fun us zs ρ2 S2 H2 h2 s2 i2 e2 => ?_⟩
  split at h2
  · obtain ⟨ns, a1, a2, a3⟩ := h2
    cases i2 with
    | cons r2 rr =>
      cases rr; cases r2
      cases i1 with
      | cons r rr =>
        cases rr; cases r with
        | lst b1 b2 =>
          cases ints_is b2 a1
          exact ⟨_, ns, _, rfl, rfl, .inl (.inl (e2.ex _ _ (s2 _ _ b1))), fun z => hp _ _ ρ2 S2 H2 (a2 z) (s1.trans s2) (.int _) e2, fun m p q => hp _ _ ρ2 S2 H2 (a3 m p q) (s1.trans s2) (.int _) e2⟩
  · exact h2.elim
/-- a call of what a slot holds: one of some defs -/
def wCallV (i n : Nat) (sps : List (Addr × Spc)) (wl : WL) : WE := fun ρ χ Φ => ∃ f sp, (f, sp) ∈ sps ∧ ρ[i]? = some (Sl.val (.raw (.ref f))) ∧ wl ρ χ fun ds ρ1 => ds.length = n ∧ sp none ds (fun d _ => Φ d ρ1) fun C fl d => χ C fl d ρ1
structure OneOf (P : Program) (w : World) (K : Fg) (mg : Str → Option Value) (base : Heap) (t : List (Addr × Str)) (k n : Nat) (f : Addr) (sp : Spc) : Prop where
  ex : ∃ (fd : FuncData) (ps : List Str), FnG P w K mg base k f fd ps (lSp K t n sp) ∧ PySem.W.keepIn K (Value.ref f) = true ∧ KBn K fd ps n [] (fun us _ => us) (fun us _ => us)
section
variable {X : Cx} {W : WX} {k i n : Nat} {x : Str} {e : Expr} {es : List Expr} {kws : List Keyword} {p pos : Pos} {wl wk : WL} {sps : List (Addr × Spc)}
theorem e_minDf (hc : X.calm = true) (o : Cok X W k) (hm : X.mg "min" = none) (ha : PAd X τ W (e :: es) wl) (hk : PKd X τ W kws wk) (hg : Gl X "min" := by rfl) (he : backTo pos (starEach (e :: es) X.env) = (false, eval e X.env) :: backTo pos (starEach es X.env) := by rfl) (hpl : (backTo pos (starEach (e :: es) X.env)).any (·.1) = false := by rfl)
    (hall : (backToKw pos (keywordEach kws X.env)).all (·.1.isSome) = true := by rfl) (hnone : (backToKw pos (keywordEach kws X.env)).any (·.1.isNone) = false := by rfl) (hks : (backToKw pos (keywordEach kws X.env)).filterMap (·.1) = [Str.ofString "default"] := by rfl) :
    PEd X τ W (.Call (.Name "min" p) (e :: es) kws pos) (wMinDf wl wk) := PE.imp (pe_callBK (cr_minDf hc o) hg hm PyProof.Rows.Boot.min ha hk (by decide) (by decide) he hpl hall hnone hks) l_minDf
theorem e_callV {tt : List (Addr × Str)} (o : Cok X W k) (A : ∀ q ∈ sps, OneOf X.prog X.w X.K X.mg X.base tt k n q.1 q.2) (ha : PAd X τ W (e :: es) wl) (hN : X.N[i]? = some x := by rfl) (hv : Vis X.env.scope x := by first | exact .inl rfl | exact .inr (.inl rfl) | exact .inr (.inr rfl)) (hd : (x == ("__debug__" : Str)) = false := by decide) (hcd : (x == ("__classdict__" : Str)) = false := by decide)
    (he : starEach (e :: es) X.env = (false, eval e X.env) :: starEach es X.env := by rfl) (hpl : (backTo pos (starEach es X.env)).any (·.1) = false := by rfl) (ht : τ.t = tt := by rfl) : PEd X τ W (.Call (.Name x p) (e :: es) [] pos) (wCallV i n sps wl) := by
  subst ht
  constructor; rintro pins s σ H Q I ⟨ρ, S, F, χ, Φ, e0, ⟨f, sp, hm, h0, hw⟩, hx, hp⟩
  obtain ⟨fd, ps, Fn, kp, kb⟩ := (A _ hm).ex
  obtain ⟨v0, hσ, i0⟩ := e0.val i _ h0
  cases i0
  refine wpAny_Call_Name_kw (thn ((pe_var (pos := p) hN hv hd hcd).run pins s σ H (fun v H1 => v = .ref f ∧ H1 = H) I ⟨.ref f, hσ, rfl, rfl⟩) fun u s1 ⟨v, H1, I1, r1, ev, eH⟩ => ?_)
  subst ev; subst eH
  cases r1
  have h' : lE X.K τ W (wCallA n 0 sp (fun ds _ => ds) wl wNil) σ H1 Q := ⟨ρ, S, F, χ, Φ, e0, (by
    show wl ρ χ fun ds ρ1 => ds.length = n ∧ (0 = 0 ∧ sp none ds (fun d _ => Φ d ρ1) fun C f d => χ C f d ρ1)
    simpa using hw), hx, hp⟩
  have h2 := lL_mono (l_callA (K := X.K) (W := W) grel_pos σ H1 Q h') fun vs H' q => l_nil σ H' _ q
  refine PySem.W.callWith_K (h₀ := X.base) I1.ok.mod.kin kp (thn (ha.run pos pins s1 σ H1 _ I1 h2) fun us s2 ⟨vs, H2, I2, r, l1, l2, q⟩ => ⟨I2.kIn, ?_⟩) he hpl
  have z := run_g (us := us) (ws := []) (zs := []) Fn o kb I2 r .nil l1 l2 q
  exact z
end
end DL
namespace DL
open L2 PyProof.Rows PySem PySem.Spec
variable {τ : Tb}
/-- repr where an error may be handled -/
theorem cr_reprU {X Y : Cx} {W : WX} {k : Nat} (c : Cok X W k) (hg : Y.A.guards = X.A.guards := by rfl) (hu : Y.A.units = X.A.units := by rfl) : CallR Y (.builtin "repr") (rRepr Y.K) := by
  rintro pins s σ H xs us Q I r ⟨v, p, rfl, dp, hs, hn, hd, hz, q⟩
  obtain ⟨u, rfl, ru⟩ := vals1 r; obtain ⟨as, rd⟩ := Dp.reads I p v u dp ru
  have un := c.rm.un
  have gd : Y.A.guards = some [] := hg.trans c.gd
  cases dp with
  | non => cases ru; exact PySem.P.repr_of_none ⟨.str _, H, I.tok _, ⟨_, rfl⟩, by simpa only [PyData.shown] using q⟩
  | bl b => cases ru; exact PySem.P.repr_of_bool ⟨.str _, H, I.tok _, ⟨_, rfl⟩, by simpa only [PyData.shown] using q⟩
  | int i =>
    obtain ⟨t, rfl⟩ := ru
    exact PySem.P.repr_of_int (by simpa [PyData.showable] using hs) ⟨.str _, H, I.tok _, ⟨_, rfl⟩, by simpa only [PyData.shown] using q⟩
  | str x =>
    obtain ⟨t, rfl⟩ := ru
    exact PySem.P.repr_of_str ⟨.str _, H, I.tok _, ⟨_, rfl⟩, by simpa only [PyData.shown] using q⟩ (by simpa only [PyData.shown] using hz)
  | lst a b =>
    cases ru
    exact repr_of_reads' (h₀ := s.heap) rd hs (fun e => by rw [hn] at e; cases e) gd (by rw [hu]; omega) (fun _ _ e => e) (fun h' u tk hk => ⟨.str _, H, I.kept hk, ⟨_, rfl⟩, q⟩) hz
  | tup a b =>
    cases ru
    exact repr_of_reads' (h₀ := s.heap) rd hs (fun e => by rw [hn] at e; cases e) gd (by rw [hu]; omega) (fun _ _ e => e) (fun h' u tk hk => ⟨.str _, H, I.kept hk, ⟨_, rfl⟩, q⟩) hz
end DL
set_option Elab.async false
set_option autoImplicit false
set_option linter.all false
set_option maxRecDepth 100000
set_option maxHeartbeats 3900000
namespace DL
open L2 PyProof.Rows PySem PySem.Spec
variable {τ : Tb}
section
variable {X : Cx} {W : WX} {k : Nat} {a b : Expr} {p px pos pos' : Pos} {wa wb : WE}
/-- list(range(n)) -/
theorem e_lstRg (hc : X.calm = true) (hm : X.mg "list" = none) (hm2 : X.mg "range" = none) (ha : PEd X τ W a wa) (hg : Gl X "list" := by rfl) (hg2 : Gl X "range" := by rfl) (na : starEach [a] X.env = (false, eval a X.env) :: starEach [] X.env := by rfl)
    (nb : starEach [.Call (.Name "range" p) [a] [] pos'] X.env = (false, eval (.Call (.Name "range" p) [a] [] pos') X.env) :: starEach [] X.env := by rfl) : PEd X τ W (.Call (.Name "list" px) [.Call (.Name "range" p) [a] [] pos'] [] pos) (wRgL (wCons wa wNil)) :=
  PE.imp (pe_listRg hc hg hm (prg_1 hg2 hm2 ha na) nb) l_rgL
/-- i in x, i not in x: x a list or tuple of ints -/
def wInI (neg : Bool) : D → D → (D → Prop) → Prop := fun x y Φ => match x, y with
  | .int i, .lst ds => ∃ ns, intsOf ds = some ns ∧ Φ (.bl (if neg then !decide (i ∈ ns) else decide (i ∈ ns)))
  | .int i, .tup ds => ∃ ns, intsOf ds = some ns ∧ Φ (.bl (if neg then !decide (i ∈ ns) else decide (i ∈ ns)))
  | _, _ => False
theorem inV_ints (i : Int) : ∀ ns : List Int, inV (.int i) (ns.map V.int) = decide (i ∈ ns)
  | [] => rfl
  | n :: ns => by
    have ih := inV_ints i ns
    unfold inV at ih ⊢
    rw [List.map_cons, List.any_cons, ih]
    have e : eqV (.int n) (.int i) = decide (i = n) := by
      by_cases h : i = n
      · subst h; simp [eqV]
      · simp [eqV, h, Ne.symm h]
    rw [e, ← Bool.decide_or]
    exact decide_eq_decide.mpr List.mem_cons.symm
theorem flat_ints (ns : List Int) : (ns.map V.int).all flatV = true := by
  rw [List.all_eq_true]
  intro x hx
  obtain ⟨n, -, rfl⟩ := List.mem_map.mp hx
  rfl
theorem ok_inI {K : Fg} {neg : Bool} : OpOk K τ (rIn K neg) (wInI neg) := by
  intro S F H ρ σ x y dx dy Φ Q e ix iy hw hp
  unfold wInI at hw
  split at hw
  · obtain ⟨ns, h1, h2⟩ := hw
    cases ix
    cases iy with
    | lst a b =>
      cases ints_is b h1
      exact ⟨_, _, rfl, .inl (.inl (.inl (e.ex _ _ a))), rfl, flat_ints ns, by rw [inV_ints]; exact hp _ _ S H h2 (Same.refl S) (.bl _) e⟩
  · obtain ⟨ns, h1, h2⟩ := hw
    cases ix
    cases iy with
    | tup a b =>
      cases ints_is b h1
      exact ⟨_, _, rfl, (.inr (.inl (.inl (e.ex _ _ a)))), rfl, flat_ints ns, by rw [inV_ints]; exact hp _ _ S H h2 (Same.refl S) (.bl _) e⟩
    | ktup a b a3 =>
      cases ints_is b h1
      exact ⟨_, _, rfl, .inr (.inr a), rfl, flat_ints ns, by rw [inV_ints]; exact hp _ _ S H h2 (Same.refl S) (.bl _) e⟩
  · exact hw.elim
theorem e_in (ha : PEd X τ W a wa) (hb : PEd X τ W b wb) (h1 : behindInMarks .In b = false := by rfl) : PEd X τ W (.Compare a [.In] [b] pos) (wOp (wInI false) wa wb) := PE.imp (pe_cmpR op_in_seq ha hb h1) (l_op ok_inI)
theorem e_nin (ha : PEd X τ W a wa) (hb : PEd X τ W b wb) (h1 : behindInMarks .NotIn b = false := by rfl) : PEd X τ W (.Compare a [.NotIn] [b] pos) (wOp (wInI true) wa wb) := PE.imp (pe_cmpR op_notIn_seq ha hb h1) (l_op ok_inI)
theorem t_in (ha : PEd X τ W a wa) (hb : PEd X τ W b wb) (h1 : behindInMarks .In b = false := by rfl) : PTd X τ W (.Compare a [.In] [b] pos) (wB (wOp (wInI false) wa wb)) := t_of (pt_cmpR op_in_seq ha hb h1) (l_op ok_inI)
theorem t_nin (ha : PEd X τ W a wa) (hb : PEd X τ W b wb) (h1 : behindInMarks .NotIn b = false := by rfl) : PTd X τ W (.Compare a [.NotIn] [b] pos) (wB (wOp (wInI true) wa wb)) := t_of (pt_cmpR op_notIn_seq ha hb h1) (l_op ok_inI)
/-! bits of ints -/
def wBAnd : D → D → (D → Prop) → Prop := fun x y Φ => match x, y with
  | .int a, .int b => Φ (.int (Builtin.bitAnd a b))
  | _, _ => False
def wBOr : D → D → (D → Prop) → Prop := fun x y Φ => match x, y with
  | .int a, .int b => Φ (.int (Builtin.bitOr a b))
  | _, _ => False
def wBXor : D → D → (D → Prop) → Prop := fun x y Φ => match x, y with
  | .int a, .int b => Φ (.int (Builtin.bitXor a b))
  | _, _ => False
def wShl : D → D → (D → Prop) → Prop := fun x y Φ => match x, y with
  | .int a, .int b => CShl a b ∧ Φ (.int (a * 2 ^ b.toNat))
  | _, _ => False
theorem ok_band {K : Fg} : OpOk K τ (rI0 fun i j => .int (Builtin.bitAnd i j)) wBAnd := ok_I0 fun x y Φ h => by
  unfold wBAnd at h
  split at h
  · exact ⟨_, _, rfl, rfl, h⟩
  · exact h.elim
theorem ok_bor {K : Fg} : OpOk K τ (rI0 fun i j => .int (Builtin.bitOr i j)) wBOr := ok_I0 fun x y Φ h => by
  unfold wBOr at h
  split at h
  · exact ⟨_, _, rfl, rfl, h⟩
  · exact h.elim
theorem ok_bxor {K : Fg} : OpOk K τ (rI0 fun i j => .int (Builtin.bitXor i j)) wBXor := ok_I0 fun x y Φ h => by
  unfold wBXor at h
  split at h
  · exact ⟨_, _, rfl, rfl, h⟩
  · exact h.elim
theorem ok_shl {K : Fg} : OpOk K τ (rI CShl fun i j => .int (i * 2 ^ j.toNat)) wShl := ok_I fun x y Φ h => by
  unfold wShl at h
  split at h
  · exact ⟨_, _, rfl, rfl, h.1, h.2⟩
  · exact h.elim
theorem e_band (ha : PEd X τ W a wa) (hb : PEd X τ W b wb) : PEd X τ W (.BinOp a .BitAnd b pos) (wOp wBAnd wa wb) := PE.imp (pe_op op_and ha hb) (l_op ok_band)
theorem e_bor (ha : PEd X τ W a wa) (hb : PEd X τ W b wb) : PEd X τ W (.BinOp a .BitOr b pos) (wOp wBOr wa wb) := PE.imp (pe_op op_or ha hb) (l_op ok_bor)
theorem e_bxor (ha : PEd X τ W a wa) (hb : PEd X τ W b wb) : PEd X τ W (.BinOp a .BitXor b pos) (wOp wBXor wa wb) := PE.imp (pe_op op_xor ha hb) (l_op ok_bxor)
theorem e_shl (ha : PEd X τ W a wa) (hb : PEd X τ W b wb) : PEd X τ W (.BinOp a .LShift b pos) (wOp wShl wa wb) := PE.imp (pe_op op_shlW ha hb) (l_op ok_shl)
/-- x.bit_length() -/
def wBits (wa : WE) : WE := fun ρ χ Φ => wa ρ χ fun x ρ1 => match x with
  | .int i => Φ (.int (Builtin.Int.intBits i : Nat)) ρ1
  | _ => False
theorem l_bits {K : Fg} {W : WX} {wa : WE} : ∀ σ H Q, lE K τ W (wBits wa) σ H Q → tBits (lE K τ W wa) σ H Q := by
  rintro σ H Q ⟨ρ, S, F, χ, Φ, e, hw, hx, hp⟩
  refine ⟨ρ, S, F, χ, _, e, hw, hx, fun x dx ρ1 S1 H1 h1 s1 i1 e1 => ?_⟩
  cases i1 with
  | int i => exact ⟨i, rfl, hp _ _ ρ1 S1 H1 h1 s1 (.int _) e1⟩
  | _ => exact False.elim h1
theorem e_bits {apos : Pos} (ha : PEd X τ W a wa) (hbase : attributeBase a "bit_length" X.env (eval a X.env) = eval a X.env := by rfl) (hline : (apos.endLine == pos.line) = true := by rfl) : PEd X τ W (.Call (.Attribute a "bit_length" apos) [] [] pos) (wBits wa) := PE.imp (pe_bits ha hbase hline) l_bits
theorem ip_bor : PIp X .BitOr (ipI Builtin.bitOr) := fun pins s σ H x y v u Q I r1 r2 h => iop_or pins s σ H x y v u Q I r1 r2 h
theorem ip_band : PIp X .BitAnd (ipI Builtin.bitAnd) := fun pins s σ H x y v u Q I r1 r2 h => iop_and pins s σ H x y v u Q I r1 r2 h
theorem ip_bxor : PIp X .BitXor (ipI Builtin.bitXor) := fun pins s σ H x y v u Q I r1 r2 h => iop_xor pins s σ H x y v u Q I r1 r2 h
variable {x : Str} {e : Expr}
theorem s_augBOr (hN : X.N.Nodup) (i : Nat) (he : PEd X τ W e wa) (hi : X.N[i]? = some x := by rfl) (hx : Loc X.env.scope x := by first | exact .inl rfl | exact .inr rfl) (hf : X.fn x = true ∨ X.env.scope.names.lookup x = some .local := by first | exact .inl rfl | exact .inr rfl) :
    PSd X τ W (.AugAssign (.Name x pos') .BitOr e pos) (wAug Builtin.bitOr i wa) := PS.imp (ps_aug hN hi hx he ip_bor hf) l_aug
theorem s_augBAnd (hN : X.N.Nodup) (i : Nat) (he : PEd X τ W e wa) (hi : X.N[i]? = some x := by rfl) (hx : Loc X.env.scope x := by first | exact .inl rfl | exact .inr rfl) (hf : X.fn x = true ∨ X.env.scope.names.lookup x = some .local := by first | exact .inl rfl | exact .inr rfl) :
    PSd X τ W (.AugAssign (.Name x pos') .BitAnd e pos) (wAug Builtin.bitAnd i wa) := PS.imp (ps_aug hN hi hx he ip_band hf) l_aug
variable {y z : Str} {c : Expr} {py pz pt pt2 : Pos} {kt k2 : Nat} {wl : WL}
/-- a target of three names -/
theorem g_three (hN : X.N.Nodup) (hc : X.calm = true) (i m l : Nat) (hi : X.N[i]? = some x := by rfl) (hj : X.N[m]? = some y := by rfl) (hl : X.N[l]? = some z := by rfl) (hx : Loc X.env.scope x := by first | exact .inl rfl | exact .inr rfl) (hy : Loc X.env.scope y := by first | exact .inl rfl | exact .inr rfl) (hz : Loc X.env.scope z := by first | exact .inl rfl | exact .inr rfl)
    (hf : X.fn x = true ∨ X.env.scope.names.lookup x = some .local := by first | exact .inl rfl | exact .inr rfl) (hf2 : X.fn y = true ∨ X.env.scope.names.lookup y = some .local := by first | exact .inl rfl | exact .inr rfl) (hf3 : X.fn z = true ∨ X.env.scope.names.lookup z = some .local := by first | exact .inl rfl | exact .inr rfl)
    (hn : (assignEach [.Name x px, .Name y py, .Name z pz] X.env).length = 3 := by rfl) (hst : (assignEach [.Name x px, .Name y py, .Name z pz] X.env).findIdx? (·.1) = none := by rfl) : PGd X τ (.Tuple [.Name x px, .Name y py, .Name z pz] kt pt) (wgTup 3 (wgCons (wgName i) (wgCons (wgName m) (wgCons (wgName l) wgNil)))) :=
  PG.imp (pg_tup hc (PGs.imp (pgs_cons (PG.imp (pg_name hN hi hx hf) g_name) (PGs.imp (pgs_cons (PG.imp (pg_name hN hj hy hf2) g_name) (PGs.imp (pgs_cons (PG.imp (pg_name hN hl hz hf3) g_name) (PGs.imp pgs_nil g_nil)) g_cons)) g_cons)) g_cons) hn hst) g_tup
theorem s_par3 (hN : X.N.Nodup) (hc : X.calm = true) (i m l : Nat) (h : PAd X τ W [a, b, c] wl) (hw : swappedStores [.Tuple [.Name x px, .Name y py, .Name z pz] kt pt] (.Tuple [a, b, c] k2 pt2) X.env = pure (some [x, y, z])) (hi : X.N[i]? = some x := by rfl) (hj : X.N[m]? = some y := by rfl) (hl : X.N[l]? = some z := by rfl)
    (hij : i ≠ m := by decide) (hil : i ≠ l := by decide) (hjl : m ≠ l := by decide) (hx : X.env.scope.names.lookup x = some .local := by rfl) (hy : X.env.scope.names.lookup y = some .local := by rfl) (hz : X.env.scope.names.lookup z = some .local := by rfl)
    (hs : swapsWithSole [.Tuple [.Name x px, .Name y py, .Name z pz] kt pt] (.Tuple [a, b, c] k2 pt2) pos.line X.env = pure false := by rfl) :
    PSd X τ W (.Assign [.Tuple [.Name x px, .Name y py, .Name z pz] kt pt] (.Tuple [a, b, c] k2 pt2) pos) (wPar3 i m l wl) := PS.imp (ps_par3 hc hN hi hj hl hij hil hjl hx hy hz h hw hs) l_par3
/-! calls of defs with keyword-only parameters, whose default is None -/
structure Df (K : Fg) (mg : Str → Option Value) (x : Str) (f : Addr) : Prop where
  m : mg x = some (.ref f)
  kp : PySem.W.keepIn K (Value.ref f) = true
variable {f : Addr} {fd : FuncData} {ps : List Str} {n N : Nat} {sp : Spc} {es : List Expr} {wk : WL}
theorem e_callG {tt : List (Addr × Str)} (o : Cok X W k) {j : Nat} {gl : List Value → List Value → List Value} {gV : List V → List V → List V} {gD : List D → List D → List D} (F : FnG X.prog X.w X.K X.mg X.base j f fd ps (lSp X.K tt N sp)) (hm : X.mg x = some (.ref f)) (kp : PySem.W.keepIn X.K (.ref f) = true)
    (hb : KBn X.K fd ps n [] gl gV) (hr : GRel n 0 N gV gD) (ha : PAd X τ W (e :: es) wl) (hj : j ≤ k := by decide) (hg : Gl X x := by rfl) (hd : (x == ("__debug__" : Str)) = false := by decide)
    (he : starEach (e :: es) X.env = (false, eval e X.env) :: starEach es X.env := by rfl) (hpl : (backTo pos (starEach es X.env)).any (·.1) = false := by rfl) (ht : τ.t = tt := by rfl) : PEd X τ W (.Call (.Name x p) (e :: es) [] pos) (wCallA n 0 sp gD wl wNil) := by
  subst ht
  exact PE.imp (pe_g (F.mono hj) o hg hm kp hb ha hpl hd he) fun σ H Q z => lL_mono (l_callA hr σ H Q z) fun vs H' q => l_nil σ H' _ q
theorem e_callPK {tt : List (Addr × Str)} (o : Cok X W k) {j : Nat} {kws : List Keyword} {ks : List Str} {gl : List Value → List Value → List Value} {gV : List V → List V → List V} {gD : List D → List D → List D} (F : FnG X.prog X.w X.K X.mg X.base j f fd ps (lSp X.K tt N sp)) (hm : X.mg x = some (.ref f)) (kp : PySem.W.keepIn X.K (.ref f) = true)
    (hb : KBn X.K fd ps n ks gl gV) (hr : GRel n ks.length N gV gD) (ha : PAd X τ W (e :: es) wl) (hkw : PKd X τ W kws wk) (hj : j ≤ k := by decide) (hg : Gl X x := by rfl) (hall : (backToKw pos (keywordEach kws X.env)).all (·.1.isSome) = true := by rfl) (hks : (backToKw pos (keywordEach kws X.env)).filterMap (·.1) = ks := by rfl)
    (he : starEach (e :: es) X.env = (false, eval e X.env) :: starEach es X.env := by rfl) (hd : (x == ("__debug__" : Str)) = false := by decide) (hpl : ((backTo pos (starEach (e :: es) X.env)).any (·.1) || (backToKw pos (keywordEach kws X.env)).any (·.1.isNone)) = false := by rfl) (ht : τ.t = tt := by rfl) :
    PEd X τ W (.Call (.Name x p) (e :: es) kws pos) (wCallA n ks.length sp gD wl wk) := by
  subst ht
  exact PE.imp (pe_gk (F.mono hj) o hg hm kp hb ha hkw hall hks he hd hpl) (l_callA hr)
theorem grel_non (n : Nat) : GRel n 0 (n + 1) (fun vs _ => vs ++ [V.non]) (fun ds _ => ds ++ [D.non]) := fun K S vs ds us es i1 i2 h1 h2 => ⟨i1.append (.cons .non .nil), by simp [h1]⟩
theorem grel_app (n m : Nat) : GRel n m (n + m) (fun vs us => vs ++ us) (fun ds es => ds ++ es) := fun K S vs ds us es i1 i2 h1 h2 => ⟨i1.append i2, by simp [h1, h2]⟩
theorem kb_non {K : Fg} {x qual q : Str} {params : Arguments} {body : List Stmt} {scope : Scope} (F : FunD K x qual params body scope [] [(q, .non)] f fd) (n : Nat) (hn : n + 1 = ps.length)
    (h : ∀ (D : Addr) (doc pm : Value) (an : Option Addr) (cdv ct : Value) (us ks : List Value), us.length = n → ks.length = 1 → KwChain D ([q].zip ks) (bindArgs (PySem.W.fnOf x qual params body scope .none (.ref D) doc pm an cdv ct) ⟨us, []⟩) (ps.zip (us ++ ks))) :
    KBn K fd ps n [] (fun us _ => us ++ [.none]) (fun vs _ => vs ++ [.non]) := by
  obtain ⟨ds, r, b⟩ := F.binds0 n (by simp) hn h
  have e : ds = [.none] := by
    cases r with
    | cons a r => cases r; exact congrArg (· :: []) a
  subst e
  exact ⟨fun s us ws hK h1 h2 => b s us hK (by rw [List.length_append, h1]; exact hn), fun r _ => r.append (.cons rfl .nil)⟩
end
end DL
set_option Elab.async false
set_option autoImplicit false
set_option linter.all false
set_option maxRecDepth 100000
set_option maxHeartbeats 3900000
namespace DL
open L2 PyProof.Rows PySem PySem.Spec
/-! ### sorted of what is collected: ints, any number -/
section
variable {P : Program} {w : World} {A : Around} {E : Value → Shared → Prop} {s : Shared}
theorem srt_any {l : Addr} {Cl : List Value → Shared → Prop} {Q : Value → Shared → Prop}
    (C : ∀ R : List Value → Shared → Prop, (∀ vs s1, Cl vs s1 → R vs s1) → wpAny (model P w) A.in1 (collect (.ref l)) R E s)
    (hI : ∀ vs s1, Cl vs s1 → IntsAre vs (vs.map SrtO.iv) ∧ vs.length ≤ sizeLine)
    (h : ∀ (vs : List Value) (s1 : Shared) (out : List Value) (c : Nat) (hp : Heap), Cl vs s1 → IntsAre out (out.map SrtO.iv) → (out.map SrtO.iv).Perm (vs.map SrtO.iv) → (out.map SrtO.iv).Pairwise (· ≤ ·) → (∀ b o, s1.heap.get? b = some o → hp.get? b = some o) →
      hp.get? s1.heap.objs.size = some (seqObj "list" out.toArray c) → Q (.ref s1.heap.objs.size) { s1 with heap := hp }) :
    wpAny (model P w) A (call (.builtin "sorted") [.ref l]) Q E s := by
  refine Calls.call_function_entry kind_sorted plain_sorted
    entry_sorted (args_sorted1 _) ?_
  unfold Builtin.«sorted»
  refine wpAny_bind (m := checkCount "sorted" 1 1 _)
    (wpAny_pure ?_)
  refine wpAny_bind (C _ fun vs s1 cl => ?_)
  obtain ⟨hi, hz⟩ := hI vs s1 cl
  refine wpAny_bind (wpAny_newList ?_ hz)
  have hoL : (s1.heap.push (seqObj "list" vs.toArray 0)).get? s1.heap.objs.size = some (seqObj "list" vs.toArray 0) :=
    Heap.get?_push_size _ rfl
  refine wpAny_bind (wpAny_holding (wpAny_call_entry slot_list_sort ⟨_, hoL, rfl⟩ entry_list_sort
    (SrtO.list_sort_ord SrtO.swo_int hoL hz (fun h2 => SrtO.ints_sortable hi h2) fun out g1 g2 => ⟨_, rfl, ?_⟩) (args_list_sort _)))
  obtain ⟨k1, k2, k3⟩ := SrtO.ints_out hi g1 g2
  obtain ⟨c, hc⟩ := sortedHeap_at (vs := vs) (out := out.toArray) hoL
  refine wpAny_pure ⟨_, rfl, h vs s1 out c _ cl k1 k2 k3 (fun b u e => ?_) hc⟩
  have hb := Heap.lt_size e
  rw [sortedHeap_old (Nat.ne_of_lt hb) (by rw [size_push']; exact Nat.lt_succ_of_lt hb)]
  exact Heap.get?_push_of_some _ e
end
def sortI (ns : List Int) : List Int := ns.mergeSort (fun a b => decide (a ≤ b))
theorem sortI_of {ns ys : List Int} (p : ys.Perm ns) (q : ys.Pairwise (· ≤ ·)) : ys = sortI ns := by
  have t : (sortI ns).Pairwise (· ≤ ·) := by
    have := List.pairwise_mergeSort (le := fun a b : Int => decide (a ≤ b)) (by intro a b c h1 h2; simp at *; omega) (by intro a b; simp; omega) ns
    exact this.imp (by intro a b h; simpa using h)
  exact (p.trans (List.mergeSort_perm ns _).symm).eq_of_pairwise (le := (· ≤ ·)) (fun a b _ _ h1 h2 => Int.le_antisymm h1 h2) q t
section
variable {X : Cx}
/-- sorted(d), keys ints, any number -/
def rSortDI : List V → Hp → VK → Prop := fun xs H Q => ∃ (a : Addr) (kvs : List (Key × V)) (ks : List Int), xs = [.ref a] ∧ Rd H a (.dK kvs) ∧ kvs.map (·.1) = ks.map Sum.inl ∧ ∀ p, H p = none → Q (.ref p) (upd H p (.lst ((sortI ks).map V.int)))
theorem cr_sortDI (hcalm : X.calm = true) : CallR X (.builtin "sorted") rSortDI := by
  intro pins s σ H xs us Q I r q
  obtain ⟨a, kvs, ks, rfl, hd, hks, q⟩ := q
  obtain ⟨u, rfl, rx⟩ := r.one
  cases rx
  obtain ⟨z, lo, vs, rel, dd⟩ := dk_rd I.hok hd
  obtain ⟨ep, hat⟩ := dd.dictAt
  have hkeys : vs.map (·.1) = ks.map Sum.inl := rel.keys.symm.trans hks
  have hl : vs.length = ks.length := by
    have e := congrArg List.length hkeys
    simpa using e
  have hkz : kvs.length = ks.length := by
    have e := congrArg List.length hks
    simpa using e
  have h16 : vs.length ≤ sizeLine := by omega
  refine srt_any (Cl := fun vs' s1 => ∃ h' tk, s1 = { s with heap := h', toks := tk } ∧ (∀ b o, s.heap.get? b = some o → h'.get? b = some o) ∧ IntsAre vs' ks) (fun R hR => ?_) (fun vs' s1 hc => ?_) fun vs' s1 out c hp hc k1 k2 k3 kp hg => ?_
  · refine PySem.W.kdu_collect (A := X.A.in1) (PySem.W.kdl_dict (knd := mixKind X.prog X.w) (kvs := vs) (ep := ep) lo) (I.ok.hd hcalm) hat h16 fun h' tk acc hk hacc => hR _ _ ⟨h', tk, rfl, hk, ?_⟩
    refine ints_each (by rw [Array.length_toList, hacc.1, hl]) fun j v e => ?_
    obtain ⟨k, x, e1, e2⟩ := hacc.2 j v (by rw [← Array.getElem?_toList]; exact e)
    have e3 : (vs.map (·.1))[j]? = some k := by rw [List.getElem?_map, e1]; rfl
    rw [hkeys, List.getElem?_map] at e3
    cases e4 : ks[j]? with
    | none => rw [e4] at e3; cases e3
    | some y =>
      rw [e4] at e3
      cases Option.some.inj e3
      rcases keyIs_shape (show keyIs (Sum.inl y) v = true from e2) with ⟨i, t, ek, ev⟩ | ⟨z, t, ek, ev⟩
      · cases ek; exact ⟨y, t, rfl, ev⟩
      · cases ek
  · obtain ⟨h', tk, -, -, hi⟩ := hc
    rw [SrtO.iv_ints hi]
    exact ⟨hi, by rw [hi.length, ← hkz]; exact z⟩
  · obtain ⟨h', tk, rfl, hk, hi⟩ := hc
    rw [SrtO.iv_ints hi] at k2
    have I1 : Inv X pins σ H { s with heap := h', toks := tk } := I.kept hk
    have e := sortI_of k2 k3
    refine ⟨.ref h'.objs.size, upd H h'.objs.size (.lst ((sortI ks).map V.int)), I1.laid (t' := tk) kp (Nat.le_refl _) (show ObjOk X.prog X.w _ _ _ (.lst _) from ⟨?_, out, c, ?_, hg⟩), rfl, q _ (I1.hok.fresh (Nat.le_refl _))⟩
    · rw [List.length_map, ← e, k2.length_eq, ← hkz]; exact z
    · rw [← e]; exact vals_of_ints k1
/-- set(t), t a tuple of ints -/
def rSetT (K : PySem.W.Frag) (w : World) : List V → Hp → VK → Prop := fun xs H Q => ∃ (p : Addr) (ns : List Int), xs = [.ref p] ∧ SqT K H p (ns.map V.int) ∧ ns.length ≤ 1000 ∧ ∀ a c, H a = none → c ≤ ns.length → Q (.ref a) (upd H a (SetO w a (fun j => decide (j ∈ ns)) c))
theorem cr_setT (hc : X.calm = true) : CallR X (.type "set") (rSetT X.K X.w) := by
  intro pins s σ H xs us Q I r q
  obtain ⟨p0, ns, rfl, hq, hl, q⟩ := q
  obtain ⟨u, rfl, rx⟩ := r.one
  cases rx
  obtain ⟨its, rv, pt, hz⟩ := I.tuple hq
  have hi : IntsAre its.toArray.toList ns := ints_of_vals rv
  refine call_set_tupI ns (I.ok.hd hc) (show s.heap.IsTuple p0 its.toArray from pt) hi (by unfold scanBound; omega) fun h' tk c R1 hcn k => ?_
  exact ⟨.ref s.heap.objs.size, _, I.laid k (Nat.le_refl _) (setO_new R1), rfl, q _ c (I.hok.fresh (Nat.le_refl _)) hcn⟩
/-- sorted(s), s a set of ints -/
def rSortSI (w : World) : List V → Hp → VK → Prop := fun vs H Q => ∃ (a : Addr) (ns : List Int) (n : Nat), vs = [V.ref a] ∧ H a = some (SetO w a (fun j => decide (j ∈ ns)) n) ∧ n ≤ sizeLine ∧
  ∀ (ys : List Int) (p : Addr), ys.Pairwise (· < ·) → (∀ k : Int, k ∈ ys ↔ k ∈ ns) → H p = none → Q (.ref p) (upd H p (.lst (ys.map V.int)))
theorem cr_sortSI (hc : X.calm = true) : CallR X (.builtin "sorted") (rSortSI X.w) := by
  intro pins s σ H vs us Q I r h
  obtain ⟨a, ns, n, rfl, ha, h64, q⟩ := h
  obtain ⟨u, rfl, rx⟩ := r.one
  cases rx
  obtain ⟨o, es, ep, t, ho, hex, hd, g, nd, hm, hb, hf, hn, hr, hl⟩ := setO_get I ha
  have hint : ∀ vs', vs'.Perm (es.toList.map (·.2)) → IntsAre vs' (vs'.map SrtO.iv) := fun vs' pm => SrtO.ints_iv fun v hv => by
    obtain ⟨e, he, q⟩ := List.mem_map.mp (pm.mem_iff.mp hv)
    obtain ⟨k, tk, h1, _⟩ := g e he
    exact ⟨k, tk, by rw [← q]; exact h1⟩
  refine srt_any (Cl := fun vs' s1 => (∀ b o, s.heap.get? b = some o → s1.heap.get? b = some o) ∧ s.heap.objs.size ≤ s1.heap.objs.size ∧ s1.gens = s.gens ∧ s1.os = s.os ∧ vs'.Perm (es.toList.map (·.2))) (fun R hR => ?_) (fun vs' s1 hc' => ?_) fun vs' s1 out c hp hc' k1 k2 k3 kp hg => ?_
  · exact collect_set (A := X.A.in1) (I.ok.hd hc) ⟨o, ho, hex.1, hd⟩ hf hb hr hl fun s1 vs' k1 hz g1 o1 pm => hR _ _ ⟨k1, hz, g1, o1, pm⟩
  · obtain ⟨-, -, -, -, pm⟩ := hc'
    refine ⟨hint _ pm, ?_⟩
    rw [pm.length_eq, List.length_map, Array.length_toList, hn]; exact h64
  · obtain ⟨kk, hz, hgen, hos, pm⟩ := hc'
    have hk : es.toList.map (SrtO.iv ∘ (·.2)) = es.toList.map keyOf := List.map_congr_left fun e he => by
      obtain ⟨k, tk, h1, _⟩ := g e he
      show SrtO.iv e.2 = keyOf e
      rw [key_vInt e, h1]
      rfl
    have pn : (out.map SrtO.iv).Perm (es.toList.map keyOf) := by
      have z := k2.trans (pm.map SrtO.iv)
      rw [List.map_map, hk] at z
      exact z
    have hlt : (out.map SrtO.iv).Pairwise (· < ·) := lt_of_le_nodup _ k3 (pn.nodup_iff.mpr nd)
    have hfr : H s1.heap.objs.size = none := I.hok.fresh hz
    have hlen : ((out.map SrtO.iv).map V.int).length ≤ sizeLine := by rw [List.length_map, pn.length_eq, List.length_map, Array.length_toList, hn]; exact h64
    have J : Inv X pins σ (upd H s1.heap.objs.size (.lst ((out.map SrtO.iv).map V.int))) { s1 with heap := hp } := by
      refine I.call' (ch := []) hos (Un.laid (fun b u e => kp b u (kk b u e)) hz hfr) (I.hok.laid (fun b u e => kp b u (kk b u e)) hz ⟨hlen, out, c, vals_of_ints k1, hg⟩) (by show AllBare s1.gens; rw [hgen]; exact I.bare) (fun _ z => nomatch z)
    exact ⟨.ref _, _, J, rfl, q _ _ hlt (fun k => by rw [pn.mem_iff, ← hm k, decide_eq_true_eq]) hfr⟩
end
end DL
set_option Elab.async false
set_option autoImplicit false
set_option linter.all false
set_option maxRecDepth 100000
set_option maxHeartbeats 3900000
namespace DL
open L2 PyProof.Rows PySem PySem.Spec
variable {τ : Tb}
/-! ### one's own dicts: {}, d[k] = v, sorted(d), list(d) -/
def keyDD : Key → D
  | .inl i => .int i
  | .inr s => .str s
theorem is_kV {K : Fg} {S : Hp} (k : Key) : Is K S (kV k) (keyDD k) := by
  cases k
  · exact .int _
  · exact .str _
theorem isAll_kV {K : Fg} {S : Hp} : ∀ k : List Key, IsAll K S (k.map kV) (k.map keyDD)
  | [] => .nil
  | k :: ks => .cons (is_kV k) (isAll_kV ks)
theorem keyDD_is {K : Fg} {S : Hp} {v : V} {k : Key} (h : Is K S v (keyDD k)) : v = kV k := by
  cases k <;> (cases h; rfl)
theorem keyDD_all {K : Fg} {S : Hp} : ∀ {k : List Key} {vs : List V}, IsAll K S vs (k.map keyDD) → vs = k.map kV
  | [], _, .nil => rfl
  | k :: ks, _, .cons a b => by rw [keyDD_is a, keyDD_all b]; rfl
section
variable {κ : Type} [DecidableEq κ]
def repD : List κ → List D → κ → D → List D
  | x :: ks, e :: ds, k, d => (if x = k then d else e) :: repD ks ds k d
  | _, _, _, _ => []
def putDk (ks : List κ) (k : κ) : List κ := if k ∈ ks then ks else ks ++ [k]
def putDv (ks : List κ) (ds : List D) (k : κ) (d : D) : List D := if k ∈ ks then repD ks ds k d else ds ++ [d]
theorem any_mem {kvs : List (κ × V)} {k : κ} : (kvs.any fun kv => decide (kv.1 = k)) = true ↔ k ∈ kvs.map (·.1) := by
  rw [List.any_eq_true, List.mem_map]
  exact ⟨fun ⟨p, a, b⟩ => ⟨p, a, of_decide_eq_true b⟩, fun ⟨p, a, b⟩ => ⟨p, a, decide_eq_true b⟩⟩
theorem putK_keys {kvs : List (κ × V)} {k : κ} {v : V} : (putK kvs k v).map (·.1) = putDk (kvs.map (·.1)) k := by
  unfold putK putDk
  by_cases h : k ∈ kvs.map (·.1)
  · rw [if_pos (any_mem.mpr h), if_pos h, List.map_map]
    refine List.map_congr_left fun p _ => ?_
    show (if p.1 = k then (p.1, v) else p).1 = p.1
    split <;> rfl
  · rw [if_neg (fun z => h (any_mem.mp z)), if_neg h, List.map_append]
    rfl
theorem repD_all {K : Fg} {S : Hp} {k : κ} {v : V} {d : D} (hv : Is K S v d) : ∀ {kvs : List (κ × V)} {ds : List D}, IsAll K S (kvs.map (·.2)) ds → IsAll K S ((kvs.map fun kv => if kv.1 = k then (kv.1, v) else kv).map (·.2)) (repD (kvs.map (·.1)) ds k d)
  | [], _, .nil => .nil
  | (x, u) :: r, _, .cons (d := e) a b => by
    show IsAll K S ((if x = k then (x, v) else (x, u)).2 :: _) ((if x = k then d else e) :: _)
    refine .cons ?_ (repD_all hv b)
    by_cases h : x = k
    · rw [if_pos h, if_pos h]; exact hv
    · rw [if_neg h, if_neg h]; exact a
theorem putK_vals {K : Fg} {S : Hp} {k : κ} {v : V} {d : D} (hv : Is K S v d) {kvs : List (κ × V)} {ds : List D} (h : IsAll K S (kvs.map (·.2)) ds) : IsAll K S ((putK kvs k v).map (·.2)) (putDv (kvs.map (·.1)) ds k d) := by
  unfold putK putDv
  by_cases hk : k ∈ kvs.map (·.1)
  · rw [if_pos (any_mem.mpr hk), if_pos hk]; exact repD_all hv h
  · rw [if_neg (fun z => hk (any_mem.mp z)), if_neg hk, List.map_append]
    exact h.append (.cons hv .nil)
end
def woDicT : WEO := fun ρ _ Φ => ∀ l, Φ l (.t [] []) ρ
/-- d[k] = e, d the slot i -/
def wPutK (i : Nat) (wk wa : WE) : WS := fun ρ Δ => wa ρ Δ.xc fun d ρ1 => (∃ l ks ds, ρ1[i]? = some (Sl.own l (.k ks ds))) ∧ wk ρ1 Δ.xc fun y ρ2 => match ρ2[i]? with
  | some (.own l (.k ks ds)) => ∃ k, y = keyDD k ∧ ks.length < sizeLine ∧ Δ.nx (ρ2.set i (.own l (.k (putDk ks k) (putDv ks ds k d))))
  | _ => False
def wPutT (i : Nat) (wk wa : WE) : WS := fun ρ Δ => wa ρ Δ.xc fun d ρ1 => (∃ l ks ds, ρ1[i]? = some (Sl.own l (.t ks ds))) ∧ wk ρ1 Δ.xc fun y ρ2 => match ρ2[i]? with
  | some (.own l (.t ks ds)) => ∃ k : List Key, k ≠ [] ∧ y = .tup (k.map keyDD) ∧ ks.length < sizeLine ∧ Δ.nx (ρ2.set i (.own l (.t (putDk ks k) (putDv ks ds k d))))
  | _ => False
/-- sorted(d), its keys ints -/
def wSortDO (i : Nat) : WE := fun ρ _ Φ => match ρ[i]? with
  | some (.own _ (.k ks _)) => ∃ ns, ks = ns.map Sum.inl ∧ Φ (.lst ((sortI ns).map D.int)) ρ
  | _ => False
/-- list(d), its keys tuples -/
def wKeysT (i : Nat) : WE := fun ρ _ Φ => match ρ[i]? with
  | some (.own _ (.t ks _)) => ks.length ≤ sizeLine ∧ Φ (.lst (ks.map fun k => D.tup (k.map keyDD))) ρ
  | _ => False
section
variable {K : Fg} {W : WX} {wk wa : WE} {i : Nat}
theorem lo_dicT : ∀ σ H Q, lEO K τ W woDicT σ H Q → tDNewT σ H Q := by
  rintro σ H Q ⟨ρ, S, F, χ, Φ, e, hw, hx, hp⟩
  intro p hp1
  exact hp p _ _ ρ S _ (hw p) (Same.refl S) upd_same (.t rfl .nil) (e.sp hp1) (e.fp hp1) (e.notOwn hp1) (e.addH hp1)
theorem l_putK : ∀ D σ H, lS K τ W (wPutK i wk wa) D σ H → tAsg (lE K τ W wa) (gSub (tVar i) (lE K τ W wk) rSetD) D σ H := by
  rintro D σ H ⟨ρ, S, F, Δ, e, hw, hx, h1, h2, h3, h4, h5⟩
  refine ⟨ρ, S, F, _, _, e, hw, hx, fun x dx ρ1 S1 H1 q1 s1 i1 e1 => ?_⟩
  obtain ⟨⟨l, xs, ds, hl⟩, q1⟩ := q1
  obtain ⟨hσ, _⟩ := e1.own i l _ hl
  refine ⟨.ref l, hσ, ρ1, S1, F, _, _, e1, q1, hx.mono s1, fun y dy ρ2 S2 H2 q2 s2 i2 e2 => ?_⟩
  split at q2
  · rename_i l' ks' ds' hl'
    obtain ⟨b1, b2, b3, ob, b4, b5⟩ := e2.own i l' _ hl'
    rw [hσ] at b1
    cases b1
    obtain ⟨k, rfl, hlen, q3⟩ := q2
    rw [keyDD_is i2]
    cases b5 with
    | k hn b6 =>
      subst hn
      rw [List.length_map] at hlen
      refine ⟨l, _, rfl, DPut.k b4 hlen, h1 _ S2 _ _ q3 (s1.trans s2) (e2.wr hl' (.k putK_keys (putK_vals (i1.mono s2) b6)))⟩
  · exact q2.elim
theorem l_putT : ∀ D σ H, lS K τ W (wPutT i wk wa) D σ H → tAsg (lE K τ W wa) (gSub (tVar i) (lE K τ W wk) rSetD) D σ H := by
  rintro D σ H ⟨ρ, S, F, Δ, e, hw, hx, h1, h2, h3, h4, h5⟩
  refine ⟨ρ, S, F, _, _, e, hw, hx, fun x dx ρ1 S1 H1 q1 s1 i1 e1 => ?_⟩
  obtain ⟨⟨l, xs, ds, hl⟩, q1⟩ := q1
  obtain ⟨hσ, _⟩ := e1.own i l _ hl
  refine ⟨.ref l, hσ, ρ1, S1, F, _, _, e1, q1, hx.mono s1, fun y dy ρ2 S2 H2 q2 s2 i2 e2 => ?_⟩
  split at q2
  · rename_i l' ks' ds' hl'
    obtain ⟨b1, b2, b3, ob, b4, b5⟩ := e2.own i l' _ hl'
    rw [hσ] at b1
    cases b1
    obtain ⟨k, hk0, rfl, hlen, q3⟩ := q2
    cases i2 with
    | ktup a b a3 => exact absurd (List.map_eq_nil_iff.mp a3) hk0
    | tup a b =>
      cases keyDD_all b
      cases b5 with
      | t hn b6 =>
        subst hn
        rw [List.length_map] at hlen
        refine ⟨l, _, rfl, DPut.t b4 (e2.ex _ _ a) hlen, h1 _ S2 _ _ q3 (s1.trans s2) (e2.wr hl' (.t putK_keys (putK_vals (i1.mono s2) b6)))⟩
  · exact q2.elim
theorem isAll_ints {K : Fg} {S : Hp} : ∀ ns : List Int, IsAll K S (ns.map V.int) (ns.map D.int)
  | [] => .nil
  | n :: ns => .cons (.int n) (isAll_ints ns)
theorem l_sortDO : ∀ σ H Q, lE K τ W (wSortDO i) σ H Q → tCB rSortDI (tCons (tVar i) tNil) σ H Q := by
  rintro σ H Q ⟨ρ, S, F, χ, Φ, e, hw, hx, hp⟩
  unfold wSortDO at hw
  split at hw
  · rename_i l ks ds hl
    obtain ⟨ns, rfl, q⟩ := hw
    obtain ⟨b1, b2, b3, ob, b4, b5⟩ := e.own i l _ hl
    cases b5 with
    | k hn b6 => exact ⟨.ref l, b1, l, _, ns, rfl, .inl b4, hn, fun p hp1 => hp _ _ ρ _ _ q (e.sn hp1) (.lst upd_same (isAll_ints _)) (e.new hp1)⟩
  · exact hw.elim
/-- the tuples of a list of addresses never change -/
theorem ER.addTups {S F H : Hp} {ρ : Rho} {σ : L2.St} : ∀ {kvs : List (List Key × V)} {bs : List Addr} {S : Hp}, ER K τ S F H ρ σ → IsKeys H kvs bs → ∃ S', Same S S' ∧ ER K τ S' F H ρ σ ∧ IsAll K S' (bs.map V.ref) (kvs.map fun p => D.tup (p.1.map keyDD)) := by
  intro kvs bs S e h
  unfold IsKeys at h
  induction h generalizing S with
  | nil => exact ⟨S, Same.refl S, e, .nil⟩
  | cons hb _ ih =>
    rename_i p b kvs bs _
    obtain ⟨S1, s1, e1, i1⟩ := ih e
    cases hS : S1 b with
    | some u =>
      have z := e1.ex _ _ hS
      rw [hb] at z; cases z
      exact ⟨S1, s1, e1, .cons (.tup hS (isAll_kV _)) i1⟩
    | none =>
      have sS : Same S1 (upd S1 b (.tup (p.1.map kV))) := fun a u q => by rw [upd_ne (ne_of_none q hS)]; exact q
      refine ⟨_, s1.trans sS, ⟨e1.len, fun a u q => ?_, fun a u q => ?_, fun j d q => ?_, fun j m od q => ?_, e1.dis, e1.tb.addS hb hS (fun ps z => by cases z)⟩, .cons (.tup upd_same (isAll_kV _)) (i1.mono sS)⟩
      · by_cases ha : a = b
        · subst ha; rw [upd_same] at q; cases q; exact hb
        · rw [upd_ne ha] at q; exact e1.ex a u q
      · obtain ⟨a1, a2⟩ := e1.fr a u q
        by_cases ha : a = b
        · subst ha; rw [hb] at a1; cases a1; exact ⟨hb, .inr ⟨_, rfl⟩⟩
        · rw [upd_ne ha]; exact ⟨a1, a2⟩
      · obtain ⟨v, a1, a2⟩ := e1.val j d q
        exact ⟨v, a1, a2.mono sS⟩
      · obtain ⟨a1, a2, a3, ob, a4, a5⟩ := e1.own j m od q
        have ne : m ≠ b := fun z => by subst z; rw [hb] at a4; cases a4; exact a5.nt ⟨_, rfl⟩
        exact ⟨a1, by rw [upd_ne ne]; exact a2, a3, ob, a4, a5.mono sS⟩
theorem l_keysT : ∀ σ H Q, lE K τ W (wKeysT i) σ H Q → tCB (fun xs H Q => ∃ d kvs, xs = [V.ref d] ∧ Rd H d (.dT kvs) ∧ ∀ p bs, H p = none → IsKeys H kvs bs → Q (.ref p) (upd H p (.lst (bs.map V.ref)))) (tCons (tVar i) tNil) σ H Q := by
  rintro σ H Q ⟨ρ, S, F, χ, Φ, e, hw, hx, hp⟩
  unfold wKeysT at hw
  split at hw
  · rename_i l ks ds hl
    obtain ⟨hlen, q⟩ := hw
    obtain ⟨b1, b2, b3, ob, b4, b5⟩ := e.own i l _ hl
    cases b5 with
    | t hn b6 =>
      subst hn
      refine ⟨.ref l, b1, l, _, rfl, .inl b4, fun p bs hp1 hk => ?_⟩
      obtain ⟨S', s', e', ia⟩ := e.addTups (S := S) hk
      refine hp _ _ ρ _ _ q (s'.trans (e'.sn hp1)) (.lst upd_same ?_) (e'.new hp1)
      have := ia.mono (e'.sn (o := .lst (bs.map V.ref)) hp1)
      rw [List.map_map]
      exact this
  · exact hw.elim
end
end DL
set_option Elab.async false
set_option autoImplicit false
set_option linter.all false
set_option maxRecDepth 100000
set_option maxHeartbeats 3900000
namespace DL
open L2 PyProof.Rows PySem PySem.Spec
variable {τ : Tb}
/-- an own list(range(n)) -/
def woRg (wa : WE) : WEO := fun ρ χ Φ => wa ρ χ fun d ρ1 => match d with
  | .int n => RgOk 0 n ∧ ∀ l, Φ l (.l (rgD 0 n.toNat)) ρ1
  | _ => False
theorem lo_rg {K : Fg} {W : WX} {wa : WE} : ∀ σ H Q, lEO K τ W (woRg wa) σ H Q → tLstRg (tRg1 (lE K τ W wa)) σ H Q := by
  rintro σ H Q ⟨ρ, S, F, χ, Φ, e, hw, hx, hp⟩
  refine ⟨ρ, S, F, χ, _, e, hw, hx, fun x dx ρ1 S1 H1 h1 s1 i1 e1 => ?_⟩
  cases i1 with
  | int n =>
    refine ⟨n, rfl, h1.1, fun p hp1 => hp p _ _ ρ1 S1 _ (h1.2 p) s1 upd_same (.l ?_) (e1.sp hp1) (e1.fp hp1) (e1.notOwn hp1) (e1.addH hp1)⟩
    have z := isAll_rg (K := K) (S := S1) 0 n
    rw [Int.sub_zero] at z
    exact z
  | _ => exact False.elim h1
/-- x[k] as a target, x one's own list -/
def wgSub (i : Nat) (wk : WE) : WG := fun d ρ Φ => (∃ l xs, ρ[i]? = some (Sl.own l (.l xs))) ∧ wk ρ χ0 fun k ρ2 => match k, ρ2[i]? with
  | .int z, some (.own l (.l xs)) => ∃ j, ixN xs.length z = some j ∧ Φ (ρ2.set i (.own l (.l (xs.set j d))))
  | _, _ => False
theorem g_sub {K : Fg} {W : WX} {i : Nat} {wk : WE} : ∀ x σ H Q, lG K τ (wgSub i wk) x σ H Q → gSub (tVar i) (lE K τ W wk) rSetL x σ H Q := by
  rintro x σ H Q ⟨ρ, S, F, d, Φ, e, hi, ⟨⟨l, xs, hl⟩, q1⟩, hp⟩
  obtain ⟨hσ, _⟩ := e.own i l _ hl
  refine ⟨.ref l, hσ, ρ, S, F, χ0, _, e, q1, XOk.none, fun y dy ρ2 S2 H2 q2 s2 i2 e2 => ?_⟩
  split at q2
  · rename_i z l' ys hl'
    obtain ⟨b1, b2, b3, ob, b4, b5⟩ := e2.own i l' _ hl'
    rw [hσ] at b1
    cases b1
    cases i2
    cases b5 with
    | l b6 =>
      obtain ⟨j, q3, q4⟩ := q2
      exact ⟨l, _, z, j, rfl, rfl, b4, by rw [b6.length]; exact q3, hp _ S2 _ _ q4 s2 (e2.wr hl' (.l (IsAll.set (hi.mono s2) j b6)))⟩
  · exact q2.elim
/-- i in x, i not in x: x one's own list of ints -/
def wInO (neg : Bool) (wa : WE) (i : Nat) : WE := fun ρ χ Φ => wa ρ χ fun d ρ1 => match d, ρ1[i]? with
  | .int z, some (.own _ (.l ds)) => ∃ ns, intsOf ds = some ns ∧ Φ (.bl (if neg then !decide (z ∈ ns) else decide (z ∈ ns))) ρ1
  | _, _ => False
def tOpO (r : R2) (t : TE) (i : Nat) : TE := tOp r t (tVar i)
theorem l_inO {K : Fg} {W : WX} {wa : WE} {i : Nat} {neg : Bool} : ∀ σ H Q, lE K τ W (wInO neg wa i) σ H Q → tOp (rIn K neg) (lE K τ W wa) (tVar i) σ H Q := by
  rintro σ H Q ⟨ρ, S, F, χ, Φ, e, hw, hx, hp⟩
  refine ⟨ρ, S, F, χ, _, e, hw, hx, fun x dx ρ1 S1 H1 h1 s1 i1 e1 => ?_⟩
  split at h1
  · rename_i z l ds hl
    obtain ⟨b1, b2, b3, ob, b4, b5⟩ := e1.own i l _ hl
    obtain ⟨ns, h2, h3⟩ := h1
    cases i1
    cases b5 with
    | l b6 =>
      cases ints_is b6 h2
      exact ⟨.ref l, b1, _, _, rfl, .inl (.inl (.inl b4)), rfl, flat_ints ns, by rw [inV_ints]; exact hp _ _ ρ1 S1 H1 h3 s1 (.bl _) e1⟩
  · exact h1.elim
/-- the ascending ints of a list, each once -/
def dedI : List Int → List Int
  | [] => []
  | n :: ns => if n ∈ ns then dedI ns else n :: dedI ns
theorem mem_dedI {k : Int} : ∀ {ns : List Int}, k ∈ dedI ns ↔ k ∈ ns
  | [] => Iff.rfl
  | n :: ns => by
    unfold dedI
    split
    · rename_i h
      rw [mem_dedI, List.mem_cons]
      exact ⟨.inr, fun z => z.elim (fun e => e ▸ h) id⟩
    · rw [List.mem_cons, List.mem_cons, mem_dedI]
theorem nodup_dedI : ∀ {ns : List Int}, (dedI ns).Nodup
  | [] => List.Pairwise.nil
  | n :: ns => by
    unfold dedI
    split
    · exact nodup_dedI
    · rename_i h
      exact List.nodup_cons.mpr ⟨fun z => h (mem_dedI.mp z), nodup_dedI⟩
def setI (ns : List Int) : List Int := sortI (dedI ns)
theorem setI_of {ns ys : List Int} (p : ys.Pairwise (· < ·)) (q : ∀ k, k ∈ ys ↔ k ∈ ns) : ys = setI ns := by
  have nd : ys.Nodup := p.imp (fun h => Int.ne_of_lt h)
  refine sortI_of ?_ (p.imp Int.le_of_lt)
  exact (List.perm_ext_iff_of_nodup nd nodup_dedI).mpr fun k => (q k).trans mem_dedI.symm
/-- sorted(set(x)), x a tuple of ints -/
def wSortSet (wa : WE) : WE := fun ρ χ Φ => wa ρ χ fun d ρ1 => match d with
  | .tup ds => ∃ ns, intsOf ds = some ns ∧ ns.length ≤ 1000 ∧ Φ (.lst ((setI ns).map D.int)) ρ1
  | _ => False
theorem l_sortSet {K : Fg} {W : WX} {w : World} {wa : WE} : ∀ σ H Q, lE K τ W (wSortSet wa) σ H Q → tCB (rSortSI w) (tCons (tCB (rSetT K w) (tCons (lE K τ W wa) tNil)) tNil) σ H Q := by
  rintro σ H Q ⟨ρ, S, F, χ, Φ, e, hw, hx, hp⟩
  refine ⟨ρ, S, F, χ, _, e, hw, hx, fun x dx ρ1 S1 H1 h1 s1 i1 e1 => ?_⟩
  cases i1 with
  | tup a b =>
    obtain ⟨ns, h2, h3, h4⟩ := h1
    cases ints_is b h2
    refine ⟨_, ns, rfl, .inl (.inl (e1.ex _ _ a)), h3, fun p c hp1 hc => ⟨p, ns, c, rfl, upd_same, by rw [sizeLine_eq]; omega, fun ys p2 y1 y2 hp2 => ?_⟩⟩
    have e2 := e1.addH (o := SetO w p (fun j => decide (j ∈ ns)) c) hp1
    cases setI_of y1 y2
    exact hp _ _ ρ1 _ _ h4 (s1.trans (e2.sn hp2)) (.lst upd_same (isAll_ints _)) (e2.new hp2)
  | ktup a b a3 =>
    obtain ⟨ns, h2, h3, h4⟩ := h1
    cases ints_is b h2
    refine ⟨_, ns, rfl, .inr a, h3, fun p c hp1 hc => ⟨p, ns, c, rfl, upd_same, by rw [sizeLine_eq]; omega, fun ys p2 y1 y2 hp2 => ?_⟩⟩
    have e2 := e1.addH (o := SetO w p (fun j => decide (j ∈ ns)) c) hp1
    cases setI_of y1 y2
    exact hp _ _ ρ1 _ _ h4 (s1.trans (e2.sn hp2)) (.lst upd_same (isAll_ints _)) (e2.new hp2)
  | _ => exact False.elim h1
section
variable {X : Cx} {W : WX} {k kt k2 : Nat} {x y : Str} {a b c e f : Expr} {p px py pt pt2 pos pos' tpos tpos2 : Pos} {wa wb wj wj2 : WE}
theorem o_rg (hc : X.calm = true) (hm : X.mg "list" = none) (hm2 : X.mg "range" = none) (ha : PEd X τ W a wa) (hg : Gl X "list" := by rfl) (hg2 : Gl X "range" := by rfl) (na : starEach [a] X.env = (false, eval a X.env) :: starEach [] X.env := by rfl)
    (nb : starEach [.Call (.Name "range" p) [a] [] pos'] X.env = (false, eval (.Call (.Name "range" p) [a] [] pos') X.env) :: starEach [] X.env := by rfl) : PEO X τ W (.Call (.Name "list" px) [.Call (.Name "range" p) [a] [] pos'] [] pos) (woRg wa) :=
  PE.imp (pe_listRg hc hg hm (prg_1 hg2 hm2 ha na) nb) lo_rg
theorem o_dicK : PEO X τ W (.Dict [] [] pos) woDic := PE.imp pe_dnewK lo_dic
theorem o_dicT : PEO X τ W (.Dict [] [] pos) woDicT := PE.imp pe_dnewT lo_dicT
theorem s_putK (q : Cok X W k) (i : Nat) (hk : PEd X τ W b wj) (h : PEd X τ W e wa) (hN : X.N[i]? = some x := by rfl) (hv : Vis X.env.scope x := by first | exact .inl rfl | exact .inr (.inl rfl) | exact .inr (.inr rfl)) (hd : (x == ("__debug__" : Str)) = false := by decide) (hc : (x == ("__classdict__" : Str)) = false := by decide)
    (ha : ∀ v, assign (.Subscript (.Name x p) b tpos) X.env v = (do
      let ov ← holding [v] (eval (.Name x p) X.env)
      let iv ← holding [v, ov] (eval b X.env)
      standAt tpos
      holding [v, ov, iv] (setItem ov iv v); release [v, ov, iv] []) := by intro _; rfl)
    (hs : swapsWithSole [.Subscript (.Name x p) b tpos] e pos.line X.env = pure false := by rfl) (hw : swappedStores [.Subscript (.Name x p) b tpos] e X.env = pure none := by rfl)
    (h1 : (assignEach [.Subscript (.Name x p) b tpos] X.env).map (·.2) = [assign (.Subscript (.Name x p) b tpos) X.env] := by rfl) : PSd X τ W (.Assign [.Subscript (.Name x p) b tpos] e pos) (wPutK i wj wa) :=
  PS.imp (ps_asg h (pg_sub (pe_var hN hv hd hc) hk (set_dict q.hu) ha) hs hw h1) l_putK
theorem s_putT (q : Cok X W k) (i : Nat) (hk : PEd X τ W b wj) (h : PEd X τ W e wa) (hN : X.N[i]? = some x := by rfl) (hv : Vis X.env.scope x := by first | exact .inl rfl | exact .inr (.inl rfl) | exact .inr (.inr rfl)) (hd : (x == ("__debug__" : Str)) = false := by decide) (hc : (x == ("__classdict__" : Str)) = false := by decide)
    (ha : ∀ v, assign (.Subscript (.Name x p) b tpos) X.env v = (do
      let ov ← holding [v] (eval (.Name x p) X.env)
      let iv ← holding [v, ov] (eval b X.env)
      standAt tpos
      holding [v, ov, iv] (setItem ov iv v); release [v, ov, iv] []) := by intro _; rfl)
    (hs : swapsWithSole [.Subscript (.Name x p) b tpos] e pos.line X.env = pure false := by rfl) (hw : swappedStores [.Subscript (.Name x p) b tpos] e X.env = pure none := by rfl)
    (h1 : (assignEach [.Subscript (.Name x p) b tpos] X.env).map (·.2) = [assign (.Subscript (.Name x p) b tpos) X.env] := by rfl) : PSd X τ W (.Assign [.Subscript (.Name x p) b tpos] e pos) (wPutT i wj wa) :=
  PS.imp (ps_asg h (pg_sub (pe_var hN hv hd hc) hk (set_dict q.hu) ha) hs hw h1) l_putT
theorem e_sortDO {i : Nat} (hc : X.calm = true) (hm : X.mg "sorted" = none) (hN : X.N[i]? = some y := by rfl) (hv : Vis X.env.scope y := by first | exact .inl rfl | exact .inr (.inl rfl) | exact .inr (.inr rfl)) (hg : Gl X "sorted" := by rfl) (hd : (y == ("__debug__" : Str)) = false := by decide) (hcd : (y == ("__classdict__" : Str)) = false := by decide)
    (he : starEach [.Name y p] X.env = (false, eval (.Name y p) X.env) :: starEach [] X.env := by rfl) : PEd X τ W (.Call (.Name "sorted" px) [.Name y p] [] pos) (wSortDO i) :=
  PE.imp (pe_callB (cr_sortDI hc) hg hm (by decide +kernel) (pa_cons (pe_var hN hv hd hcd) pa_nil he) (by decide) (by decide) he rfl) l_sortDO
theorem e_keysT {i : Nat} (hc : X.calm = true) (hm : X.mg "list" = none) (hN : X.N[i]? = some y := by rfl) (hv : Vis X.env.scope y := by first | exact .inl rfl | exact .inr (.inl rfl) | exact .inr (.inr rfl)) (hg : Gl X "list" := by rfl) (hd : (y == ("__debug__" : Str)) = false := by decide) (hcd : (y == ("__classdict__" : Str)) = false := by decide)
    (he : starEach [.Name y p] X.env = (false, eval (.Name y p) X.env) :: starEach [] X.env := by rfl) : PEd X τ W (.Call (.Name "list" px) [.Name y p] [] pos) (wKeysT i) :=
  PE.imp (pe_callTy (call_list_dT hc) hg hm PyProof.Rows.Boot.list (pa_cons (pe_var hN hv hd hcd) pa_nil he) (by decide) (by decide) he rfl) l_keysT
theorem e_sortSet (hc : X.calm = true) (hm : X.mg "sorted" = none) (hm2 : X.mg "set" = none) (ha : PEd X τ W a wa) (hg : Gl X "sorted" := by rfl) (hg2 : Gl X "set" := by rfl) (he2 : starEach [a] X.env = (false, eval a X.env) :: starEach [] X.env := by rfl)
    (he : starEach [.Call (.Name "set" p) [a] [] pos'] X.env = (false, eval (.Call (.Name "set" p) [a] [] pos') X.env) :: starEach [] X.env := by rfl) : PEd X τ W (.Call (.Name "sorted" px) [.Call (.Name "set" p) [a] [] pos'] [] pos) (wSortSet wa) :=
  PE.imp (pe_callB (cr_sortSI hc) hg hm (by decide +kernel) (pa_cons (pe_callTy (cr_setT hc) hg2 hm2 (by decide +kernel) (pa_cons ha pa_nil he2) (by decide) (by decide) he2 rfl) pa_nil he) (by decide) (by decide) he rfl) l_sortSet
theorem e_inO {i : Nat} (ha : PEd X τ W a wa) (hN : X.N[i]? = some y := by rfl) (hv : Vis X.env.scope y := by first | exact .inl rfl | exact .inr (.inl rfl) | exact .inr (.inr rfl)) (hd : (y == ("__debug__" : Str)) = false := by decide) (hcd : (y == ("__classdict__" : Str)) = false := by decide)
    (h1 : behindInMarks .In (.Name y p) = false := by rfl) : PEd X τ W (.Compare a [.In] [.Name y p] pos) (wInO false wa i) := PE.imp (pe_cmpR op_in_seq ha (pe_var hN hv hd hcd) h1) l_inO
theorem e_ninO {i : Nat} (ha : PEd X τ W a wa) (hN : X.N[i]? = some y := by rfl) (hv : Vis X.env.scope y := by first | exact .inl rfl | exact .inr (.inl rfl) | exact .inr (.inr rfl)) (hd : (y == ("__debug__" : Str)) = false := by decide) (hcd : (y == ("__classdict__" : Str)) = false := by decide)
    (h1 : behindInMarks .NotIn (.Name y p) = false := by rfl) : PEd X τ W (.Compare a [.NotIn] [.Name y p] pos) (wInO true wa i) := PE.imp (pe_cmpR op_notIn_seq ha (pe_var hN hv hd hcd) h1) l_inO
theorem t_inO {i : Nat} (ha : PEd X τ W a wa) (hN : X.N[i]? = some y := by rfl) (hv : Vis X.env.scope y := by first | exact .inl rfl | exact .inr (.inl rfl) | exact .inr (.inr rfl)) (hd : (y == ("__debug__" : Str)) = false := by decide) (hcd : (y == ("__classdict__" : Str)) = false := by decide)
    (h1 : behindInMarks .In (.Name y p) = false := by rfl) : PTd X τ W (.Compare a [.In] [.Name y p] pos) (wB (wInO false wa i)) := t_of (pt_cmpR op_in_seq ha (pe_var hN hv hd hcd) h1) l_inO
theorem t_ninO {i : Nat} (ha : PEd X τ W a wa) (hN : X.N[i]? = some y := by rfl) (hv : Vis X.env.scope y := by first | exact .inl rfl | exact .inr (.inl rfl) | exact .inr (.inr rfl)) (hd : (y == ("__debug__" : Str)) = false := by decide) (hcd : (y == ("__classdict__" : Str)) = false := by decide)
    (h1 : behindInMarks .NotIn (.Name y p) = false := by rfl) : PTd X τ W (.Compare a [.NotIn] [.Name y p] pos) (wB (wInO true wa i)) := t_of (pt_cmpR op_notIn_seq ha (pe_var hN hv hd hcd) h1) l_inO
/-- x[i], y[j] as a target -/
theorem g_twoS {q q2 : Pos} (hc : X.calm = true) (i m : Nat) (ha : PEd X τ W a wj) (hb : PEd X τ W b wj2) (hi : X.N[i]? = some x := by rfl) (hj : X.N[m]? = some y := by rfl) (hv : Vis X.env.scope x := by first | exact .inl rfl | exact .inr (.inl rfl) | exact .inr (.inr rfl)) (hv2 : Vis X.env.scope y := by first | exact .inl rfl | exact .inr (.inl rfl) | exact .inr (.inr rfl))
    (hd : (x == ("__debug__" : Str)) = false := by decide) (hcd : (x == ("__classdict__" : Str)) = false := by decide) (hd2 : (y == ("__debug__" : Str)) = false := by decide) (hcd2 : (y == ("__classdict__" : Str)) = false := by decide)
    (h1 : ∀ v, assign (.Subscript (.Name x q) a tpos) X.env v = (do
      let ov ← holding [v] (eval (.Name x q) X.env)
      let iv ← holding [v, ov] (eval a X.env)
      standAt tpos
      holding [v, ov, iv] (setItem ov iv v); release [v, ov, iv] []) := by intro _; rfl)
    (h2 : ∀ v, assign (.Subscript (.Name y q2) b tpos2) X.env v = (do
      let ov ← holding [v] (eval (.Name y q2) X.env)
      let iv ← holding [v, ov] (eval b X.env)
      standAt tpos2
      holding [v, ov, iv] (setItem ov iv v); release [v, ov, iv] []) := by intro _; rfl)
    (hn : (assignEach [.Subscript (.Name x q) a tpos, .Subscript (.Name y q2) b tpos2] X.env).length = 2 := by rfl) (hst : (assignEach [.Subscript (.Name x q) a tpos, .Subscript (.Name y q2) b tpos2] X.env).findIdx? (·.1) = none := by rfl) :
    PGd X τ (.Tuple [.Subscript (.Name x q) a tpos, .Subscript (.Name y q2) b tpos2] kt pt) (wgTup 2 (wgCons (wgSub i wj) (wgCons (wgSub m wj2) wgNil))) :=
  PG.imp (pg_tup hc (PGs.imp (pgs_cons (PG.imp (pg_sub (pe_var hi hv hd hcd) ha set_list h1) g_sub) (PGs.imp (pgs_cons (PG.imp (pg_sub (pe_var hj hv2 hd2 hcd2) hb set_list h2) g_sub) (PGs.imp pgs_nil g_nil)) g_cons)) g_cons) hn hst) g_tup
end
/-- name = [..] on one line, the list one's own -/
theorem s_setLcO {X : Cx} {W : WX} {y : Str} {tg iter elt : Expr} {ifs : List Expr} {scope : Scope} {own : List (Str × Nat)} {pos spos py : Pos} {wi : WL} {g : WG} {wt : WT} {we : WE} (i : Nat) (hc : X.calm = true) (hN : X.N.Nodup) (hi : PId X τ W tg iter wi) (ok : BlkOk X.N X.env.scope scope own)
    (hg : Blk X (fun Y => PG Y tg (lGc X.K τ (own.map (·.2)) g)) scope) (ht : Blk X (fun Y => PTs Y ifs (lT X.K τ W0 wt)) scope) (he : Blk X (fun Y => PE Y elt (lE X.K τ W0 we)) scope) (hy : X.N[i]? = some y := by rfl) (hyl : X.env.scope.names.lookup y = some .local := by rfl)
    (hsw : swapsWith (.ListComp elt [⟨tg, iter, ifs, 0⟩] scope pos) (some (.Name y py)) spos.line X.env = pure true := by rfl) (hs : ∀ x, foldedSetIterable iter X.env x = pure x := by intro _; rfl) :
    PSd X τ W (.Assign [.Name y py] (.ListComp elt [⟨tg, iter, ifs, 0⟩] scope pos) spos) (wAsgO i (woLc wi g wt we (own.map (·.2)))) :=
  PS.imp (PS.imp (ps_setLc hc hN hy hyl hsw hi ok hg ht he hs) fun D σ H z => lo_lc σ H _ z) l_asgO
end DL
set_option Elab.async false
set_option autoImplicit false
set_option linter.all false
set_option maxRecDepth 100000
set_option maxHeartbeats 3900000
namespace DL
open L2 PyProof.Rows PySem PySem.Spec
variable {τ : Tb}
/-! ### range with a step -/
def rgC (lo c : Int) (n : Nat) : List D := (List.range n).map fun i => D.int (lo + (i : Nat) * c)
theorem dwk_rgC {K : Fg} {S : Hp} {lo c : Int} {n : Nat} : DWk K τ S (Itc lo c n) (rgC lo c n) := by
  have hl : (rgC lo c n).length = n := by simp [rgC]
  refine ⟨fun i H h1 s => ?_, fun H s => ?_, fun i H x H' h1 s y => ?_⟩
  · rw [hl] at h1; exact h1
  · rw [hl]; exact Nat.le_refl n
  · obtain ⟨rfl, rfl⟩ := y
    rw [hl] at h1
    exact ⟨.int (lo + (i : Nat) * c), by simp [rgC, h1], fun S1 F ρ σ s1 e => ⟨S1, Same.refl S1, .int _, e⟩⟩
def wiRg3 (wa : WL) : WL := fun ρ χ Φ => wa ρ χ fun ds ρ1 => match ds with
  | [.int i, .int j, .int c] => ∃ n, RgC i j c n ∧ Φ (rgC i c n) ρ1
  | _ => False
theorem i_rg3 {K : Fg} {W : WX} {wa : WL} : ∀ σ H R, lI K τ W (wiRg3 wa) σ H R → iRng3 (lL K τ W wa) σ H R := by
  rintro σ H R ⟨ρ, S, F, χ, Φ, e, hw, hx, hp⟩
  refine ⟨ρ, S, F, χ, _, e, hw, hx, fun vs ds ρ1 S1 H1 h1 s1 i1 e1 => ?_⟩
  split at h1
  · obtain ⟨n, h2, h3⟩ := h1
    cases i1 with
    | cons a b =>
      cases a
      cases b with
      | cons a b =>
        cases a
        cases b with
        | cons a b =>
          cases a
          cases b
          exact ⟨_, _, _, n, rfl, h2, hp _ _ ρ1 S1 H1 h3 s1 e1 dwk_rgC⟩
  · exact h1.elim
/-! ### ~x -/
def wInv : D → (D → Prop) → Prop := fun x Φ => match x with
  | .int i => Φ (.int (Builtin.bitNot i))
  | _ => False
theorem ok_inv {K : Fg} : UnOk K τ (rU fun i => .int (Builtin.bitNot i)) wInv := by
  intro S F H ρ σ x dx Φ Q e ix hw hp
  cases ix with
  | int i => exact ⟨i, rfl, hp _ _ S H hw (Same.refl S) (.int _) e⟩
  | _ => exact hw.elim
/-! ### x is True, x is not True -/
def wIsB (neg : Bool) : D → D → (D → Prop) → Prop := fun x y Φ => match x, y with
  | .bl a, .bl b => Φ (.bl (if neg = true then !decide (a = b) else decide (a = b)))
  | _, _ => False
theorem ok_isB {K : Fg} : OpOk K τ (fun x y H Q => ∃ a b, x = .bl a ∧ y = .bl b ∧ Q (.bl (!decide (a = b))) H) (wIsB true) := by
  intro S F H ρ σ x y dx dy Φ Q e ix iy hw hp
  unfold wIsB at hw
  split at hw
  · cases ix; cases iy
    exact ⟨_, _, rfl, rfl, hp _ _ S H hw (Same.refl S) (.bl _) e⟩
  · exact hw.elim
/-! ### an own [..] * n -/
def woMul (wa wb : WE) : WEO := fun ρ χ Φ => wa ρ χ fun x ρ1 => wb ρ1 χ fun y ρ2 => match x, y with
  | .lst ds, .int k => -(2 ^ 63) ≤ k ∧ k < 2 ^ 63 ∧ ds.length * k.toNat ≤ sizeLine ∧ ∀ l, Φ l (.l (List.replicate k.toNat ds).flatten) ρ2
  | _, _ => False
theorem lo_mul {K : Fg} {W : WX} {wa wb : WE} : ∀ σ H Q, lEO K τ W (woMul wa wb) σ H Q → tOp rMulD (lE K τ W wa) (lE K τ W wb) σ H Q := by
  rintro σ H Q ⟨ρ, S, F, χ, Φ, e, hw, hx, hp⟩
  refine ⟨ρ, S, F, χ, _, e, hw, hx, fun x dx ρ1 S1 H1 h1 s1 i1 e1 => ?_⟩
  refine ⟨ρ1, S1, F, χ, _, e1, h1, hx.mono s1, fun y dy ρ2 S2 H2 h2 s2 i2 e2 => ?_⟩
  split at h2
  · obtain ⟨k1, k2, k3, k4⟩ := h2
    cases i2
    cases i1.mono s2 with
    | lst a b => exact .inr ⟨_, _, _, rfl, rfl, e2.ex _ _ a, k1, k2, by rw [b.length]; exact k3, fun p hp1 => hp p _ _ ρ2 S2 _ (k4 p) (s1.trans s2) upd_same (.l (isAll_rep b _)) (e2.sp hp1) (e2.fp hp1) (e2.notOwn hp1) (e2.addH hp1)⟩
  · exact h2.elim
/-! ### x[i] op= e, x one's own list of ints -/
def rIxG (K : PySem.W.Frag) : V → V → Hp → VK → Prop := fun x y H Q => ∃ p xs i v, x = .ref p ∧ y = .int i ∧ 0 ≤ i ∧ SqL K H p xs ∧ atI xs i = some v ∧ Q v H
theorem get_list {X : Cx} : PGet X (rIxG X.K) := by
  rintro pins s σ H x y v u Q I rx ry ⟨p, xs, i, z, rfl, rfl, h0, hq, he, q⟩
  cases rx
  obtain ⟨t, rfl⟩ := ry
  obtain ⟨its, r, pl, hz⟩ := I.list hq
  obtain ⟨j, h1, h2, h3, h4, h5⟩ := atI_get he
  obtain ⟨w, ew, rw'⟩ := r.get h2
  have hn := line63
  have hj : i.toNat = j := by
    rw [seqIndex_of h0 h5] at h1
    exact Option.some.inj h1
  exact wpAny_getItem_list pl.isList h0 (by omega) (by rw [hj]; simpa using ew) ⟨z, H, I, rw', q⟩
def wAugO (f : Int → Int → Int) (i : Nat) (wk wa : WE) : WS := fun ρ Δ => (∃ l xs, ρ[i]? = some (Sl.own l (.l xs))) ∧ wk ρ Δ.xc fun k ρ1 => ∃ z a, k = .int z ∧ 0 ≤ z ∧ (match ρ1[i]? with
  | some (.own _ (.l xs)) => atI xs z = some (.int a)
  | _ => False) ∧ wa ρ1 Δ.xc fun y ρ2 => match y, ρ2[i]? with
  | .int b, some (.own l (.l xs)) => ∃ j, ixN xs.length z = some j ∧ Δ.nx (ρ2.set i (.own l (.l (xs.set j (.int (f a b))))))
  | _, _ => False
theorem l_augO {K : Fg} {W : WX} {f : Int → Int → Int} {i : Nat} {wk wa : WE} : ∀ D σ H, lS K τ W (wAugO f i wk wa) D σ H → tAugS (tVar i) (lE K τ W wk) (lE K τ W wa) (rIxG K) (ipI f) rSetL D σ H := by
  rintro D σ H ⟨ρ, S, F, Δ, e, ⟨⟨l, xs, hl⟩, hw⟩, hx, h1, h2, h3, h4, h5⟩
  obtain ⟨hσ, _⟩ := e.own i l _ hl
  refine ⟨.ref l, hσ, ρ, S, F, _, _, e, hw, hx, fun k dk ρ1 S1 H1 q1 s1 i1 e1 => ?_⟩
  obtain ⟨z, a, rfl, hz0, ha, q1⟩ := q1
  cases i1
  split at ha
  · rename_i l' ys hl'
    obtain ⟨b1, b2, b3, ob, b4, b5⟩ := e1.own i l' _ hl'
    rw [hσ] at b1
    cases b1
    cases b5 with
    | l b6 =>
      obtain ⟨v, g1, g2⟩ := atI_all b6 ha
      cases g2
      refine ⟨l, _, _, _, rfl, rfl, hz0, .inl (.inl b4), g1, ρ1, S1, F, _, _, e1, q1, hx.mono s1, fun y dy ρ2 S2 H2 q2 s2 i2 e2 => ?_⟩
      split at q2
      · rename_i b l2 zs hl2
        obtain ⟨c1, c2, c3, oc, c4, c5⟩ := e2.own i l2 _ hl2
        rw [hσ] at c1
        cases c1
        cases i2
        cases c5 with
        | l c6 =>
          obtain ⟨j, q3, q4⟩ := q2
          exact ⟨a, b, rfl, rfl, l, _, z, j, rfl, rfl, c4, by rw [c6.length]; exact q3, h1 _ S2 _ _ q4 (s1.trans s2) (e2.wr hl2 (.l (IsAll.set (.int _) j c6)))⟩
      · exact q2.elim
  · exact ha.elim
end DL
set_option Elab.async false
set_option autoImplicit false
set_option linter.all false
set_option maxRecDepth 100000
set_option maxHeartbeats 3900000
namespace DL
open L2 PyProof.Rows PySem PySem.Spec
variable {τ : Tb}
/-! ### x[-2::-1], x a list -/
theorem pick_rev2 (items : Array Value) : slicePick items (some (-2)) none (some (-1)) = (items.toList.reverse.drop 1).toArray := by
  have hb : sliceBounds (some (-2)) none (some (-1)) items.size = (if items.size < 2 then -1 else (items.size : Int) - 2, -1, -1) := by
    unfold sliceBounds
    simp
    omega
  unfold slicePick
  rw [hb]
  show ((sliceRange (if items.size < 2 then -1 else (items.size : Int) - 2) (-1) (-1)).filterMap (items[·]?)).toArray = _
  congr 1
  have key : ∀ n : Nat, sliceRange (if n < 2 then -1 else (n : Int) - 2) (-1) (-1) = ((List.range n).map fun k => n - 1 - k).drop 1 := by
    intro n
    by_cases h : n < 2
    · rw [if_pos h]
      have : n = 0 ∨ n = 1 := by omega
      rcases this with rfl | rfl <;> decide
    · rw [if_neg h]
      have e : (n : Int) - 2 = ((n - 1 : Nat) : Int) - 1 := by omega
      rw [e, PySem.W.krv_sliceRange]
      obtain ⟨m, rfl⟩ : ∃ m, n = m + 1 := ⟨n - 1, by omega⟩
      rw [List.range_succ_eq_map, List.map_cons, List.drop_succ_cons, List.drop_zero, List.map_map]
      refine List.map_congr_left fun k hk => ?_
      show m + 1 - 1 - 1 - k = m + 1 - 1 - (k + 1)
      omega
  rw [key, PySem.W.krv_range]
  have : ((List.range items.size).reverse.drop 1).filterMap (fun x => items[x]?) = ((List.range items.size).reverse.filterMap (fun x => items[x]?)).drop 1 := by
    cases hr : (List.range items.size).reverse with
    | nil => rfl
    | cons a r =>
      have ha : a < items.size := by
        have : a ∈ (List.range items.size).reverse := by rw [hr]; exact List.mem_cons_self
        exact List.mem_range.mp (List.mem_reverse.mp this)
      rw [List.drop_succ_cons, List.drop_zero, List.filterMap_cons_some (Array.getElem?_eq_getElem ha), List.drop_succ_cons, List.drop_zero]
  rw [this, List.filterMap_reverse, PySem.W.krv_all]
def rev3K (wb : WE) (χ : XC) (Φ : D → Rho → Prop) (x z : D) (ρ2 : Rho) : Prop := wb ρ2 χ fun y ρ3 => match x, z, y with
  | .lst ds, .int (-2), .int (-1) => Φ (.lst (ds.reverse.drop 1)) ρ3
  | _, _, _ => False
def rev2K (wl wb : WE) (χ : XC) (Φ : D → Rho → Prop) (x : D) (ρ1 : Rho) : Prop := wl ρ1 χ fun z ρ2 => rev3K wb χ Φ x z ρ2
def wRevSl2 (wa wl wb : WE) : WE := fun ρ χ Φ => wa ρ χ fun x ρ1 => rev2K wl wb χ Φ x ρ1
section
variable {X : Cx} {W : WX} {k : Nat} {x y : Str} {a b c d e f o : Expr} {es rest : List Expr} {p pos pos' p2 tpos : Pos} {wa wb wc wk : WE} {wt : WT} {wl wi : WL} {w u : WS} {body : List Stmt} {i : Nat}
theorem e_revSl2 (ha : PEd X τ W e wa) (hl : PEd X τ W a wb) (hb : PEd X τ W b wc) : PEd X τ W (.Subscript e (.Slice (some a) none (some b) p2) pos) (wRevSl2 wa wb wc) := by
  constructor; rintro pins s σ H Q I ⟨ρ, S, F, χ, Φ, e0, hw, hx, hp⟩
  have h' : lE X.K τ W wa σ H (fun v H1 => ∃ ρ1 S1 dv, ER X.K τ S1 F H1 ρ1 σ ∧ Same S S1 ∧ Is X.K S1 v dv ∧ rev2K wb wc χ Φ dv ρ1) := ⟨ρ, S, F, χ, _, e0, hw, hx, fun v dv ρ1 S1 H1 q1 s1 i1 e1 => ⟨ρ1, S1, dv, e1, s1, i1, q1⟩⟩
  refine Subscript_ (thn (ha.run pins s σ H _ I h') fun v s1 ⟨vx, H1, I1, r1, ρ1, S1, dv, e1, t1, i1, q1⟩ => ?_)
  refine wpAny_Slice ?_
  rw [evalPart_none, evalPart_some, evalPart_some]
  refine thn (hl.run pins s1 σ H1 (fun z H2 => ∃ ρ2 S2 dz, ER X.K τ S2 F H2 ρ2 σ ∧ Same S1 S2 ∧ Is X.K S2 z dz ∧ rev3K wc χ Φ dv dz ρ2) I1 ⟨ρ1, S1, F, χ, _, e1, q1, hx.mono t1, fun z dz ρ2 S2 H2 q2 s2 i2 e2 => ⟨ρ2, S2, dz, e2, s2, i2, q2⟩⟩) fun zk s2 ⟨z, H2, I2, rz, ρ2, S2, dz, e2, t2, i2, q2⟩ => ?_
  refine wpAny_pure ?_
  refine thn (hb.run pins s2 σ H2 (fun y H3 => z = .int (-2) ∧ y = .int (-1) ∧ ∃ p ws, vx = .ref p ∧ SqL X.K H3 p ws ∧ ∀ q, H3 q = none → Q (.ref q) (upd H3 q (.lst (ws.reverse.drop 1)))) I2 ⟨ρ2, S2, F, χ, _, e2, q2, hx.mono (t1.trans t2), fun y dy ρ3 S3 H3 q3 s3 i3 e3 => ?_⟩) fun vk s3 ⟨y, H3, I3, r3, ez, ey, p, ws, ex, hq, q3⟩ => ?_
  · split at q3
    · rename_i ds
      cases i3
      cases i2
      cases i1 with
      | lst h1 h2 => exact ⟨rfl, rfl, _, _, rfl, .inl (.inl (e3.ex _ _ (s3 _ _ (t2 _ _ h1)))), fun q hq => hp _ _ ρ3 _ _ q3 (((t1.trans t2).trans s3).trans (e3.sn hq)) (.lst upd_same (((((h2.mono t2).mono s3).reverse).drop 1).mono (e3.sn hq))) (e3.new hq)⟩
    · exact q3.elim
  · subst ey; subst ex; subst ez
    cases r1
    obtain ⟨t, rfl⟩ := r3
    obtain ⟨tz, rfl⟩ := rz
    have I4 : Inv X pins σ H3 { s3 with heap := s3.heap.push { cls := .type "slice", data := .fields #[.int (-2) tz, .none, .int (-1) t] } } := I3.kept (t' := s3.toks) fun b ob q => Heap.get?_push_of_some _ q
    obtain ⟨its, r, ht, hz⟩ := I4.list hq
    have hl := r.length
    have fin : wpAny (model X.prog X.w) X.A (getItem (.ref p) (.ref s3.heap.objs.size)) (EP X pins σ Q) X.xe { s3 with heap := s3.heap.push { cls := .type "slice", data := .fields #[.int (-2) tz, .none, .int (-1) t] } } := by
      refine wpAny_getItem_list_slice (lo := some (-2)) (hi := none) (st := some (-1)) ht.isList (Heap.IsSliceOf.new ..) (.int _ _) .none (.int _ _) (by decide) ?_ (by rw [List.size_toArray]; omega)
      rw [pick_rev2]
      refine ⟨.ref _, _, I4.laid (t' := s3.toks) (o := .lst (ws.reverse.drop 1)) (fun b ob q => Heap.get?_push_of_some _ q) (Nat.le_refl _) ?_, rfl, q3 _ (I4.hok.fresh (Nat.le_refl _))⟩
      exact ⟨by rw [List.length_drop, List.length_reverse]; omega, _, 0, (r.reverse).drop 1, Heap.get?_push_size _ rfl⟩
    exact tail_any (ops := [.ref p, .ref s3.heap.objs.size]) ht.isList.typeIs slot_list_getitem.lookup fin (by with_unfolding_all rfl)
theorem e_inv (ha : PEd X τ W a wa) : PEd X τ W (.UnaryOp .Invert a pos) (wUn wInv wa) := PE.imp (pe_un un_inv ha) (l_un ok_inv)
theorem t_isntB (ha : PEd X τ W a wa) (hb : PEd X τ W b wb) : PTd X τ W (.Compare a [.IsNot] [b] pos) (wB (wOp (wIsB true) wa wb)) := t_of (pt_cmpR op_isnot_bl ha hb (nomark _)) (l_op ok_isB)
theorem i_rng3 {tg : Expr} (hm : X.mg "range" = none) (ha : PAd X τ W [a, b, c] wl) (hg : Gl X "range" := by rfl) (hs : starEach [a, b, c] X.env = (false, eval a X.env) :: starEach [b, c] X.env := by rfl) (hpl : (backTo pos (starEach [b, c] X.env)).any (·.1) = false := by rfl) : PId X τ W tg (.Call (.Name "range" p) [a, b, c] [] pos) (wiRg3 wl) := PI.imp (pi_range3 hg hm ha hs hpl) i_rg3
theorem o_mul (ha : PEd X τ W a wa) (hb : PEd X τ W b wb) : PEO X τ W (.BinOp a .Mult b pos) (woMul wa wb) := PE.imp (pe_op or_mul ha hb) lo_mul
theorem s_augOOr (i : Nat) (hk : PEd X τ W b wk) (h : PEd X τ W e wa) (hN : X.N[i]? = some x := by rfl) (hv : Vis X.env.scope x := by first | exact .inl rfl | exact .inr (.inl rfl) | exact .inr (.inr rfl)) (hd : (x == ("__debug__" : Str)) = false := by decide) (hc : (x == ("__classdict__" : Str)) = false := by decide)
    (ha : ∀ ov iv new, augStore b ov iv new = (do holding [new, ov, iv] (setItem ov iv new); release [new, ov, iv] []; pure .next) := by intros; rfl) :
    PSd X τ W (.AugAssign (.Subscript (.Name x p) b tpos) .BitOr e pos) (wAugO Builtin.bitOr i wk wa) := PS.imp (ps_augS (pe_var hN hv hd hc) hk get_list h ip_bor set_list ha) l_augO
/-! targets of several names -/
theorem gs_nil : PGs X [] (lGs X.K τ wgNil) := PGs.imp pgs_nil g_nil
theorem gs_cons {wg : WG} {wgs : WGs} (h : PGd X τ e wg) (r : PGs X es (lGs X.K τ wgs)) (hs : (assignEach (e :: es) X.env).map (·.2) = assign e X.env :: (assignEach es X.env).map (·.2) := by rfl) : PGs X (e :: es) (lGs X.K τ (wgCons wg wgs)) := PGs.imp (pgs_cons h r hs) g_cons
theorem g_tupN {n kt : Nat} {wgs : WGs} (hc : X.calm = true) (h : PGs X es (lGs X.K τ wgs)) (hn : (assignEach es X.env).length = n := by rfl) (hst : (assignEach es X.env).findIdx? (·.1) = none := by rfl) : PGd X τ (.Tuple es kt pos) (wgTup n wgs) := PG.imp (pg_tup hc h hn hst) g_tup
end
end DL
set_option Elab.async false
set_option autoImplicit false
set_option linter.all false
set_option maxRecDepth 100000
set_option maxHeartbeats 3900000
namespace DL
open L2 PyProof.Rows PySem PySem.Spec
variable {τ : Tb}
/-! ### min of pairs of ints, default None -/
def leP (p q : Int × Int) : Prop := p.1 < q.1 ∨ (p.1 = q.1 ∧ p.2 ≤ q.2)
theorem minP_ok : ∀ (xs : List (Int × Int)) (x : Int × Int), PySem.W.minOf x xs ∈ x :: xs ∧ ∀ y ∈ x :: xs, leP (PySem.W.minOf x xs) y
  | [], x => ⟨by simp [PySem.W.minOf], fun y hy => by rw [List.mem_singleton.mp hy]; exact .inr ⟨rfl, Int.le_refl _⟩⟩
  | z :: xs, x => by
    have lt_i : ∀ a b : Int, PySem.W.DatumOrd.lt a b = decide (a < b) := fun _ _ => rfl
    have lt_p : ∀ a b : Int × Int, PySem.W.DatumOrd.lt a b = if a.1 = b.1 then decide (a.2 < b.2) else decide (a.1 < b.1) := fun _ _ => rfl
    generalize hm : (if PySem.W.DatumOrd.lt z x = true then z else x) = m
    have e : PySem.W.minOf x (z :: xs) = PySem.W.minOf m xs := by
      rw [← hm]; rfl
    have h3 : leP m x ∧ leP m z ∧ (m = x ∨ m = z) := by
      rw [lt_p] at hm
      unfold leP
      by_cases h : (if z.1 = x.1 then decide (z.2 < x.2) else decide (z.1 < x.1)) = true
      · rw [if_pos h] at hm
        subst hm
        split at h <;> (have h := of_decide_eq_true h; refine ⟨by omega, by omega, .inr rfl⟩)
      · rw [if_neg h] at hm
        subst hm
        split at h <;> (have h : ¬ _ := fun z => h (decide_eq_true z); refine ⟨by omega, by omega, .inl rfl⟩)
    obtain ⟨h1, h2⟩ := minP_ok xs m
    rw [e]
    have tr : ∀ a b c : Int × Int, leP a b → leP b c → leP a c := fun a b c x y => by unfold leP at *; omega
    refine ⟨?_, fun y hy => ?_⟩
    · rcases List.mem_cons.mp h1 with h | h
      · rw [h]; rcases h3.2.2 with h | h <;> simp [h]
      · simp [h]
    · have h4 := h2 m List.mem_cons_self
      rcases List.mem_cons.mp hy with rfl | hy
      · exact tr _ _ _ h4 h3.1
      · rcases List.mem_cons.mp hy with rfl | hy
        · exact tr _ _ _ h4 h3.2.1
        · exact h2 y (List.mem_cons_of_mem _ hy)
def pairV (K : Fg) (H : Hp) (v : V) (p : Int × Int) : Prop := ∃ t, v = .ref t ∧ SqT K H t [.int p.1, .int p.2]
def rMinPN (K : Fg) : List V → List V → Hp → VK → Prop := fun vs zs H Q => ∃ (a : Addr) (xs : List V) (ps : List (Int × Int)), vs = [V.ref a] ∧ zs = [V.non] ∧ SqL K H a xs ∧ Paired (pairV K H) xs ps ∧ (ps = [] → Q .non H) ∧ ∀ (i : Nat) (x : V) (p : Int × Int), xs[i]? = some x → ps[i]? = some p → (∀ q ∈ ps, leP p q) → Q x H
theorem pair_reads {X : Cx} {pins : List (Addr × Obj)} {σ : L2.St} {H : Hp} {s : Shared} {v : V} {u : Value} {p : Int × Int} (I : L2.Inv X pins σ H s) (h : pairV X.K H v p) (r : RelV v u) : PySem.W.Holds s.heap u p := by
  obtain ⟨t, rfl, hq⟩ := h
  cases r
  obtain ⟨its, rv, hT, hz⟩ := I.tuple hq
  obtain ⟨o, ho, hc, n, hd⟩ := (show s.heap.IsTuple t its.toArray from hT)
  cases rv with
  | cons r1 rv =>
    cases rv with
    | cons r2 rv =>
      cases rv
      obtain ⟨t1, rfl⟩ := r1
      obtain ⟨t2, rfl⟩ := r2
      exact ⟨_, .tuple ho hc hd (.cons (.int _ _) (.cons (.int _ _) .nil))⟩
theorem pair_det {h : Heap} {u : Value} {p q : Int × Int} (a : PySem.W.Holds h u p) (b : PySem.W.Holds h u q) : p = q := by
  obtain ⟨p1, p2⟩ := p
  obtain ⟨q1, q2⟩ := q
  obtain ⟨as, a⟩ := a
  obtain ⟨bs, b⟩ := b
  have a : Reads h u (.tuple [.int p1, .int p2]) as := a
  have b : Reads h u (.tuple [.int q1, .int q2]) bs := b
  cases a with
  | tuple a1 a2 a3 a4 =>
    cases b with
    | tuple b1 b2 b3 b4 =>
      rw [a1] at b1; cases b1
      rw [a3] at b3
      injection b3 with b3
      subst b3
      generalize hl : (_ : Array Value).toList = l at a4 b4
      cases a4 with
      | cons x1 a4 =>
        cases a4 with
        | cons x2 a4 =>
          cases a4
          cases x1; cases x2
          cases b4 with
          | cons y1 b4 =>
            cases b4 with
            | cons y2 b4 =>
              cases y1; cases y2
              rfl
theorem cr_minPN {X : Cx} {W : WX} {k : Nat} (hc : X.calm = true) (o : Cok X W k) : CallRK X (.builtin "min") [Str.ofString "default"] (rMinPN X.K) := by
  intro pins s σ H xs zs us ws Q I r rz h
  obtain ⟨a, ys, ps, rfl, rfl, hs, hp, h0, h1⟩ := h
  obtain ⟨its, rv, hl, hz⟩ := I.list hs
  rw [Vals.ref1 r]
  have hh : ∀ {ys : List V} {ps : List (Int × Int)} {its : List Value}, Paired (pairV X.K H) ys ps → Vals ys its → PySem.W.HoldAll s.heap its ps := by
    intro ys ps its hp
    induction hp generalizing its with
    | nil => intro rv; cases rv; exact PySem.W.HoldAll.nil
    | cons h t ih =>
      intro rv
      cases rv with
      | cons r rv => exact PySem.W.HoldAll.cons (pair_reads I h r) (ih rv)
  cases rz with
  | cons r2 rr =>
    cases rr
    cases r2
    refine PySem.W.min_list_datum_default (α := Int × Int) (xs := ps) (I.ok.hd hc) hl.isList (hh hp rv) (by have := o.u64'; show X.A.units + 1 + 1 < cLine; omega) (fun e h' tk hk => ⟨.non, H, I.kept hk, rfl, h0 e⟩) fun y zs i v h' tk e hi hv hk => ?_
    subst e
    obtain ⟨h3, h4⟩ := minP_ok zs y
    have hi' : its[i]? = some v := by simpa using hi
    have hlt : i < its.length := (List.getElem?_eq_some_iff.mp hi').1
    have hlt2 : i < ys.length := by rw [rv.length]; exact hlt
    have hrel : RelV ys[i] v := by
      obtain ⟨u, hu, ru⟩ := rv.get (List.getElem?_eq_getElem hlt2)
      rw [hi'] at hu; cases hu; exact ru
    have hpl : ∀ {ys : List V} {ps : List (Int × Int)}, Paired (pairV X.K H) ys ps → ∀ {i : Nat} {x : V}, ys[i]? = some x → ∃ p, ps[i]? = some p ∧ pairV X.K H x p := by
      intro ys ps hp
      induction hp with
      | nil => intro i x h; simp at h
      | cons h t ih =>
        intro i x hx
        cases i with
        | zero => rw [List.getElem?_cons_zero] at hx; cases hx; exact ⟨_, by rw [List.getElem?_cons_zero], h⟩
        | succ i => rw [List.getElem?_cons_succ] at hx; obtain ⟨p, h1, h2⟩ := ih hx; exact ⟨p, by rw [List.getElem?_cons_succ]; exact h1, h2⟩
    obtain ⟨p, p1, p2⟩ := hpl hp (List.getElem?_eq_getElem hlt2)
    have I2 : L2.Inv X pins σ H { s with heap := h', toks := tk } := I.kept hk
    have ep : p = PySem.W.minOf y zs := pair_det (pair_reads I2 p2 hrel) hv
    exact ⟨ys[i], H, I2, hrel, h1 i _ p (List.getElem?_eq_getElem hlt2) p1 fun q hq => by rw [ep]; exact h4 q hq⟩
def pairD (p : Int × Int) : D := .tup [.int p.1, .int p.2]
def wMinPN (wl wk : WL) : WE := fun ρ χ Φ => wl ρ χ fun ds ρ1 => wk ρ1 χ fun zs ρ2 => match ds, zs with
  | [.lst xs], [.non] => ∃ ps : List (Int × Int), xs = ps.map pairD ∧ (ps = [] → Φ .non ρ2) ∧ ∀ p ∈ ps, (∀ q ∈ ps, leP p q) → Φ (pairD p) ρ2
  | _, _ => False
theorem l_minPN {K : Fg} {W : WX} {wl wk : WL} : ∀ σ H Q, lE K τ W (wMinPN wl wk) σ H Q → tCKw (rMinPN K) (lL K τ W wl) (lL K τ W wk) σ H Q := by
  rintro σ H Q ⟨ρ, S, F, χ, Φ, e, hw, hx, hp⟩
  refine ⟨ρ, S, F, χ, _, e, hw, hx, fun vs ds ρ1 S1 H1 h1 s1 i1 e1 => ?_⟩
  refine ⟨ρ1, S1, F, χ, _, e1, h1, hx.mono s1, fun us zs ρ2 S2 H2 h2 s2 i2 e2 => ?_⟩
  split at h2
  · obtain ⟨ps, rfl, a2, a3⟩ := h2
    cases i2 with
    | cons r2 rr =>
      cases rr; cases r2
      cases i1 with
      | cons r rr =>
        cases rr; cases r with
        | lst b1 b2 =>
          have b2 := b2.mono s2
          have hpr : ∀ {xs : List V} {ps : List (Int × Int)}, IsAll K S2 xs (ps.map pairD) → Paired (pairV K H2) xs ps := by
            intro xs ps h
            induction ps generalizing xs with
            | nil => cases h; exact .nil
            | cons p ps ih =>
              cases h with
              | cons h t =>
                cases h with
                | ktup c1 c2 a3 => exact absurd a3 (List.cons_ne_nil _ _)
                | tup c1 c2 =>
                  cases c2 with
                  | cons d1 c2 =>
                    cases c2 with
                    | cons d2 c2 =>
                      cases c2; cases d1; cases d2
                      exact .cons ⟨_, rfl, .inl (.inl (e2.ex _ _ c1))⟩ (ih t)
          refine ⟨_, _, ps, rfl, rfl, .inl (.inl (e2.ex _ _ (s2 _ _ b1))), hpr b2, fun z => hp _ _ ρ2 S2 H2 (a2 z) (s1.trans s2) .non e2, fun i x p hx1 hp1 hle => ?_⟩
          obtain ⟨v, v1, v2⟩ := b2.get (i := i) (d := pairD p) (by rw [List.getElem?_map, hp1]; rfl)
          rw [hx1] at v1; cases v1
          exact hp _ _ ρ2 S2 H2 (a3 p (List.mem_of_getElem? hp1) hle) (s1.trans s2) v2 e2
  · exact h2.elim
section
variable {X : Cx} {W : WX} {k n : Nat} {p pos : Pos} {e : Expr} {es : List Expr} {kws : List Keyword} {wl wk : WL}
theorem e_minPN (hc : X.calm = true) (o : Cok X W k) (hm : X.mg "min" = none) (ha : PAd X τ W (e :: es) wl) (hk : PKd X τ W kws wk) (hg : Gl X "min" := by rfl) (he : backTo pos (starEach (e :: es) X.env) = (false, eval e X.env) :: backTo pos (starEach es X.env) := by rfl) (hpl : (backTo pos (starEach (e :: es) X.env)).any (·.1) = false := by rfl)
    (hall : (backToKw pos (keywordEach kws X.env)).all (·.1.isSome) = true := by rfl) (hnone : (backToKw pos (keywordEach kws X.env)).any (·.1.isNone) = false := by rfl) (hks : (backToKw pos (keywordEach kws X.env)).filterMap (·.1) = [Str.ofString "default"] := by rfl) :
    PEd X τ W (.Call (.Name "min" p) (e :: es) kws pos) (wMinPN wl wk) := PE.imp (pe_callBK (cr_minPN hc o) hg hm PyProof.Rows.Boot.min ha hk (by decide) (by decide) he hpl hall hnone hks) l_minPN
end
/-! ### keyword-only parameters whose default is None: some given, the others not -/
theorem kb_kw {K : Fg} {x qual : Str} {params : Arguments} {body : List Stmt} {scope : Scope} {kws : List (Str × V)} {f : Addr} {fd : FuncData} {ps ks ms : List Str} {n : Nat} {g : List Value → List Value → List Value} {gV : List V → List V → List V}
    (F : FunD K x qual params body scope [] kws f fd) (hk : kws ≠ []) (hn : ∀ q ∈ ms, (q, V.non) ∈ kws) (hrel : ∀ {vs : List V} {us : List Value} {zs : List V} {ws : List Value}, Vals vs us → Vals zs ws → Vals (gV vs zs) (g us ws))
    (h : ∀ (D : Addr) (doc pm : Value) (an : Option Addr) (cdv ct : Value) (us ws : List Value), us.length = n → ws.length = ks.length →
      KwChain D (ms.map fun q => (q, Value.none)) (bindArgs (PySem.W.fnOf x qual params body scope .none (.ref D) doc pm an cdv ct) ⟨us, ks.zip ws⟩) (ps.zip (g us ws))) : KBn K fd ps n ks g gV := by
  obtain ⟨oc, od, dV, kV, doc, pm, an, cdv, ct, osl, rfl, lk, hcd, hD, hK⟩ := F.ex
  refine ⟨fun s us ws X h1 h2 => ?_, hrel⟩
  rcases hD with ⟨_, rfl⟩ | ⟨e, _⟩
  · rcases hK with e | ⟨D, rfl, hq⟩
    · exact absurd e hk
    · refine BindsTo.of_looks fun M => KwChain.looks X (fun q hq' => ?_) (h D doc pm an cdv ct us ws h1 h2)
      obtain ⟨m, hm, rfl⟩ := List.mem_map.mp hq'
      obtain ⟨u, e1, e2⟩ := hq _ (hn m hm)
      cases e2
      exact e1
  · exact absurd rfl e
end DL
set_option Elab.async false
set_option autoImplicit false
set_option linter.all false
set_option maxRecDepth 100000
set_option maxHeartbeats 3900000
namespace DL
open L2 PyProof.Rows PySem PySem.Spec
variable {τ : Tb}
/-! ### fields of an object of one's own: a new value for an old field -/
def putND (f : Str) (d : D) : List Str → List D → List Str × List D
  | n :: ns, x :: xs => if n = f then (n :: ns, d :: xs) else (n :: (putND f d ns xs).1, x :: (putND f d ns xs).2)
  | _, _ => ([f], [d])
theorem putND_ok {K : Fg} {S : Hp} {f : Str} {v : V} {d : D} (hv : Is K S v d) : ∀ {vs : List (Str × V)} {ds : List D}, IsAll K S (vs.map (·.2)) ds →
    (putF f v vs).map (·.1) = (putND f d (vs.map (·.1)) ds).1 ∧ IsAll K S ((putF f v vs).map (·.2)) (putND f d (vs.map (·.1)) ds).2
  | [], _, h => by cases h; exact ⟨rfl, .cons hv .nil⟩
  | (g, x) :: vs, _, h => by
    cases h with
    | cons r t =>
      have ih := putND_ok (f := f) hv t
      unfold putF
      simp only [List.map_cons, putND]
      by_cases e : g = f
      · rw [if_pos e, if_pos e]
        exact ⟨rfl, .cons hv t⟩
      · rw [if_neg e, if_neg e]
        exact ⟨congrArg (g :: ·) ih.1, .cons r ih.2⟩
def wgFld (C : Addr) (f : Str) (i : Nat) : WG := fun d ρ Φ => match ρ[i]? with
  | some (.own l (.i c ns ds)) => c = C ∧ ns.length < 900 ∧ Φ (ρ.set i (.own l (.i c (putND f d ns ds).1 (putND f d ns ds).2)))
  | _ => False
def gFld (K : Fg) (ta : TE) (f : Str) : TG := fun v σ H Q => ta σ H fun x H1 => ∃ a C dx fs, x = .ref a ∧ H1 a = some (.ins C dx fs) ∧ Cls K C ∧ NoAttr K C f ∧ fs.length < 1000 ∧ Q σ (upd H1 a (.ins C dx (putF f v fs)))
section
variable {X : Cx} {o : Expr} {f : Str} {pos : Pos} {ta : TE}
theorem pg_fld (ho : PE X o ta) : PG X (.Attribute o f pos) (gFld X.K ta f) := by
  refine ⟨fun pins s σ H v u Q I r h => ?_⟩
  rw [PySem.assign_Attribute]
  refine wpAny_bind (wpAny_holding (thn (ho.run pins s σ H _ I h) fun ov s1 ⟨x, H1, I1, rx, a, C, dx, fs, ex, ea, c, n, l, q⟩ => ?_))
  subst ex
  obtain rfl : ov = Value.ref a := rx
  exact wpAny_bind (wpAny_standAt (wpAny_bind (wpAny_holding (setattr_ok I1 ea c n l r fun s3 I3 => wpAny_release ⟨σ, _, I3, q⟩))))
end
section
variable {K : Fg} {W : WX} {C : Addr} {f : Str} {i : Nat} {wa : WE}
theorem g_fld (hc : Cls K C) (hn : NoAttr K C f) : ∀ x σ H Q, lG K τ (wgFld C f i) x σ H Q → gFld K (tVar i) f x σ H Q := by
  rintro x σ H Q ⟨ρ, S, F, d, Φ, e, hi, hg, hp⟩
  unfold wgFld at hg
  split at hg
  · rename_i l c ns ds hl
    obtain ⟨rfl, hz, q⟩ := hg
    obtain ⟨b1, b2, b3, ob, b4, b5⟩ := e.own i l _ hl
    cases b5 with
    | i hns hi2 =>
      rename_i dx vs
      subst hns
      obtain ⟨p1, p2⟩ := putND_ok (f := f) hi hi2
      exact ⟨.ref l, b1, l, _, dx, vs, rfl, b4, hc, hn, by rw [List.length_map] at hz; omega, hp _ S _ _ q (Same.refl S) (e.wr hl (.i p1 p2))⟩
  · exact hg.elim
/-- self.f = e, the field new or old -/
theorem l_fput (hc : Cls K C) (hn : NoAttr K C f) : ∀ D σ H, lS K τ W (wAsgG (wgFld C f i) wa) D σ H → tAsg (lE K τ W wa) (gFld K (tVar i) f) D σ H := by
  rintro D σ H ⟨ρ, S, F, Δ, e, hw, hx, h1, -⟩
  exact ⟨ρ, S, F, _, _, e, hw, hx, fun v d ρ' S' H' q s' iv e' => g_fld hc hn _ _ _ _ ⟨ρ', S', F, d, _, e', iv, q, fun ρ2 S2 σ2 H2 q2 s2 e2 => h1 ρ2 S2 σ2 H2 q2 (s'.trans s2) e2⟩⟩
/-- self.f += e, whole numbers -/
def wFadd (C : Addr) (f : Str) (i : Nat) (wa : WE) : WS := fun ρ Δ => match ρ[i]? with
  | some (.own _ (.i c ns ds)) => c = C ∧ ns.length < 900 ∧ ∃ a : Int, lookD ns ds f = some (.int a) ∧ wa ρ Δ.xc fun y ρ1 => match y, ρ1[i]? with
    | .int b, some (.own l (.i c' ns' ds')) => c' = C ∧ ns'.length < 900 ∧ Δ.nx (ρ1.set i (.own l (.i c' (putND f (.int (a + b)) ns' ds').1 (putND f (.int (a + b)) ns' ds').2)))
    | _, _ => False
  | _ => False
theorem l_fadd (hc : Cls K C) (hn : NoAttr K C f) : ∀ D σ H, lS K τ W (wFadd C f i wa) D σ H → sFldAug K (tVar i) (lE K τ W wa) L2.rAdd f D σ H := by
  rintro D σ H ⟨ρ, S, F, Δ, e, hw, hx, h1, -⟩
  unfold wFadd at hw
  split at hw
  · rename_i l c ns ds hl
    obtain ⟨rfl, hz, a, ha, hw⟩ := hw
    obtain ⟨b1, b2, b3, ob, b4, b5⟩ := e.own i l _ hl
    cases b5 with
    | i hns hi2 =>
      rename_i dx vs
      subst hns
      obtain ⟨v, v1, v2⟩ := look_fs hi2 ha
      cases v2
      refine ⟨.ref l, b1, l, _, dx, vs, _, rfl, b4, hc, hn, v1, ρ, S, F, _, _, e, hw, hx, fun y dy ρ1 S1 H1 q1 s1 i1 e1 => ?_⟩
      split at q1
      · rename_i b l' c' ns' ds' hl'
        obtain ⟨rfl, hz', q1⟩ := q1
        obtain ⟨c1, c2, c3, oc, c4, c5⟩ := e1.own i l' _ hl'
        cases c1.symm.trans b1
        cases i1
        cases c5 with
        | i hns' hi' =>
          rename_i dx' vs'
          subst hns'
          obtain ⟨p1, p2⟩ := putND_ok (f := f) (Is.int (K := K) (S := S1) (a + b)) hi'
          exact ⟨a, b, rfl, rfl, dx', vs', c4, by rw [List.length_map] at hz'; omega, h1 _ S1 _ _ q1 s1 (e1.wr hl' (.i p1 p2))⟩
      · exact q1.elim
  · exact hw.elim
end
/-! ### x.pop(i), x one's own list; d.get(k, e), d one's own dict -/
def wPopO (i : Nat) (wa : WE) : WE := fun ρ χ Φ => (∃ l xs, ρ[i]? = some (Sl.own l (.l xs))) ∧ wa ρ χ fun d ρ1 => match d, ρ1[i]? with
  | .int z, some (.own l (.l xs)) => -(2 ^ 63) ≤ z ∧ z < 2 ^ 63 ∧ ∃ k y, seqIndex? z xs.length = some k ∧ xs[k]? = some y ∧ Φ y (ρ1.set i (.own l (.l (xs.eraseIdx k))))
  | _, _ => False
theorem IsAll.erase {K : Fg} {S : Hp} : ∀ {xs : List V} {us : List D} (n : Nat), IsAll K S xs us → IsAll K S (xs.eraseIdx n) (us.eraseIdx n)
  | _, _, _, .nil => .nil
  | _, _, 0, .cons _ t => t
  | _, _, n + 1, .cons r t => .cons r (t.erase n)
def lookK {κ : Type} [DecidableEq κ] : List κ → List D → κ → Option D
  | g :: ks, d :: ds, k => if g = k then some d else lookK ks ds k
  | _, _, _ => none
def wGetT (i : Nat) (wk wa : WE) : WE := fun ρ χ Φ => (∃ l ks ds, ρ[i]? = some (Sl.own l (.t ks ds))) ∧ wk ρ χ fun y ρ1 => wa ρ1 χ fun d ρ2 => match ρ2[i]? with
  | some (.own _ (.t ks ds)) => ∃ k : List Key, k ≠ [] ∧ y = .tup (k.map keyDD) ∧ Φ ((lookK ks ds k).getD d) ρ2
  | _ => False
section
variable {K : Fg} {W : WX} {wk wa : WE} {i : Nat}
theorem l_popO : ∀ σ H Q, lE K τ W (wPopO i wa) σ H Q → tBM K "list" rPopAt (tVar i) (tCons (lE K τ W wa) tNil) σ H Q := by
  rintro σ H Q ⟨ρ, S, F, χ, Φ, e, ⟨⟨l, xs, hl⟩, hw⟩, hx, hp⟩
  obtain ⟨hσ, a2, a3, ob, a4, a5⟩ := e.own i l _ hl
  cases a5 with
  | l a6 =>
    refine ⟨.ref l, hσ, .inl ⟨rfl, _, .inl (.inl a4)⟩, ρ, S, F, χ, _, e, hw, hx, fun x dx ρ1 S1 H1 q1 s1 i1 e1 => ?_⟩
    split at q1
    · rename_i z l' ys hl'
      obtain ⟨h1, h2, k, y, h3, h4, q1⟩ := q1
      obtain ⟨b1, b2, b3, ob, b4, b5⟩ := e1.own i l' _ hl'
      rw [hσ] at b1
      cases b1
      cases i1
      cases b5 with
      | l b6 =>
        obtain ⟨v, v1, v2⟩ := b6.get h4
        exact ⟨l, _, z, k, v, rfl, rfl, b4, h1, h2, by rw [b6.length]; exact h3, v1, hp v y _ S1 _ q1 s1 v2 (e1.wr hl' (.l (b6.erase k)))⟩
    · exact q1.elim
theorem lookK_is {κ : Type} [DecidableEq κ] {K : Fg} {S : Hp} : ∀ {kvs : List (κ × V)} {ds : List D} (k : κ), IsAll K S (kvs.map (·.2)) ds → (valV kvs k = none ∧ lookK (kvs.map (·.1)) ds k = none) ∨ ∃ v d, valV kvs k = some v ∧ lookK (kvs.map (·.1)) ds k = some d ∧ Is K S v d
  | [], _, k, h => .inl ⟨rfl, by cases h; rfl⟩
  | (g, x) :: kvs, _, k, h => by
    cases h with
    | cons r t =>
      have ih := lookK_is k t
      unfold valV at ih ⊢
      simp only [List.map_cons, lookK, List.find?_cons]
      by_cases e : g = k
      · rw [if_pos e, decide_eq_true e]; exact .inr ⟨_, _, rfl, rfl, r⟩
      · rw [if_neg e, decide_eq_false e]; exact ih
theorem l_getT : ∀ σ H Q, lE K τ W (wGetT i wk wa) σ H Q → tDGet2 (tVar i) (lE K τ W wk) (lE K τ W wa) σ H Q := by
  rintro σ H Q ⟨ρ, S, F, χ, Φ, e, ⟨⟨l, ks, ds, hl⟩, hw⟩, hx, hp⟩
  obtain ⟨hσ, a2, a3, ob, a4, a5⟩ := e.own i l _ hl
  cases a5 with
  | t hn a6 =>
    refine ⟨.ref l, hσ, l, rfl, ?_, ρ, S, F, χ, _, e, hw, hx, fun y dy ρ1 S1 H1 q1 s1 i1 e1 => ?_⟩
    · exact .inr ⟨_, .inl a4⟩
    · refine ⟨ρ1, S1, F, χ, _, e1, q1, hx.mono s1, fun z dz ρ2 S2 H2 q2 s2 i2 e2 => ?_⟩
      split at q2
      · rename_i l' ks' ds' hl'
        obtain ⟨b1, b2, b3, ob, b4, b5⟩ := e2.own i l' _ hl'
        rw [hσ] at b1
        cases b1
        obtain ⟨k, hk0, rfl, q3⟩ := q2
        cases i1.mono s2 with
        | ktup a b a3 => exact absurd (List.map_eq_nil_iff.mp a3) hk0
        | tup a b =>
          cases keyDD_all b
          cases b5 with
          | t hn' b6 =>
            subst hn'
            refine ⟨_, DGet.t b4 (e2.ex _ _ a), ?_⟩
            rcases lookK_is k b6 with ⟨v1, v2⟩ | ⟨v, d, v1, v2, v3⟩
            · rw [v1]; rw [v2] at q3; exact hp z dz ρ2 S2 H2 q3 (s1.trans s2) i2 e2
            · rw [v1]; rw [v2] at q3; exact hp v d ρ2 S2 H2 q3 (s1.trans s2) v3 e2
      · exact q2.elim
end
end DL
set_option Elab.async false
set_option autoImplicit false
set_option linter.all false
set_option maxRecDepth 100000
set_option maxHeartbeats 3900000
namespace DL
open L2 PyProof.Rows PySem PySem.Spec
variable {τ : Tb}
/-! ### o.m(e, ..), o an instance of an own class -/
section
variable {X : Cx} {W : WX} {k n : Nat} {f C : Addr} {fd : FuncData} {ps ks : List Str} {sp : Sp} {m : Str} {apos pos : Pos} {o e : Expr} {es : List Expr} {kws : List Keyword} {ta : TE} {t tk : TA} {g : List Value → List Value → List Value} {gV : List V → List V → List V} {pl : Sem Bool}
def tMethG (W : WX) (C : Addr) (m : Str) (n k : Nat) (sp : Sp) (gV : List V → List V → List V) (ta : TE) (t tk : TA) : TE := fun σ H Q => ta σ H fun x H1 => ∃ a dx fs, x = .ref a ∧ H1 a = some (.ins C dx fs) ∧ fs.lookup m = none ∧
  t σ H1 fun vs H2 => tk σ H2 fun zs H3 => vs.length = n ∧ zs.length = k ∧ sp (gV (.ref a :: vs) zs) H3 Q fun cls d H' => W cls d σ H'
theorem pe_mg (he : PE X o ta) (hc : Cls X.K C) (hm : Meth X.K C m f) (F : FnG X.prog X.w X.K X.mg X.base k f fd ps sp) (c : Cok X W k) (hb : KBn X.K fd ps (n + 1) [] g gV) (ha : PA X (e :: es) t)
    (hst : starEach (e :: es) X.env = (false, eval e X.env) :: starEach es X.env := by rfl) (hpl : (backTo pos (starEach es X.env)).any (·.1) = false := by rfl)
    (ht : eval (.Call (.Attribute o m apos) (e :: es) [] pos) X.env = (do
      let ov ← eval o X.env
      standAt apos.atName
      let (f, first) ← holding [ov] (getMethod ov m pl)
      callWith pos f first (backTo pos (starEach (e :: es) X.env)) (backToKw pos (keywordEach [] X.env))) := by rfl) :
    PE X (.Call (.Attribute o m apos) (e :: es) [] pos) (tMethG W C m n 0 sp gV ta t tNil) := by
  refine ⟨fun pn s σ H Q I h => ?_⟩
  refine PySem.W.methodCall_KW (pl := pl) (thn (he.run pn s σ H _ I h) fun u s1 ⟨x, H1, I1, rx, a, dx, fs, ex, ea, l, q⟩ => ?_) ht
  subst ex
  obtain rfl : u = Value.ref a := rx
  refine getmeth_ok I1 ea hc hm l (PySem.W.callWith_K (first := [.ref a]) (h₀ := X.base) I.ok.mod.kin hm.kp (thn (ha.run pos pn s1 σ H1 _ I1 q) fun us s2 ⟨vs, H2, I2, r, l1, l2, q2⟩ => ⟨I2.kIn, ?_⟩) hst hpl)
  have r2 : Vals (V.ref a :: vs) (Value.ref a :: us) := .cons rfl r
  exact run_g (us := .ref a :: us) (vs := .ref a :: vs) (ws := []) (zs := []) F c hb I2 r2 .nil (by rw [List.length_cons, l1]) l2 q2
end
/-- o.m(..), o the slot i, an object of one's own -/
def wMeth (i : Nat) (C : Addr) (m : Str) (n : Nat) (sp : Spc) (wa : WL) : WE := fun ρ χ Φ => (∃ l ns es, ρ[i]? = some (Sl.own l (.i C ns es)) ∧ m ∉ ns) ∧ wa ρ χ fun ds ρ1 => ds.length = n ∧ match ρ1[i]? with
  | some (.own l o) => sp (some o) ds (fun d o' => ∃ o2, o' = some o2 ∧ Φ d (ρ1.set i (.own l o2))) fun _ _ _ => False
  | _ => False
theorem look_none {m : Str} : ∀ {fs : List (Str × V)}, m ∉ fs.map (·.1) → fs.lookup m = none
  | [], _ => rfl
  | (g, x) :: fs, h => by
    rw [List.map_cons, List.mem_cons, not_or] at h
    rw [List.lookup_cons, beq_eq_false_iff_ne.mpr h.1]
    exact look_none h.2
theorem l_meth {K : Fg} {W : WX} {i n : Nat} {C : Addr} {m : Str} {sp : Spc} {gV : List V → List V → List V} {wa : WL} (hg : ∀ vs, gV vs [] = vs) : ∀ σ H Q, lE K τ W (wMeth i C m n sp wa) σ H Q → tMethG W C m n 0 (lSp K τ.t (n + 1) sp) gV (tVar i) (lL K τ W wa) tNil σ H Q := by
  rintro σ H Q ⟨ρ, S, F, χ, Φ, e, ⟨⟨l, ns, es, hl, hm⟩, hw⟩, hx, hp⟩
  obtain ⟨hσ, _, _, o0, ho0, hi0⟩ := e.own i l _ hl
  cases hi0 with
  | i hns hi0 =>
    rename_i dx fs
    subst hns
    refine ⟨.ref l, hσ, l, dx, fs, rfl, ho0, look_none hm, ρ, S, F, χ, _, e, hw, hx, fun vs ds ρ1 S1 H1 h1 s1 i1 e1 => ?_⟩
    obtain ⟨l1, h2⟩ := h1
    have l1' : vs.length = n := by rw [i1.length]; exact l1
    split at h2
    · rename_i l' o' hl'
      obtain ⟨b1, b2, b3, ob, b4, b5⟩ := e1.own i l' o' hl'
      rw [hσ] at b1
      cases b1
      have ev : gV (V.ref l :: vs) [] = V.ref l :: vs := hg _
      refine ⟨l1', rfl, S1, others τ.t S1 H1 (fun a => a = l), some (l, o'), ds, _, _, by rw [ev, List.length_cons, l1'], ?_, h2, fun d v o2 S' H' q hs s' iv er => ?_, fun C f d v dd S' H' q => q.elim⟩
      · rw [ev]
        exact er_argsO i1 e1.ex e1.tb.oth (fun a o h => by obtain ⟨_, a1, a2⟩ := others_inv h; exact ⟨a2, .inl a1⟩) b4 b2 (by unfold others; rw [if_pos (.inl rfl)]) b5
      · obtain ⟨od2, rfl, q⟩ := q
        rw [ev] at er
        obtain ⟨_, c2, _, o3, c4, c5⟩ := er.own 0 l od2 rfl
        exact hp v d _ S' H' q (s1.trans s') iv (e1.backO hl' s' er.ex er.tb.tab er.tb.nS (fun a o n a0 a1 a2 => others_of (p := fun a => a = l) n a0 a1 a2) er.fr c4 c2 c5)
    · exact h2.elim
end DL
set_option Elab.async false
set_option autoImplicit false
set_option linter.all false
set_option maxRecDepth 100000
set_option maxHeartbeats 3900000
namespace DL
open L2 PyProof.Rows PySem PySem.Spec
variable {τ : Tb}
/-! ### several expressions, each a value or a new object of one's own -/
abbrev WM := Rho → XC → (List Sl → Rho → Prop) → Prop
inductive MOk (K : Fg) (S F H : Hp) (ρ : Rho) : List V → List Sl → Prop
  | nil : MOk K S F H ρ [] []
  | val {v d vs sl} : Is K S v d → MOk K S F H ρ vs sl → MOk K S F H ρ (v :: vs) (.val d :: sl)
  | own {l o od vs sl} : H l = some o → OIs K S o od → S l = none → F l = none → (∀ (j : Nat) (o2 : OD), ρ[j]? ≠ some (Sl.own l o2)) → (∀ o2, Sl.own l o2 ∉ sl) → MOk K S F H ρ vs sl → MOk K S F H ρ (.ref l :: vs) (.own l od :: sl)
def lM (K : Fg) (τ : Tb) (W : WX) (w : WM) : TA := fun σ H Q => ∃ ρ S F χ Φ, ER K τ S F H ρ σ ∧ w ρ χ Φ ∧ XOk K τ F W S χ ∧ ∀ vs sl ρ' S' H', Φ sl ρ' → Same S S' → MOk K S' F H' ρ' vs sl → ER K τ S' F H' ρ' σ → Q vs H'
def mNil : WM := fun ρ _ Φ => Φ [] ρ
def mVal (wa : WE) (wr : WM) : WM := fun ρ χ Φ => wa ρ χ fun d ρ1 => wr ρ1 χ fun sl ρ2 => Φ (.val d :: sl) ρ2
def mOwn (wo : WEO) (wr : WM) : WM := fun ρ χ Φ => wo ρ χ fun l od ρ1 => wr ρ1 χ fun sl ρ2 => Φ (.own l od :: sl) ρ2
section
variable {K : Fg} {W : WX} {S F H : Hp} {ρ : Rho} {σ : L2.St} {l : Addr} {o : HO} {od : OD}
theorem ER.toF (e : ER K τ S F H ρ σ) (h1 : H l = some o) (h2 : OIs K S o od) (h3 : S l = none) (h4 : F l = none) (h5 : ∀ (j : Nat) (o2 : OD), ρ[j]? ≠ some (Sl.own l o2)) : ER K τ S (upd F l o) H ρ σ := by
  refine ⟨e.len, e.ex, fun a u h => ?_, e.val, fun i m od2 h => ?_, e.dis, e.tb.addF h1 h4 h2.notX.1⟩
  · by_cases ha : a = l
    · subst ha; rw [upd_same] at h; cases h; exact ⟨h1, .inl h3⟩
    · rw [upd_ne ha] at h; exact e.fr a u h
  · obtain ⟨a1, a2, a3, a4⟩ := e.own i m od2 h
    have ne : m ≠ l := fun z => by subst z; exact h5 i od2 h
    exact ⟨a1, a2, by rw [upd_ne ne]; exact a3, a4⟩
theorem ER.ofF (e : ER K τ S (upd F l o) H ρ σ) (h4 : F l = none) (hg : τ.gf l = none) : ER K τ S F H ρ σ := by
  refine ⟨e.len, e.ex, fun a u h => e.fr a u (by rw [upd_ne (ne_of_none h h4)]; exact h), e.val, fun i m od2 h => ?_, e.dis, e.tb.lessF h4 hg⟩
  obtain ⟨a1, a2, a3, a4⟩ := e.own i m od2 h
  have ne : m ≠ l := fun z => by rw [z, upd_same] at a3; cases a3
  rw [upd_ne ne] at a3
  exact ⟨a1, a2, a3, a4⟩
theorem MOk.ofF (h4 : F l = none) : ∀ {vs : List V} {sl : List Sl}, MOk K S (upd F l o) H ρ vs sl → MOk K S F H ρ vs sl ∧ ∀ o2, Sl.own l o2 ∉ sl
  | _, _, .nil => ⟨.nil, fun _ h => nomatch h⟩
  | _, _, .val a b => by
    obtain ⟨h1, h2⟩ := MOk.ofF h4 b
    refine ⟨.val a h1, fun o2 h => ?_⟩
    rcases List.mem_cons.mp h with z | z
    · cases z
    · exact h2 o2 z
  | _, _, .own (l := m) a1 a2 a3 a4 a5 a6 b => by
    obtain ⟨h1, h2⟩ := MOk.ofF h4 b
    have ne : m ≠ l := fun z => by rw [z, upd_same] at a4; cases a4
    rw [upd_ne ne] at a4
    refine ⟨.own a1 a2 a3 a4 a5 a6 h1, fun o2 h => ?_⟩
    rcases List.mem_cons.mp h with z | z
    · cases z; exact ne rfl
    · exact h2 o2 z
theorem l_mNil : ∀ σ H Q, lM K τ W mNil σ H Q → tNil σ H Q := by
  rintro σ H Q ⟨ρ, S, F, χ, Φ, e, hw, hx, hp⟩
  exact hp [] [] ρ S H hw (Same.refl S) .nil e
theorem l_mVal {wa : WE} {wr : WM} : ∀ σ H Q, lM K τ W (mVal wa wr) σ H Q → tCons (lE K τ W wa) (lM K τ W wr) σ H Q := by
  rintro σ H Q ⟨ρ, S, F, χ, Φ, e, hw, hx, hp⟩
  refine ⟨ρ, S, F, χ, _, e, hw, hx, fun x dx ρ1 S1 H1 h1 s1 i1 e1 => ?_⟩
  exact ⟨ρ1, S1, F, χ, _, e1, h1, hx.mono s1, fun vs sl ρ2 S2 H2 h2 s2 i2 e2 => hp _ _ ρ2 S2 H2 h2 (s1.trans s2) (.val (i1.mono s2) i2) e2⟩
theorem l_mOwn {wo : WEO} {wr : WM} : ∀ σ H Q, lM K τ W (mOwn wo wr) σ H Q → tCons (lEO K τ W wo) (lM K τ W wr) σ H Q := by
  rintro σ H Q ⟨ρ, S, F, χ, Φ, e, hw, hx, hp⟩
  refine ⟨ρ, S, F, χ, _, e, hw, hx, fun l od o ρ1 S1 H1 h1 s1 a1 a2 a3 a4 a5 e1 => ?_⟩
  have hg := e1.tb.free a4
  refine ⟨ρ1, S1, upd F l o, χ, _, e1.toF a1 a2 a3 a4 a5, h1, fun C f d v dd ρ' S' σ' H' a b c d' e' => hx C f d v dd ρ' S' σ' H' a (s1.trans b) (c.ofF a4 hg) d' e', fun vs sl ρ2 S2 H2 h2 s2 i2 e2 => ?_⟩
  obtain ⟨b1, b2⟩ := e2.fr l o upd_same
  have b3 : S2 l = none := b2.resolve_right a2.nt
  obtain ⟨i3, i4⟩ := i2.ofF a4
  refine hp _ _ ρ2 S2 H2 h2 (s1.trans s2) (.own b1 (a2.mono s2) b3 a4 (fun j o2 z => ?_) i4 i3) (e2.ofF a4 hg)
  have := (e2.own j l o2 z).2.2.1
  rw [upd_same] at this
  cases this
/-- the slots, one behind the other -/
theorem MOk.setR {vs : List V} {sl : List Sl} {i : Nat} {s : Sl} (h : MOk K S F H ρ vs sl) (hs : ∀ l o, s = .own l o → ∀ o2, Sl.own l o2 ∉ sl) : MOk K S F H (ρ.set i s) vs sl := by
  have back : ∀ {l : Addr} {o2 : OD} {j : Nat}, (ρ.set i s)[j]? = some (Sl.own l o2) → ρ[j]? = some (Sl.own l o2) ∨ s = .own l o2 := fun {l o2 j} q => by
    by_cases hj : j = i
    · subst hj
      have hi : j < ρ.length := by
        have := (List.getElem?_eq_some_iff.mp q).1
        rwa [List.length_set] at this
      rw [List.getElem?_set_self hi] at q; cases q; exact .inr rfl
    · rw [List.getElem?_set_ne (Ne.symm hj)] at q; exact .inl q
  induction h with
  | nil => exact .nil
  | val a b ih => exact .val a (ih fun l o e o2 z => hs l o e o2 (List.mem_cons_of_mem _ z))
  | own a1 a2 a3 a4 a5 a6 b ih =>
    refine .own a1 a2 a3 a4 (fun j o2 z => ?_) a6 (ih fun l o e o2 z => hs l o e o2 (List.mem_cons_of_mem _ z))
    rcases back z with z | z
    · exact a5 j o2 z
    · exact hs _ _ z _ List.mem_cons_self
theorem MOk.set1 {v : V} {vs : List V} {s : Sl} {sl : List Sl} (h : MOk K S F H ρ (v :: vs) (s :: sl)) (e : ER K τ S F H ρ σ) (i : Nat) : MOk K S F H (ρ.set i s) vs sl ∧ ER K τ S F H (ρ.set i s) (σ.set i (some v)) := by
  cases h with
  | val a b => exact ⟨b.setR (fun _ _ z => by cases z), e.set a⟩
  | own a1 a2 a3 a4 a5 a6 b => exact ⟨b.setR (fun _ _ z => by cases z; exact a6), e.setOwn a1 a3 a4 a2 a5⟩
def wParM2 (i j : Nat) (wm : WM) : WS := fun ρ Δ => wm ρ Δ.xc fun sl ρ1 => match sl with
  | [a, b] => Δ.nx ((ρ1.set i a).set j b)
  | _ => False
def wParM3 (i j k : Nat) (wm : WM) : WS := fun ρ Δ => wm ρ Δ.xc fun sl ρ1 => match sl with
  | [a, b, c] => Δ.nx (((ρ1.set i a).set j b).set k c)
  | _ => False
theorem MOk.cons_inv {vs : List V} {s : Sl} {sl : List Sl} (h : MOk K S F H ρ vs (s :: sl)) : ∃ v vs', vs = v :: vs' := by cases h <;> exact ⟨_, _, rfl⟩
theorem l_parM2 {i j : Nat} {wm : WM} : ∀ D σ H, lS K τ W (wParM2 i j wm) D σ H → tPar i j (lM K τ W wm) D σ H := by
  rintro D σ H ⟨ρ, S, F, Δ, e, hw, hx, h1, h2, h3, h4, h5⟩
  refine ⟨ρ, S, F, _, _, e, hw, hx, fun vs sl ρ1 S1 H1 q1 s1 i1 e1 => ?_⟩
  split at q1
  · obtain ⟨v, vs, rfl⟩ := i1.cons_inv
    obtain ⟨i2, e2⟩ := i1.set1 e1 i
    obtain ⟨u, vs, rfl⟩ := i2.cons_inv
    obtain ⟨i3, e3⟩ := i2.set1 e2 j
    cases i3
    exact ⟨_, _, rfl, h1 _ S1 _ _ q1 s1 e3⟩
  · exact q1.elim
theorem l_parM3 {i j k : Nat} {wm : WM} : ∀ D σ H, lS K τ W (wParM3 i j k wm) D σ H → tPar3 i j k (lM K τ W wm) D σ H := by
  rintro D σ H ⟨ρ, S, F, Δ, e, hw, hx, h1, h2, h3, h4, h5⟩
  refine ⟨ρ, S, F, _, _, e, hw, hx, fun vs sl ρ1 S1 H1 q1 s1 i1 e1 => ?_⟩
  split at q1
  · obtain ⟨v, vs, rfl⟩ := i1.cons_inv
    obtain ⟨i2, e2⟩ := i1.set1 e1 i
    obtain ⟨u, vs, rfl⟩ := i2.cons_inv
    obtain ⟨i3, e3⟩ := i2.set1 e2 j
    obtain ⟨w, vs, rfl⟩ := i3.cons_inv
    obtain ⟨i4, e4⟩ := i3.set1 e3 k
    cases i4
    exact ⟨_, _, _, rfl, h1 _ S1 _ _ q1 s1 e4⟩
  · exact q1.elim
end
/-! ### C(e, .., k = v, ..): an object of one's own -/
def woMake (C : Addr) (n m : Nat) (sp : Spc) (gD : List D → List D → List D) (wa wk : WL) : WEO := fun ρ χ Φ => wa ρ χ fun ds ρ1 => wk ρ1 χ fun zs ρ2 => ds.length = n ∧ zs.length = m ∧
  sp (some (.i C [] [])) (gD ds zs) (fun d o' => d = .non ∧ ∃ ns es, o' = some (.i C ns es) ∧ ∀ l, Φ l (.i C ns es) ρ2) fun C f d => χ C f d ρ2
theorem lo_make {K : Fg} {W : WX} {C : Addr} {sp : Spc} {n m N : Nat} {gV gW : List V → List V → List V} {gD : List D → List D → List D} {wa wk : WL} (hg : GRel n m N gW gD) (hgv : ∀ v vs zs, vs.length = n → zs.length = m → gV (v :: vs) zs = v :: gW vs zs) :
    ∀ σ H Q, lEO K τ W (woMake C n m sp gD wa wk) σ H Q → tMakeG W C n m (lSp K τ.t (N + 1) sp) gV (lL K τ W wa) (lL K τ W wk) σ H Q := by
  rintro σ H Q ⟨ρ, S, F, χ, Φ, e, hw, hx, hp⟩
  refine ⟨ρ, S, F, χ, _, e, hw, hx, fun vs ds ρ1 S1 H1 h1 s1 i1 e1 => ?_⟩
  refine ⟨ρ1, S1, F, χ, _, e1, h1, hx.mono s1, fun us es ρ2 S2 H2 h2 s2 i2 e2 => ?_⟩
  obtain ⟨l1, l2, h3⟩ := h2
  have l1' : vs.length = n := by rw [i1.length]; exact l1
  have l2' : us.length = m := by rw [i2.length]; exact l2
  obtain ⟨ig, lg⟩ := hg K S2 vs ds us es (i1.mono s2) i2 l1' l2'
  refine ⟨l1', l2', fun x dx hx0 hdx hne => ?_⟩
  have old : ∀ {a : Addr} {o : HO}, H2 a = some o → (upd (upd H2 dx (.own x)) x (.ins C dx [])) a = some o := fun {a o} h => by rw [upd_ne (ne_of_none h hx0), upd_ne (ne_of_none h hdx)]; exact h
  have fc : ∀ a o, a ∉ τ.t.map (·.1) → S2 a = none → H2 a = some o → others τ.t S2 (upd (upd H2 dx (.own x)) x (.ins C dx [])) (fun a => a = x) a = some o := fun a o n a1 a2 =>
    others_of (p := fun a => a = x) n (ne_of_none a2 hx0) a1 (old a2)
  rw [hgv _ _ _ l1' l2']
  have tb : TbOk τ S2 F (upd (upd H2 dx (.own x)) x (.ins C dx [])) := ⟨e2.tb.tab.ext fun b u z => old z, e2.tb.nS, e2.tb.nF, e2.tb.ks, e2.tb.kf⟩
  have e3 : ER K (tb0 τ.t) S2 (others τ.t S2 (upd (upd H2 dx (.own x)) x (.ins C dx [])) fun a => a = x) (upd (upd H2 dx (.own x)) x (.ins C dx [])) (args (some (x, .i C [] [])) (gD ds es)) ((V.ref x :: gW vs us).map some) := er_argsO (l := x) (od := .i C [] []) ig (fun b u q => old (e2.ex b u q)) tb.oth (fun a o h => by obtain ⟨_, a1, a2⟩ := others_inv h; exact ⟨a2, .inl a1⟩) upd_same (e2.sp hx0) (by unfold others; rw [if_pos (.inl rfl)]) (.i rfl .nil)
  refine ⟨S2, _, some (x, .i C [] []), gD ds es, _, _, by rw [List.length_cons, lg], e3, h3, fun d v o2 S' H' q _ s' iv er => ?_, fun C f d v dd S' H' q s' ex tb fr hd iv => ?_⟩
  · obtain ⟨rfl, ns, ys, rfl, q⟩ := q
    cases iv
    obtain ⟨_, c2, _, o3, c4, c5⟩ := er.own 0 x _ rfl
    exact ⟨rfl, hp x _ o3 ρ2 S' H' (q x) ((s1.trans s2).trans s') c4 c5 c2 (e2.fp hx0) (e2.notOwn hx0) (e2.back s' er.ex er.tb.tab er.tb.nS fc er.fr)⟩
  · exact hx C f d v dd ρ2 S' σ H' q ((s1.trans s2).trans s') (e2.back s' ex tb.tab tb.nS fc fr) hd iv
section
variable {X : Cx} {W : WX} {k n : Nat} {f C : Addr} {fd : FuncData} {ps ks : List Str} {sp : Sp} {x : Str} {p pos : Pos} {e : Expr} {es : List Expr} {kws : List Keyword} {t tk : TA} {g : List Value → List Value → List Value} {gV : List V → List V → List V}
theorem pe_mkk (M : Mk X.K C f) (F : FnG X.prog X.w X.K X.mg X.base k f fd ps sp) (c : Cok X W (k + 1)) (hg : Gl X x) (hm : X.mg x = some (.ref C)) (hb : KBn X.K fd ps (n + 1) ks g gV)
    (ha : PA X (e :: es) t) (hkw : PK X kws tk) (hall : ((backToKw pos (keywordEach kws X.env)).all (·.1.isSome)) = true := by rfl) (hks : (backToKw pos (keywordEach kws X.env)).filterMap (·.1) = ks := by rfl)
    (he : starEach (e :: es) X.env = (false, eval e X.env) :: starEach es X.env := by rfl) (hdb : (x == ("__debug__" : Str)) = false := by decide) (hpl : ((backTo pos (starEach (e :: es) X.env)).any (·.1) || (backToKw pos (keywordEach kws X.env)).any (·.1.isNone)) = false := by rfl) :
    PE X (.Call (.Name x p) (e :: es) kws pos) (tMakeG W C n ks.length sp gV t tk) := by
  refine ⟨fun pn s σ H Q I h => ?_⟩
  refine wpAny_Call_Name_kw (ld_glob I hg hm (?_) hdb) <;> refine PySem.W.callWith_KW (h₀ := X.base) I.ok.mod.kin M.kp hall (thn (ha.run pos pn s σ H _ I h) fun us s1 ⟨vs, H1, i1, r, q⟩ => ?_) hpl he
  refine thn (hkw.run pos pn s1 σ H1 _ i1 q) fun ws s2 ⟨zs, H2, i2, rz, l1, l2, q2⟩ => ⟨i2.kIn, ?_⟩
  rw [hks]
  exact run_makeG M F c hb i2 r rz l1 l2 q2
end
end DL
set_option Elab.async false
set_option autoImplicit false
set_option linter.all false
set_option maxRecDepth 100000
set_option maxHeartbeats 3900000
namespace DL
open L2 PyProof.Rows PySem PySem.Spec
/-! ### set(x), x a list of ints -/
section
variable {P : Program} {w : World} {A : Around} {E : Value → Shared → Prop} {s : Shared}
abbrev bareSet (w : World) : Obj := { cls := .type "set", dict := none, data := .set #[] 0 (.fresh 0 0 (!w.params.followText "set-order")) }
/-- what a new set knows of a list of ints behind set.__init__ -/
abbrev Filled (w : World) (s : Shared) (S : Addr) (ns : List Int) (z : Shared) : Prop := ∃ (hp : Heap) (tk c : Nat), z = { s with heap := hp, toks := tk } ∧ SetR w hp S (fun j => decide (j ∈ ns)) c ∧ c ≤ ns.length ∧ ∀ b o, s.heap.get? b = some o → hp.get? b = some o
theorem fill_list {l : Addr} {items : Array Value} (ns : List Int) (hn : A.handled = none) (hl : s.heap.IsList l items) (hi : IntsAre items.toList ns) (hz : ns.length + 1 < scanBound) :
    codeAny (model P w) A (.call (.builtin "set.__init__") ⟨[.ref s.heap.objs.size, .ref l], []⟩) (wants (fun r z => r = .none ∧ Filled w s s.heap.objs.size ns z) E) { s with heap := s.heap.push (bareSet w) } := by
  refine codeAny_call_builtin F.called_set.init.plain F.entry_set_init (check_set_init_1 ⟨_, Heap.get?_push_size _ rfl, rfl⟩ ?_)
  -- the list, seen behind the new set
  have up := hl.push (bareSet w)
  have lt : l < s.heap.objs.size := by obtain ⟨o, ho, -⟩ := hl; exact Heap.lt_size ho
  obtain ⟨o, ho, hcl, nl, hd⟩ := up
  obtain ⟨cl, dc, da, sl⟩ := o
  cases hcl
  cases hd
  have it2 : Shared.TypeIs { s with heap := s.heap.push (bareSet w) } (.ref l) "list" := ⟨_, ho, rfl⟩
  have s1 := F.sub_list_set
  have s2 := F.sub_list_frozenset
  have s3 : (Value.type "list" == Value.type "dict") = false := by decide
  have up2 : (s.heap.push (bareSet w)).IsList l items := ⟨_, ho, rfl, nl, rfl⟩
  unfold Builtin.«set.__init__» noKeywords Builtin.Frozenset.updateFrom
  generalize hp : pyIter = walk
  wp_walk
  cases hp
  refine wpAny_pyIter_list up2 (wpAny_bind (wpAny_runValue ?_))
  have q1 : (s.heap.push (bareSet w)).objs.size = s.heap.objs.size + 1 := Heap.size_push ..
  have q2 : l ≠ (s.heap.push (bareSet w)).objs.size := by rw [q1]; exact Nat.ne_of_lt (Nat.lt_succ_of_lt lt)
  have q3 : s.heap.objs.size ∉ [(s.heap.push (bareSet w)).objs.size, l] := by
    rw [q1]
    intro z
    rcases List.mem_cons.mp z with z | z
    · exact absurd z (Nat.ne_of_lt (Nat.lt_succ_self _))
    · exact absurd (List.mem_singleton.mp z) (Nat.ne_of_gt lt)
  have hsz : items.size = ns.length := by rw [← hi.length, Array.length_toList]
  have item : ∀ (i : Nat) (v : Value), items[i]? = some v → ∃ k t, ns[i]? = some k ∧ v = .int k t := fun i v hv => by
    have h1 : i < ns.length := by rw [← hsz]; exact (Array.getElem?_eq_some_iff.mp hv).1
    obtain ⟨t, e⟩ := hi.int_at i v (by rw [Array.getElem?_toList]; exact hv)
    have h2 : ns[i]? = some ns[i] := List.getElem?_eq_getElem h1
    exact ⟨ns[i], t, h2, by rw [e, List.getD_eq_getElem?_getD, h2]; rfl⟩
  have base : ((s.heap.push (bareSet w)).push { cls := .type "list_iterator", data := .fields #[.ref l, .int 0 0] }).get? s.heap.objs.size = some (bareSet w) := Heap.get?_push_of_some _ (Heap.get?_push_size _ rfl)
  refine set_update_ints ((Walks.list (by simp [hn]) _ l q2 items).toS) s.heap.objs.size q3 ns hsz hz item (items.size - 0) 0 _ (by omega) (Nat.zero_le _) ⟨⟨_, Heap.get?_push_size _ rfl, rfl, rfl⟩, up2.push _⟩ ⟨0, Nat.le_refl 0, setR_new_at base⟩ fun z c hm hc hS => ?_
  obtain ⟨hp, g2, d2, tk, os2⟩ := z
  cases (show g2 = s.gens from hm.gens)
  cases (show d2 = s.drawn from hm.drawn)
  cases (show os2 = s.os from hm.os)
  refine (show wpAny _ _ _ _ _ _ from wpAny_pure (show wpAny _ _ (ret Value.none) _ _ _ from wpAny_pure ⟨rfl, hp, tk, c, rfl, hS, by rw [← hsz]; exact hc, fun b u e => ?_⟩))
  have hb := Heap.lt_size e
  refine hm.heap b u ?_ (Heap.get?_push_of_some _ (Heap.get?_push_of_some _ e))
  rw [q1]
  intro z
  rcases List.mem_cons.mp z with z | z
  · exact absurd z (Nat.ne_of_lt hb)
  · exact absurd (List.mem_singleton.mp z) (Nat.ne_of_lt (Nat.lt_succ_of_lt hb))
theorem call_set_listI {l : Addr} {items : Array Value} (ns : List Int) {Q : Value → Shared → Prop} (hn : A.handled = none) (hl : s.heap.IsList l items) (hi : IntsAre items.toList ns) (hz : ns.length + 1 < scanBound)
    (h : ∀ (hp : Heap) (tk c : Nat), SetR w hp s.heap.objs.size (fun j => decide (j ∈ ns)) c → c ≤ ns.length → (∀ b o, s.heap.get? b = some o → hp.get? b = some o) → Q (.ref s.heap.objs.size) { s with heap := hp, toks := tk }) :
    wpAny (model P w) A (call (.type "set") [.ref l]) Q E s := by
  obtain ⟨c0, tl, m0⟩ := F.called_set.mro
  have m1 := F.called_set.made
  have m2 := F.called_set.sub
  have m3 := F.called_set.notType
  have m4 := F.called_set.canCreate
  have m5 := F.typeCall_set_1 (.ref l)
  refine wpAny_call (codeAny_of_tree (show wpAny _ _ (callAny (.type "set") _) _ _ _ from wpAny_pure ⟨Code.quiet_builtin _ (by decide +kernel), codeAny_builtin F.entry_type_call ?_⟩))
  rw [Around.under_plain (weight_type_call_type "set" [.ref l] []) rfl]
  repeat (any_goals (first | assumption | wp_step))
  refine codeAny_mono (code_set_led1 (.ref l) (E := E) (Q₁ := fun v z => v = .ref s.heap.objs.size ∧ z = { s with heap := s.heap.push (bareSet w) }) ⟨rfl, rfl⟩) fun r z hr => ?_
  match r, hr with
  | .error e, hr => exact hr
  | .ok (.ret v), hr =>
    obtain ⟨rfl, rfl⟩ := hr
    have k1 : Shared.TypeIs { s with heap := s.heap.push (bareSet w) } (.ref s.heap.objs.size) "set" := ⟨_, Heap.get?_push_size _ rfl, rfl⟩
    have k2 := F.called_set.init.lookup
    have k3 := F.called_set.init.bind (.ref s.heap.objs.size)
    repeat (any_goals (first | assumption | wp_step))
    refine codeAny_mono (fill_list (E := E) ns (by simp [hn]) hl hi hz) fun r z hr => ?_
    match r, hr with
    | .error e, hr => exact hr
    | .ok (.ret v), hr =>
      obtain ⟨rfl, hp, tk, c, rfl, h1, h2, h3⟩ := hr
      repeat (any_goals (first | assumption | wp_step))
      exact h _ _ c h1 h2 h3
end
end DL
set_option Elab.async false
set_option autoImplicit false
set_option linter.all false
set_option maxRecDepth 100000
set_option maxHeartbeats 3900000
namespace DL
open L2 PyProof.Rows PySem PySem.Spec
variable {τ : Tb}
/-! ### sorted(set(x)), x a list or a tuple of ints -/
def rSetL (K : PySem.W.Frag) (w : World) : List V → Hp → VK → Prop := fun xs H Q => ∃ (p : Addr) (ns : List Int), xs = [.ref p] ∧ SqL K H p (ns.map V.int) ∧ ns.length ≤ 1000 ∧ ∀ a c, H a = none → c ≤ ns.length → Q (.ref a) (upd H a (SetO w a (fun j => decide (j ∈ ns)) c))
def rSetB (K : PySem.W.Frag) (w : World) : List V → Hp → VK → Prop := fun xs H Q => rSetT K w xs H Q ∨ rSetL K w xs H Q
theorem cr_setB {X : Cx} (hc : X.calm = true) : CallR X (.type "set") (rSetB X.K X.w) := by
  rintro pins s σ H xs us Q I r (q | q)
  · exact cr_setT hc pins s σ H xs us Q I r q
  · obtain ⟨p0, ns, rfl, hq, hl, q⟩ := q
    obtain ⟨u, rfl, rx⟩ := r.one
    cases rx
    obtain ⟨its, rv, pt, hz⟩ := I.list hq
    refine call_set_listI ns (I.ok.hd hc) (show s.heap.IsList p0 its.toArray from pt.isList) (ints_of_vals rv) (by unfold scanBound; omega) fun h' tk c R1 hcn k => ?_
    exact ⟨.ref s.heap.objs.size, _, I.laid k (Nat.le_refl _) (setO_new R1), rfl, q _ c (I.hok.fresh (Nat.le_refl _)) hcn⟩
def wSortSet2 (wa : WE) : WE := fun ρ χ Φ => wa ρ χ fun d ρ1 => match d with
  | .tup ds => ∃ ns, intsOf ds = some ns ∧ ns.length ≤ 1000 ∧ Φ (.lst ((setI ns).map D.int)) ρ1
  | .lst ds => ∃ ns, intsOf ds = some ns ∧ ns.length ≤ 1000 ∧ Φ (.lst ((setI ns).map D.int)) ρ1
  | _ => False
theorem l_sortSet2 {K : Fg} {W : WX} {w : World} {wa : WE} : ∀ σ H Q, lE K τ W (wSortSet2 wa) σ H Q → tCB (rSortSI w) (tCons (tCB (rSetB K w) (tCons (lE K τ W wa) tNil)) tNil) σ H Q := by
  rintro σ H Q ⟨ρ, S, F, χ, Φ, e, hw, hx, hp⟩
  refine ⟨ρ, S, F, χ, _, e, hw, hx, fun x dx ρ1 S1 H1 h1 s1 i1 e1 => ?_⟩
  have fin : ∀ (ns : List Int) (p c : Nat), ns.length ≤ 1000 → H1 p = none → c ≤ ns.length → Φ (.lst ((setI ns).map D.int)) ρ1 → rSortSI w [.ref p] (upd H1 p (SetO w p (fun j => decide (j ∈ ns)) c)) Q := fun ns p c h3 hp1 hc h4 => by
    refine ⟨p, ns, c, rfl, upd_same, by rw [sizeLine_eq]; omega, fun ys p2 y1 y2 hp2 => ?_⟩
    have e2 := e1.addH (o := SetO w p (fun j => decide (j ∈ ns)) c) hp1
    cases setI_of y1 y2
    exact hp _ _ ρ1 _ _ h4 (s1.trans (e2.sn hp2)) (.lst upd_same (isAll_ints _)) (e2.new hp2)
  cases i1 with
  | tup a b =>
    obtain ⟨ns, h2, h3, h4⟩ := h1
    cases ints_is b h2
    exact .inl ⟨_, ns, rfl, .inl (.inl (e1.ex _ _ a)), h3, fun p c hp1 hc => fin ns p c h3 hp1 hc h4⟩
  | ktup a b a3 =>
    obtain ⟨ns, h2, h3, h4⟩ := h1
    cases ints_is b h2
    exact .inl ⟨_, ns, rfl, .inr a, h3, fun p c hp1 hc => fin ns p c h3 hp1 hc h4⟩
  | lst a b =>
    obtain ⟨ns, h2, h3, h4⟩ := h1
    cases ints_is b h2
    exact .inr ⟨_, ns, rfl, .inl (.inl (e1.ex _ _ a)), h3, fun p c hp1 hc => fin ns p c h3 hp1 hc h4⟩
  | _ => exact False.elim h1
section
variable {X : Cx} {W : WX} {k n i j : Nat} {x y z m : Str} {a b c e f o : Expr} {es rest : List Expr} {p px py pz pt pt2 pos pos' apos cpos tpos : Pos} {kt k2 : Nat} {wa wb wk : WE} {wl : WL} {wm : WM} {wo : WEO} {kws : List Keyword} {C g0 : Addr} {fd : FuncData} {ps ks : List Str} {sp : Spc} {f0 : Str}
theorem e_sortSet2 (hc : X.calm = true) (hm : X.mg "sorted" = none) (hm2 : X.mg "set" = none) (ha : PEd X τ W a wa) (hg : Gl X "sorted" := by rfl) (hg2 : Gl X "set" := by rfl) (he2 : starEach [a] X.env = (false, eval a X.env) :: starEach [] X.env := by rfl)
    (he : starEach [.Call (.Name "set" p) [a] [] pos'] X.env = (false, eval (.Call (.Name "set" p) [a] [] pos') X.env) :: starEach [] X.env := by rfl) : PEd X τ W (.Call (.Name "sorted" px) [.Call (.Name "set" p) [a] [] pos'] [] pos) (wSortSet2 wa) :=
  PE.imp (pe_callB (cr_sortSI hc) hg hm (by decide +kernel) (pa_cons (pe_callTy (cr_setB hc) hg2 hm2 (by decide +kernel) (pa_cons ha pa_nil he2) (by decide) (by decide) he2 rfl) pa_nil he) (by decide) (by decide) he rfl) l_sortSet2
/-- o.m(e, ..), o the slot i -/
theorem e_meth {tt : List (Addr × Str)} (q : Cok X W k) {j : Nat} {pl : Sem Bool} (hc : Cls X.K C) (hm : Meth X.K C m g0) (F : FnG X.prog X.w X.K X.mg X.base j g0 fd ps (lSp X.K tt (n + 1) sp)) (hb : KBn X.K fd ps (n + 1) [] (fun us _ => us) (fun us _ => us)) (ha : PAd X τ W (e :: es) wl) (hj : j ≤ k := by decide)
    (hN : X.N[i]? = some x := by rfl) (hv : Vis X.env.scope x := by first | exact .inl rfl | exact .inr (.inl rfl) | exact .inr (.inr rfl)) (hd : (x == ("__debug__" : Str)) = false := by decide) (hcd : (x == ("__classdict__" : Str)) = false := by decide)
    (hst : starEach (e :: es) X.env = (false, eval e X.env) :: starEach es X.env := by rfl) (hpl : (backTo pos (starEach es X.env)).any (·.1) = false := by rfl)
    (ht : eval (.Call (.Attribute (.Name x p) m apos) (e :: es) [] pos) X.env = (do
      let ov ← eval (.Name x p) X.env
      standAt apos.atName
      let (f, first) ← holding [ov] (getMethod ov m pl)
      callWith pos f first (backTo pos (starEach (e :: es) X.env)) (backToKw pos (keywordEach [] X.env))) := by rfl) (htt : τ.t = tt := by rfl) :
    PEd X τ W (.Call (.Attribute (.Name x p) m apos) (e :: es) [] pos) (wMeth i C m n sp wl) := by
  subst htt
  exact PE.imp (pe_mg (pe_var hN hv hd hcd) hc hm (F.mono hj) q hb ha hst hpl ht) (l_meth fun _ => rfl)
/-- o = C(e, .., k = v, ..) -/
theorem o_make {tt : List (Addr × Str)} (q : Cok X W (k + 1)) {j N : Nat} {g : List Value → List Value → List Value} {gV gW : List V → List V → List V} {gD : List D → List D → List D} (M : Mk X.K C g0) (F : FnG X.prog X.w X.K X.mg X.base j g0 fd ps (lSp X.K tt (N + 1) sp)) (hm : X.mg x = some (.ref C))
    (kb : KBn X.K fd ps (n + 1) ks g gV) (hg : GRel n ks.length N gW gD) (hgv : ∀ v vs zs, vs.length = n → zs.length = ks.length → gV (v :: vs) zs = v :: gW vs zs) (ha : PAd X τ W (e :: es) wl) {wz : WL} (hk : PKd X τ W kws wz) (hj : j ≤ k := by decide) (hgl : Gl X x := by rfl)
    (hall : ((backToKw pos (keywordEach kws X.env)).all (·.1.isSome)) = true := by rfl) (hks : (backToKw pos (keywordEach kws X.env)).filterMap (·.1) = ks := by rfl) (he : starEach (e :: es) X.env = (false, eval e X.env) :: starEach es X.env := by rfl)
    (hdb : (x == ("__debug__" : Str)) = false := by decide) (hpl : ((backTo pos (starEach (e :: es) X.env)).any (·.1) || (backToKw pos (keywordEach kws X.env)).any (·.1.isNone)) = false := by rfl) (htt : τ.t = tt := by rfl) :
    PEO X τ W (.Call (.Name x p) (e :: es) kws pos) (woMake C n ks.length sp gD wl wz) := by
  subst htt
  exact PE.imp (pe_mkk M (F.mono hj) q hgl hm kb ha hk hall hks he hdb hpl) (lo_make hg hgv)
/-- o.f as a target, o.f = e, o.f += e -/
theorem g_fldO (hc : Cls X.K C) (hn : NoAttr X.K C f0) (hN : X.N[i]? = some x := by rfl) (hv : Vis X.env.scope x := by first | exact .inl rfl | exact .inr (.inl rfl) | exact .inr (.inr rfl)) (hd : (x == ("__debug__" : Str)) = false := by decide) (hcd : (x == ("__classdict__" : Str)) = false := by decide) :
    PGd X τ (.Attribute (.Name x p) f0 pos) (wgFld C f0 i) := PG.imp (pg_fld (pe_var hN hv hd hcd)) (g_fld hc hn)
theorem s_fadd (hc : Cls X.K C) (hn : NoAttr X.K C f0) (ha : PEd X τ W e wa) (hN : X.N[i]? = some x := by rfl) (hv : Vis X.env.scope x := by first | exact .inl rfl | exact .inr (.inl rfl) | exact .inr (.inr rfl)) (hd : (x == ("__debug__" : Str)) = false := by decide) (hcd : (x == ("__classdict__" : Str)) = false := by decide) :
    PSd X τ W (.AugAssign (.Attribute (.Name x p) f0 tpos) .Add e pos) (wFadd C f0 i wa) := PS.imp (ps_fldaug (pe_var hN hv hd hcd) ha in_add) (l_fadd hc hn)
/-- x.pop(e), d.get(e, f) -/
theorem e_popO (ha : PEd X τ W e wa) (hN : X.N[i]? = some x := by rfl) (hv : Vis X.env.scope x := by first | exact .inl rfl | exact .inr (.inl rfl) | exact .inr (.inr rfl)) (hd : (x == ("__debug__" : Str)) = false := by decide) (hcd : (x == ("__classdict__" : Str)) = false := by decide)
    (hbase : attributeBase (.Name x p) "pop" X.env (eval (.Name x p) X.env) = eval (.Name x p) X.env := by rfl)
    (hfew : ((backTo cpos (starEach [e] X.env)).all (fun x => !x.1) && (backToKw cpos (keywordEach [] X.env)).all (fun x => x.1.isSome) && decide ([e].length + ([] : List Keyword).length + (if ([] : List Keyword).isEmpty then 0 else 1) < 30)) = true := by rfl) (hline : (apos.endLine == cpos.line) = true := by rfl)
    (hs : starEach [e] X.env = (false, eval e X.env) :: starEach [] X.env := by rfl) :
    PEd X τ W (.Call (.Attribute (.Name x p) "pop" apos) [e] [] cpos) (wPopO i wa) :=
  PE.imp (pe_bm PySem.F.plainAttrs_list PySem.F.slot_list_pop PySem.F.type_list_pop mt_popAt (pe_var hN hv hd hcd) (pa_cons ha pa_nil hs) hbase hfew hline hs) l_popO
theorem e_getT (q : Cok X W k) (hk : PEd X τ W e wk) (ha : PEd X τ W f wa) (m2 : M2 X (.Name x p) "get" apos e f cpos) (hN : X.N[i]? = some x := by rfl) (hv : Vis X.env.scope x := by first | exact .inl rfl | exact .inr (.inl rfl) | exact .inr (.inr rfl)) (hd : (x == ("__debug__" : Str)) = false := by decide) (hcd : (x == ("__classdict__" : Str)) = false := by decide) :
    PEd X τ W (.Call (.Attribute (.Name x p) "get" apos) [e, f] [] cpos) (wGetT i wk wa) := PE.imp (pe_dget2 q.u1 (pe_var hN hv hd hcd) hk ha m2) l_getT
/-! several names at once, some of them objects of one's own -/
abbrev PMd (X : Cx) (τ : Tb) (W : WX) (es : List Expr) (w : WM) : Prop := PA X es (lM X.K τ W w)
theorem s_parM2 (hN : X.N.Nodup) (hc : X.calm = true) (i m : Nat) (h : PMd X τ W [a, b] wm) (hw : swappedStores [.Tuple [.Name x px, .Name y py] kt pt] (.Tuple [a, b] k2 pt2) X.env = pure (some [x, y])) (hij : i ≠ m := by decide) (hi : X.N[i]? = some x := by rfl) (hj : X.N[m]? = some y := by rfl)
    (hx : X.env.scope.names.lookup x = some .local := by rfl) (hy : X.env.scope.names.lookup y = some .local := by rfl) (hs : swapsWithSole [.Tuple [.Name x px, .Name y py] kt pt] (.Tuple [a, b] k2 pt2) pos.line X.env = pure false := by rfl) :
    PSd X τ W (.Assign [.Tuple [.Name x px, .Name y py] kt pt] (.Tuple [a, b] k2 pt2) pos) (wParM2 i m wm) := PS.imp (ps_par hc hN hi hj hij hx hy h hw hs) l_parM2
theorem s_parM3 (hN : X.N.Nodup) (hc : X.calm = true) (i m l : Nat) (h : PMd X τ W [a, b, c] wm) (hw : swappedStores [.Tuple [.Name x px, .Name y py, .Name z pz] kt pt] (.Tuple [a, b, c] k2 pt2) X.env = pure (some [x, y, z])) (hi : X.N[i]? = some x := by rfl) (hj : X.N[m]? = some y := by rfl) (hl : X.N[l]? = some z := by rfl)
    (hij : i ≠ m := by decide) (hil : i ≠ l := by decide) (hjl : m ≠ l := by decide) (hx : X.env.scope.names.lookup x = some .local := by rfl) (hy : X.env.scope.names.lookup y = some .local := by rfl) (hz : X.env.scope.names.lookup z = some .local := by rfl)
    (hs : swapsWithSole [.Tuple [.Name x px, .Name y py, .Name z pz] kt pt] (.Tuple [a, b, c] k2 pt2) pos.line X.env = pure false := by rfl) :
    PSd X τ W (.Assign [.Tuple [.Name x px, .Name y py, .Name z pz] kt pt] (.Tuple [a, b, c] k2 pt2) pos) (wParM3 i m l wm) := PS.imp (ps_par3 hc hN hi hj hl hij hil hjl hx hy hz h hw hs) l_parM3
theorem m_nil : PMd X τ W [] mNil := PA.imp pa_nil l_mNil
theorem m_val (h : PEd X τ W e wa) (r : PMd X τ W es wm) (hs : starEach (e :: es) X.env = (false, eval e X.env) :: starEach es X.env := by rfl) : PMd X τ W (e :: es) (mVal wa wm) := PA.imp (pa_cons h r hs) l_mVal
theorem m_own (h : PEO X τ W e wo) (r : PMd X τ W es wm) (hs : starEach (e :: es) X.env = (false, eval e X.env) :: starEach es X.env := by rfl) : PMd X τ W (e :: es) (mOwn wo wm) := PA.imp (pa_cons h r hs) l_mOwn
end
end DL
set_option Elab.async false
set_option autoImplicit false
set_option linter.all false
set_option maxRecDepth 100000
set_option maxHeartbeats 3900000
namespace DL
open L2 PyProof.Rows PySem PySem.Spec
variable {τ : Tb}
/-! ### o.m(e, ..) whose last parameters take their defaults -/
theorem kb_dfl {K : Fg} {fd : FuncData} {ps : List Str} {n : Nat} {dvs : List V} {ds : List Value} (h : Binds K fd ps ds) (r : Vals dvs ds) (hn : n + dvs.length = ps.length) : KBn K fd ps n [] (fun us _ => us ++ ds) (fun us _ => us ++ dvs) := by
  have hl : ds.length = dvs.length := r.length.symm
  refine ⟨fun s us ws X h1 h2 => ?_, fun {vs us zs ws} r1 _ => r1.append r⟩
  cases List.length_eq_zero_iff.mp h2
  exact h s us X (by rw [List.length_append, h1, hl]; exact hn)
def wMethD (i : Nat) (C : Addr) (m : Str) (n : Nat) (sp : Spc) (exD : List D) (wa : WL) : WE := fun ρ χ Φ => (∃ l ns es, ρ[i]? = some (Sl.own l (.i C ns es)) ∧ m ∉ ns) ∧ wa ρ χ fun ds ρ1 => ds.length = n ∧ match ρ1[i]? with
  | some (.own l o) => sp (some o) (ds ++ exD) (fun d o' => ∃ o2, o' = some o2 ∧ Φ d (ρ1.set i (.own l o2))) fun _ _ _ => False
  | _ => False
theorem l_methD {K : Fg} {W : WX} {i n N : Nat} {C : Addr} {m : Str} {sp : Spc} {gV : List V → List V → List V} {ex : List V} {exD : List D} {wa : WL} (hg : ∀ vs, gV vs [] = vs ++ ex) (hx0 : ∀ S, IsAll K S ex exD) (hN : n + 1 + ex.length = N) :
    ∀ σ H Q, lE K τ W (wMethD i C m n sp exD wa) σ H Q → tMethG W C m n 0 (lSp K τ.t N sp) gV (tVar i) (lL K τ W wa) tNil σ H Q := by
  rintro σ H Q ⟨ρ, S, F, χ, Φ, e, ⟨⟨l, ns, es, hl, hm⟩, hw⟩, hx, hp⟩
  obtain ⟨hσ, _, _, o0, ho0, hi0⟩ := e.own i l _ hl
  cases hi0 with
  | i hns hi0 =>
    rename_i dx fs
    subst hns
    refine ⟨.ref l, hσ, l, dx, fs, rfl, ho0, look_none hm, ρ, S, F, χ, _, e, hw, hx, fun vs ds ρ1 S1 H1 h1 s1 i1 e1 => ?_⟩
    obtain ⟨l1, h2⟩ := h1
    have l1' : vs.length = n := by rw [i1.length]; exact l1
    split at h2
    · rename_i l' o' hl'
      obtain ⟨b1, b2, b3, ob, b4, b5⟩ := e1.own i l' o' hl'
      rw [hσ] at b1
      cases b1
      have i2 : IsAll K S1 (vs ++ ex) (ds ++ exD) := i1.append (hx0 S1)
      have ev : gV (V.ref l :: vs) [] = V.ref l :: (vs ++ ex) := hg _
      refine ⟨l1', rfl, S1, others τ.t S1 H1 (fun a => a = l), some (l, o'), ds ++ exD, _, _, by rw [ev, List.length_cons, List.length_append, l1']; omega, ?_, h2, fun d v o2 S' H' q hs s' iv er => ?_, fun C f d v dd S' H' q => q.elim⟩
      · rw [ev]
        exact er_argsO i2 e1.ex e1.tb.oth (fun a o h => by obtain ⟨_, a1, a2⟩ := others_inv h; exact ⟨a2, .inl a1⟩) b4 b2 (by unfold others; rw [if_pos (.inl rfl)]) b5
      · obtain ⟨od2, rfl, q⟩ := q
        rw [ev] at er
        obtain ⟨_, c2, _, o3, c4, c5⟩ := er.own 0 l od2 rfl
        exact hp v d _ S' H' q (s1.trans s') iv (e1.backO hl' s' er.ex er.tb.tab er.tb.nS (fun a o n a0 a1 a2 => others_of (p := fun a => a = l) n a0 a1 a2) er.fr c4 c2 c5)
    · exact h2.elim
theorem e_methD {X : Cx} {W : WX} {k n i N : Nat} {x m : Str} {e : Expr} {es : List Expr} {p pos apos : Pos} {wl : WL} {C g0 dT : Addr} {fd : FuncData} {ps : List Str} {sp : Spc} {tt : List (Addr × Str)} (q : Cok X W k) {j : Nat} {pl : Sem Bool} (hc : Cls X.K C) (hm : Meth X.K C m g0)
    (F : FnG X.prog X.w X.K X.mg X.base j g0 fd ps (lSp X.K tt N sp)) (hb : ∃ ds, Vals [V.ref dT] ds ∧ Binds X.K fd ps ds) (kt : KT X.K dT []) (ha : PAd X τ W (e :: es) wl) (hN2 : n + 1 + 1 = N := by rfl) (hps : n + 1 + 1 = ps.length := by rfl) (hj : j ≤ k := by decide)
    (hN : X.N[i]? = some x := by rfl) (hv : Vis X.env.scope x := by first | exact .inl rfl | exact .inr (.inl rfl) | exact .inr (.inr rfl)) (hd : (x == ("__debug__" : Str)) = false := by decide) (hcd : (x == ("__classdict__" : Str)) = false := by decide)
    (hst : starEach (e :: es) X.env = (false, eval e X.env) :: starEach es X.env := by rfl) (hpl : (backTo pos (starEach es X.env)).any (·.1) = false := by rfl)
    (ht : eval (.Call (.Attribute (.Name x p) m apos) (e :: es) [] pos) X.env = (do
      let ov ← eval (.Name x p) X.env
      standAt apos.atName
      let (f, first) ← holding [ov] (getMethod ov m pl)
      callWith pos f first (backTo pos (starEach (e :: es) X.env)) (backToKw pos (keywordEach [] X.env))) := by rfl) (htt : τ.t = tt := by rfl) :
    PEd X τ W (.Call (.Attribute (.Name x p) m apos) (e :: es) [] pos) (wMethD i C m n sp [.tup []] wl) := by
  subst htt
  obtain ⟨ds, r, hb⟩ := hb
  exact PE.imp (pe_mg (pe_var hN hv hd hcd) hc hm (F.mono hj) q (kb_dfl hb r hps) ha hst hpl ht) (l_methD (fun _ => rfl) (fun S => .cons (.ktup kt .nil rfl) .nil) hN2)
end DL
set_option Elab.async false
set_option autoImplicit false
set_option linter.all false
set_option maxRecDepth 100000
set_option maxHeartbeats 3900000
namespace DL
open L2 PyProof.Rows PySem PySem.Spec
variable {τ : Tb}
/-! ### objects of one's own that are lent for the length of one expression, whose value is plain -/
def fz : Sl → Sl
  | .own _ o => .val o.d
  | s => s
def Scal : D → Prop
  | .int _ => True
  | .bl _ => True
  | .non => True
  | .str _ => True
  | _ => False
def wLend (w : WE) : WE := fun ρ χ Φ => w (ρ.map fz) χ0 fun d ρ' => ρ' = ρ.map fz ∧ Scal d ∧ Φ d ρ
section
variable {K : Fg} {W : WX} {S F H : Hp} {ρ : Rho} {σ : L2.St}
theorem own_at {l : Addr} {o : OD} (h : Is K S (.ref l) o.d) : ∃ ob, S l = some ob := by
  cases o with
  | l xs => cases h with | lst a b => exact ⟨_, a⟩
  | k ks ds => cases h with | dic a b c => exact ⟨_, a⟩
  | t ks ds => cases h with | dct a b c => exact ⟨_, a⟩
  | i c ns ds => cases h with | obj a b c => exact ⟨_, a⟩
theorem ER.frzN (e : ER K τ S F H ρ σ) : ∀ n : Nat, ∃ S' ρ', Same S S' ∧ ER K τ S' F H ρ' σ ∧ (∀ i : Nat, ρ'[i]? = if i < n then (ρ[i]?).map fz else ρ[i]?) ∧ ∀ (i : Nat) (l : Addr) (o : OD), i < n → ρ[i]? = some (Sl.own l o) → ∃ ob, S' l = some ob
  | 0 => ⟨S, ρ, Same.refl S, e, fun i => by rw [if_neg (Nat.not_lt_zero i)], fun i l o h => absurd h (Nat.not_lt_zero i)⟩
  | n + 1 => by
    obtain ⟨S1, ρ1, s1, e1, h1, h2⟩ := e.frzN n
    have hn : ρ1[n]? = ρ[n]? := by rw [h1 n, if_neg (Nat.lt_irrefl n)]
    have same : (∀ l o, ρ[n]? ≠ some (Sl.own l o)) → ∃ S' ρ', Same S S' ∧ ER K τ S' F H ρ' σ ∧ (∀ i : Nat, ρ'[i]? = if i < n + 1 then (ρ[i]?).map fz else ρ[i]?) ∧ ∀ (i : Nat) (l : Addr) (o : OD), i < n + 1 → ρ[i]? = some (Sl.own l o) → ∃ ob, S' l = some ob := fun hno => by
      refine ⟨S1, ρ1, s1, e1, fun i => ?_, fun i l o hi hl => ?_⟩
      · by_cases hi : i = n
        · subst hi
          rw [hn, if_pos (Nat.lt_succ_self _)]
          cases hq : ρ[i]? with
          | none => rfl
          | some s =>
            cases s with
            | own l o => exact absurd hq (hno l o)
            | un => rfl
            | val d => rfl
        · rw [h1 i]
          by_cases h : i < n
          · rw [if_pos h, if_pos (Nat.lt_succ_of_lt h)]
          · rw [if_neg h, if_neg (by omega)]
      · rcases Nat.lt_succ_iff_lt_or_eq.mp hi with h | h
        · exact h2 i l o h hl
        · subst h; exact absurd hl (hno l o)
    cases hq : ρ[n]? with
    | none => exact same fun l o z => by rw [hq] at z; cases z
    | some s =>
      cases s with
      | un => exact same fun l o z => by rw [hq] at z; cases z
      | val d => exact same fun l o z => by rw [hq] at z; cases z
      | own l o =>
        obtain ⟨S2, s2, e2, i2⟩ := e1.frz (hn.trans hq)
        refine ⟨S2, _, s1.trans s2, e2, fun i => ?_, fun i m o2 hi hl => ?_⟩
        · by_cases hi : i = n
          · subst hi
            have hlt : i < ρ1.length := (List.getElem?_eq_some_iff.mp (hn.trans hq)).1
            rw [List.getElem?_set_self hlt, hq, if_pos (Nat.lt_succ_self _)]
            rfl
          · rw [List.getElem?_set_ne (Ne.symm hi), h1 i]
            by_cases h : i < n
            · rw [if_pos h, if_pos (Nat.lt_succ_of_lt h)]
            · rw [if_neg h, if_neg (by omega)]
        · rcases Nat.lt_succ_iff_lt_or_eq.mp hi with h | h
          · obtain ⟨ob, z⟩ := h2 i m o2 h hl
            exact ⟨ob, s2 _ _ z⟩
          · subst h
            rw [hq] at hl
            cases hl
            exact own_at i2
theorem ER.frzA (e : ER K τ S F H ρ σ) : ∃ S', Same S S' ∧ ER K τ S' F H (ρ.map fz) σ ∧ ∀ (i : Nat) (l : Addr) (o : OD), ρ[i]? = some (Sl.own l o) → ∃ ob, S' l = some ob := by
  obtain ⟨S1, ρ1, s1, e1, h1, h2⟩ := e.frzN ρ.length
  have : ρ1 = ρ.map fz := by
    apply List.ext_getElem?
    intro i
    rw [h1 i, List.getElem?_map]
    by_cases h : i < ρ.length
    · rw [if_pos h]
    · rw [if_neg h, List.getElem?_eq_none (by omega)]; rfl
  subst this
  exact ⟨S1, s1, e1, fun i l o hl => h2 i l o (List.getElem?_eq_some_iff.mp hl).1 hl⟩
theorem Scal.is {S' : Hp} {v : V} {d : D} (h : Scal d) (i : Is K S v d) : Is K S' v d := by
  cases d with
  | int z => cases i; exact .int _
  | bl b => cases i; exact .bl _
  | non => cases i; exact .non
  | str s => cases i; exact .str _
  | _ => exact h.elim
theorem l_lend {w : WE} : ∀ σ H Q, lE K τ W (wLend w) σ H Q → lE K τ W w σ H Q := by
  rintro σ H Q ⟨ρ, S, F, χ, Φ, e, hw, hx, hp⟩
  obtain ⟨S1, s1, e1, hl⟩ := e.frzA
  refine ⟨_, S1, F, _, _, e1, hw, XOk.none, fun v d ρ' S' H' q s' iv e' => ?_⟩
  obtain ⟨rfl, sc, q⟩ := q
  refine hp v d ρ S H' q (Same.refl S) (sc.is iv) ⟨e.len, fun a u h => e'.ex _ _ (s' _ _ (s1 _ _ h)), fun a u h => ?_, e.val, fun i l o h => ?_, e.dis, ⟨e'.tb.tab, e.tb.nS, e.tb.nF, e.tb.ks, e.tb.kf⟩⟩
  · exact ⟨(e'.fr a u h).1, (e.fr a u h).2⟩
  · obtain ⟨a1, a2, a3, ob, a4, a5⟩ := e.own i l o h
    obtain ⟨ob2, b1⟩ := hl i l o h
    have b2 := e1.ex _ _ b1
    rw [a4] at b2
    cases b2
    exact ⟨a1, a2, a3, ob, e'.ex _ _ (s' _ _ b1), a5⟩
def wLendT (w : WT) : WT := fun ρ χ Φ => w (ρ.map fz) χ0 fun b ρ' => ρ' = ρ.map fz ∧ Φ b ρ
theorem l_lendT {K : Fg} {W : WX} {w : WT} : ∀ σ H Q, lT K τ W (wLendT w) σ H Q → lT K τ W w σ H Q := by
  rintro σ H Q ⟨ρ, S, F, χ, Φ, e, hw, hx, hp⟩
  obtain ⟨S1, s1, e1, hl⟩ := e.frzA
  refine ⟨_, S1, F, _, _, e1, hw, XOk.none, fun b ρ' S' H' q s' e' => ?_⟩
  obtain ⟨rfl, q⟩ := q
  refine hp b ρ S H' q (Same.refl S) ⟨e.len, fun a u h => e'.ex _ _ (s' _ _ (s1 _ _ h)), fun a u h => ?_, e.val, fun i l o h => ?_, e.dis, ⟨e'.tb.tab, e.tb.nS, e.tb.nF, e.tb.ks, e.tb.kf⟩⟩
  · exact ⟨(e'.fr a u h).1, (e.fr a u h).2⟩
  · obtain ⟨a1, a2, a3, ob, a4, a5⟩ := e.own i l o h
    obtain ⟨ob2, b1⟩ := hl i l o h
    have b2 := e1.ex _ _ b1
    rw [a4] at b2
    cases b2
    exact ⟨a1, a2, a3, ob, e'.ex _ _ (s' _ _ b1), a5⟩
end
/-! ### o.m(e, ..), o a value -/
def wMethV (C : Addr) (m : Str) (n : Nat) (sp : Spc) (exD : List D) (wo : WE) (wa : WL) : WE := fun ρ χ Φ => wo ρ χ fun o ρ0 => match o with
  | .obj c ns es => c = C ∧ m ∉ ns ∧ wa ρ0 χ fun ds ρ1 => ds.length = n ∧ sp none (.obj c ns es :: (ds ++ exD)) (fun d _ => Φ d ρ1) fun C f d => χ C f d ρ1
  | _ => False
theorem l_methV {K : Fg} {W : WX} {n N : Nat} {C : Addr} {m : Str} {sp : Spc} {gV : List V → List V → List V} {ex : List V} {exD : List D} {wo : WE} {wa : WL} (hg : ∀ vs, gV vs [] = vs ++ ex) (hx0 : ∀ S, IsAll K S ex exD) (hN : n + 1 + ex.length = N) :
    ∀ σ H Q, lE K τ W (wMethV C m n sp exD wo wa) σ H Q → tMethG W C m n 0 (lSp K τ.t N sp) gV (lE K τ W wo) (lL K τ W wa) tNil σ H Q := by
  rintro σ H Q ⟨ρ, S, F, χ, Φ, e, hw, hx, hp⟩
  refine ⟨ρ, S, F, χ, _, e, hw, hx, fun x dx ρ0 S0 H0 h0 s0 i0 e0 => ?_⟩
  cases i0 with
  | obj a1 a2 a3 =>
    rename_i a C' dx' fs ns es
    obtain ⟨rfl, hm, h1⟩ := h0
    subst a2
    refine ⟨a, dx', fs, rfl, e0.ex _ _ a1, look_none hm, ρ0, S0, F, χ, _, e0, h1, hx.mono s0, fun vs ds ρ1 S1 H1 h1 s1 i1 e1 => ?_⟩
    obtain ⟨l1, h2⟩ := h1
    have l1' : vs.length = n := by rw [i1.length]; exact l1
    have ev : gV (V.ref a :: vs) [] = V.ref a :: (vs ++ ex) := hg _
    have i2 : IsAll K S1 (V.ref a :: (vs ++ ex)) (.obj C' (fs.map (·.1)) es :: (ds ++ exD)) := .cons ((Is.obj a1 rfl a3).mono s1) (i1.append (hx0 S1))
    refine ⟨l1', rfl, S1, others τ.t S1 H1 (fun _ => False), none, _, _, _, by rw [ev, List.length_cons, List.length_append, l1']; omega, ?_, h2, fun d v o' S' H' q _ s' iv er => ?_, fun C f d v dd S' H' q s' ex tb fr hd iv => ?_⟩
    · rw [ev]
      exact er_args i2 e1.ex e1.tb.oth fun a o h => by obtain ⟨_, a1, a2⟩ := others_inv h; exact ⟨a2, .inl a1⟩
    · exact hp v d ρ1 S' H' q ((s0.trans s1).trans s') iv (e1.back s' er.ex er.tb.tab er.tb.nS (fun a o n a1 a2 => others_of n (fun z => z) a1 a2) er.fr)
    · exact hx C f d v dd ρ1 S' σ H' q ((s0.trans s1).trans s') (e1.back s' ex tb.tab tb.nS (fun a o n a1 a2 => others_of n (fun z => z) a1 a2) fr) hd iv
  | _ => exact h0.elim
section
variable {X : Cx} {W : WX} {k n N : Nat} {m : Str} {o e : Expr} {es : List Expr} {pos apos : Pos} {wo w : WE} {wl : WL} {C g0 dT : Addr} {fd : FuncData} {ps : List Str} {sp : Spc} {tt : List (Addr × Str)}
theorem t_lend {wt : WT} (h : PTd X τ W e wt) : PTd X τ W e (wLendT wt) := PT.imp h l_lendT
theorem e_lend (h : PEd X τ W e w) : PEd X τ W e (wLend w) := PE.imp h l_lend
theorem e_methV (q : Cok X W k) {j : Nat} {pl : Sem Bool} (hc : Cls X.K C) (hm : Meth X.K C m g0) (F : FnG X.prog X.w X.K X.mg X.base j g0 fd ps (lSp X.K tt (n + 1) sp)) (hb : KBn X.K fd ps (n + 1) [] (fun us _ => us) (fun us _ => us)) (ho : PEd X τ W o wo) (ha : PAd X τ W (e :: es) wl) (hj : j ≤ k := by decide)
    (hst : starEach (e :: es) X.env = (false, eval e X.env) :: starEach es X.env := by rfl) (hpl : (backTo pos (starEach es X.env)).any (·.1) = false := by rfl)
    (ht : eval (.Call (.Attribute o m apos) (e :: es) [] pos) X.env = (do
      let ov ← eval o X.env
      standAt apos.atName
      let (f, first) ← holding [ov] (getMethod ov m pl)
      callWith pos f first (backTo pos (starEach (e :: es) X.env)) (backToKw pos (keywordEach [] X.env))) := by rfl) (htt : τ.t = tt := by rfl) :
    PEd X τ W (.Call (.Attribute o m apos) (e :: es) [] pos) (wMethV C m n sp [] wo wl) := by
  subst htt
  exact PE.imp (pe_mg ho hc hm (F.mono hj) q hb ha hst hpl ht) (l_methV (ex := []) (fun _ => (List.append_nil _).symm) (fun S => .nil) rfl)
theorem e_methVD (q : Cok X W k) {j : Nat} {pl : Sem Bool} (hc : Cls X.K C) (hm : Meth X.K C m g0)
    (F : FnG X.prog X.w X.K X.mg X.base j g0 fd ps (lSp X.K tt N sp)) (hb : ∃ ds, Vals [V.ref dT] ds ∧ Binds X.K fd ps ds) (kt : KT X.K dT []) (ho : PEd X τ W o wo) (ha : PAd X τ W (e :: es) wl) (hN2 : n + 1 + 1 = N := by rfl) (hps : n + 1 + 1 = ps.length := by rfl) (hj : j ≤ k := by decide)
    (hst : starEach (e :: es) X.env = (false, eval e X.env) :: starEach es X.env := by rfl) (hpl : (backTo pos (starEach es X.env)).any (·.1) = false := by rfl)
    (ht : eval (.Call (.Attribute o m apos) (e :: es) [] pos) X.env = (do
      let ov ← eval o X.env
      standAt apos.atName
      let (f, first) ← holding [ov] (getMethod ov m pl)
      callWith pos f first (backTo pos (starEach (e :: es) X.env)) (backToKw pos (keywordEach [] X.env))) := by rfl) (htt : τ.t = tt := by rfl) :
    PEd X τ W (.Call (.Attribute o m apos) (e :: es) [] pos) (wMethV C m n sp [.tup []] wo wl) := by
  subst htt
  obtain ⟨ds, r, hb⟩ := hb
  exact PE.imp (pe_mg ho hc hm (F.mono hj) q (kb_dfl hb r hps) ha hst hpl ht) (l_methV (fun _ => rfl) (fun S => .cons (.ktup kt .nil rfl) .nil) hN2)
end
end DL
set_option Elab.async false
set_option autoImplicit false
set_option linter.all false
set_option maxRecDepth 100000
set_option maxHeartbeats 3900000
namespace K32
open DL L2 PyProof.Rows PySem PySem.Spec
def top (i : Nat) : Stmt := PySem.Challenge.pw_agedcopy_k32_whole_a_store_with_a_note_a.main.body.getD i (.Pass ⟨0, 0, 0, 0⟩)
structure Cs where
  AgeError : Addr
  BadMachine : Addr
  BadLog : Addr
  BadCopy : Addr
  Refused : Addr
  NoState : Addr
  NoDeed : Addr
  Machine : Addr
  LogNote : Addr
  fi_BadMachine : Addr
  fd_BadMachine : FuncData
  fi_BadLog : Addr
  fd_BadLog : FuncData
  fi_BadCopy : Addr
  fd_BadCopy : FuncData
  fi_Refused : Addr
  fd_Refused : FuncData
  fi_NoState : Addr
  fd_NoState : FuncData
  fi_NoDeed : Addr
  fd_NoDeed : FuncData
  f_is_integer : Addr
  d_is_integer : FuncData
  f_is_below : Addr
  d_is_below : FuncData
  f_is_sequence : Addr
  d_is_sequence : FuncData
  f_is_ascending : Addr
  d_is_ascending : FuncData
  f_fault_place : Addr
  d_fault_place : FuncData
  f_is_table : Addr
  d_is_table : FuncData
  f_check_tables : Addr
  d_check_tables : FuncData
  f_Machine_init : Addr
  d_Machine_init : FuncData
  f_check_state : Addr
  d_check_state : FuncData
  f_check_deed : Addr
  d_check_deed : FuncData
  f_log_fault : Addr
  d_log_fault : FuncData
  f_check_log : Addr
  d_check_log : FuncData
  f_check_starts : Addr
  d_check_starts : FuncData
  f_state_after : Addr
  d_state_after : FuncData
  f_image : Addr
  d_image : FuncData
  f_kept_row : Addr
  d_kept_row : FuncData
  f_kept_rows : Addr
  d_kept_rows : FuncData
  f_first_rows : Addr
  d_first_rows : FuncData
  f_led_rows : Addr
  d_led_rows : FuncData
  f_led_note : Addr
  d_led_note : FuncData
  f_LogNote_init : Addr
  d_LogNote_init : FuncData
  f_LogNote_put : Addr
  d_LogNote_put : FuncData
  f_LogNote_mark : Addr
  d_LogNote_mark : FuncData
  f_LogNote_read : Addr
  d_LogNote_read : FuncData
  dt_LogNote_read : Addr
  f_law_box : Addr
  d_law_box : FuncData
  f_law_take : Addr
  d_law_take : FuncData
  f_law_pick : Addr
  d_law_pick : FuncData
  f_law_tables : Addr
  d_law_tables : FuncData
  f_law_led : Addr
  d_law_led : FuncData
  f_law_starts : Addr
  d_law_starts : FuncData
  f_law_copies_right : Addr
  d_law_copies_right : FuncData
  f_law : Addr
  d_law : FuncData
  t_MOST_TABLES : Tok
  t_MOST_STATES : Tok
  t_MOST_DEEDS : Tok
/-- what the top has left -/
structure Txt (P : Program) (w : World) (K : Fg) (mg : Str → Option Value) (base : Heap) (t : List (Addr × Str)) (C : Cs) : Prop where
  b_abs : mg "abs" = none
  b_bool : mg "bool" = none
  b_enumerate : mg "enumerate" = none
  b_int : mg "int" = none
  b_isinstance : mg "isinstance" = none
  b_len : mg "len" = none
  b_list : mg "list" = none
  b_max : mg "max" = none
  b_min : mg "min" = none
  b_range : mg "range" = none
  b_set : mg "set" = none
  b_sorted : mg "sorted" = none
  b_tuple : mg "tuple" = none
  MOST_TABLES : mg "MOST_TABLES" = some (.int 8 C.t_MOST_TABLES)
  MOST_STATES : mg "MOST_STATES" = some (.int 12 C.t_MOST_STATES)
  MOST_DEEDS : mg "MOST_DEEDS" = some (.int 10000 C.t_MOST_DEEDS)
  AgeError : mg "AgeError" = some (.ref C.AgeError)
  BadMachine : mg "BadMachine" = some (.ref C.BadMachine)
  BadLog : mg "BadLog" = some (.ref C.BadLog)
  BadCopy : mg "BadCopy" = some (.ref C.BadCopy)
  Refused : mg "Refused" = some (.ref C.Refused)
  NoState : mg "NoState" = some (.ref C.NoState)
  NoDeed : mg "NoDeed" = some (.ref C.NoDeed)
  Machine : mg "Machine" = some (.ref C.Machine)
  LogNote : mg "LogNote" = some (.ref C.LogNote)
  cl_Machine : Cls K C.Machine
  ic_Machine : InsC K C.Machine
  mk_Machine : Mk K C.Machine C.f_Machine_init
  na_Machine_tables : NoAttr K C.Machine "tables"
  na_Machine_deeds : NoAttr K C.Machine "deeds"
  na_Machine_states : NoAttr K C.Machine "states"
  cl_LogNote : Cls K C.LogNote
  ic_LogNote : InsC K C.LogNote
  mk_LogNote : Mk K C.LogNote C.f_LogNote_init
  na_LogNote_possible : NoAttr K C.LogNote "possible"
  na_LogNote_machine : NoAttr K C.LogNote "machine"
  na_LogNote_age : NoAttr K C.LogNote "age"
  na_LogNote_rows : NoAttr K C.LogNote "rows"
  na_LogNote_tables : NoAttr K C.LogNote "tables"
  me_LogNote_put : Meth K C.LogNote "put" C.f_LogNote_put
  me_LogNote_mark : Meth K C.LogNote "mark" C.f_LogNote_mark
  me_LogNote_read : Meth K C.LogNote "read" C.f_LogNote_read
  kt_LogNote_read : KT K C.dt_LogNote_read []
  er_BadMachine : ErrC K C.BadMachine C.fi_BadMachine "at"
  in_BadMachine : ∀ k, FnOk P w K mg base (L2.CX P w) (k + 1) C.fi_BadMachine C.fd_BadMachine ["self", "at"] (spIni K "at")
  bi_BadMachine : Binds K C.fd_BadMachine ["self", "at"] []
  xf_BadMachine : XfC K C.BadMachine
  no_BadMachine : PySem.W.findIn K (.ref C.BadMachine) "at" = some none
  ec_BadMachine : ExcC K C.BadMachine
  er_BadLog : ErrC K C.BadLog C.fi_BadLog "at"
  in_BadLog : ∀ k, FnOk P w K mg base (L2.CX P w) (k + 1) C.fi_BadLog C.fd_BadLog ["self", "at"] (spIni K "at")
  bi_BadLog : Binds K C.fd_BadLog ["self", "at"] []
  xf_BadLog : XfC K C.BadLog
  no_BadLog : PySem.W.findIn K (.ref C.BadLog) "at" = some none
  ec_BadLog : ExcC K C.BadLog
  er_BadCopy : ErrC K C.BadCopy C.fi_BadCopy "at"
  in_BadCopy : ∀ k, FnOk P w K mg base (L2.CX P w) (k + 1) C.fi_BadCopy C.fd_BadCopy ["self", "at"] (spIni K "at")
  bi_BadCopy : Binds K C.fd_BadCopy ["self", "at"] []
  xf_BadCopy : XfC K C.BadCopy
  no_BadCopy : PySem.W.findIn K (.ref C.BadCopy) "at" = some none
  ec_BadCopy : ExcC K C.BadCopy
  er_Refused : ErrC K C.Refused C.fi_Refused "at"
  in_Refused : ∀ k, FnOk P w K mg base (L2.CX P w) (k + 1) C.fi_Refused C.fd_Refused ["self", "at"] (spIni K "at")
  bi_Refused : Binds K C.fd_Refused ["self", "at"] []
  xf_Refused : XfC K C.Refused
  no_Refused : PySem.W.findIn K (.ref C.Refused) "at" = some none
  ec_Refused : ExcC K C.Refused
  er_NoState : ErrC K C.NoState C.fi_NoState "state"
  in_NoState : ∀ k, FnOk P w K mg base (L2.CX P w) (k + 1) C.fi_NoState C.fd_NoState ["self", "state"] (spIni K "state")
  bi_NoState : Binds K C.fd_NoState ["self", "state"] []
  xf_NoState : XfC K C.NoState
  no_NoState : PySem.W.findIn K (.ref C.NoState) "state" = some none
  ec_NoState : ExcC K C.NoState
  er_NoDeed : ErrC K C.NoDeed C.fi_NoDeed "deed"
  in_NoDeed : ∀ k, FnOk P w K mg base (L2.CX P w) (k + 1) C.fi_NoDeed C.fd_NoDeed ["self", "deed"] (spIni K "deed")
  bi_NoDeed : Binds K C.fd_NoDeed ["self", "deed"] []
  xf_NoDeed : XfC K C.NoDeed
  no_NoDeed : PySem.W.findIn K (.ref C.NoDeed) "deed" = some none
  ec_NoDeed : ExcC K C.NoDeed
def kf_1_0 : {α : Type} → α → List α → List α → List α := fun nn us ws => match us, ws with
  | [x0], [y0] => [x0, y0]
  | us, _ => us
theorem gf_1_0 : GRel 1 1 2 (kf_1_0 V.non) (kf_1_0 D.non) := fun K S vs ds us es i1 i2 h1 h2 => by
  match vs, ds, us, es, i1, i2, h1, h2 with
  | [_], [_], [_], [_], .cons r0 (.nil), .cons q0 (.nil), _, _ => exact ⟨.cons r0 (.cons q0 (.nil)), rfl⟩
def kf_2_0 : {α : Type} → α → List α → List α → List α := fun nn us ws => match us, ws with
  | [x0, x1], [y0] => [x0, x1, y0]
  | us, _ => us
theorem gf_2_0 : GRel 2 1 3 (kf_2_0 V.non) (kf_2_0 D.non) := fun K S vs ds us es i1 i2 h1 h2 => by
  match vs, ds, us, es, i1, i2, h1, h2 with
  | [_, _], [_, _], [_], [_], .cons r0 (.cons r1 (.nil)), .cons q0 (.nil), _, _ => exact ⟨.cons r0 (.cons r1 (.cons q0 (.nil))), rfl⟩
theorem sc_is_integer : FnScope ["value"] ["value"] (defScope (top 9)) := ⟨rfl, rfl, rfl, by decide +kernel, rfl, by decide +kernel, by decide +kernel⟩
theorem sc_is_below : FnScope ["value", "many"] ["value", "many"] (defScope (top 10)) := ⟨rfl, rfl, rfl, by decide +kernel, rfl, by decide +kernel, by decide +kernel⟩
theorem sc_is_sequence : FnScope ["value"] ["value"] (defScope (top 11)) := ⟨rfl, rfl, rfl, by decide +kernel, rfl, by decide +kernel, by decide +kernel⟩
theorem sc_is_ascending : FnScope ["value", "many", "least", "item"] ["value", "many"] (defScope (top 12)) := ⟨rfl, rfl, rfl, by decide +kernel, rfl, by decide +kernel, by decide +kernel⟩
theorem sc_fault_place : FnScope ["value", "many", "at", "item"] ["value", "many"] (defScope (top 13)) := ⟨rfl, rfl, rfl, by decide +kernel, rfl, by decide +kernel, by decide +kernel⟩
theorem sc_is_table : FnScope ["value"] ["value"] (defScope (top 18)) := ⟨rfl, rfl, rfl, by decide +kernel, rfl, by decide +kernel, by decide +kernel⟩
theorem sc_check_tables : FnScope ["value", "at", "table"] ["value"] (defScope (top 19)) := ⟨rfl, rfl, rfl, by decide +kernel, rfl, by decide +kernel, by decide +kernel⟩
theorem sc_Machine_init : FnScope ["self", "tables"] ["self", "tables"] (defScope (inClass (top 20) 0)) := ⟨rfl, rfl, rfl, by decide +kernel, rfl, by decide +kernel, by decide +kernel⟩
theorem sc_check_state : FnScope ["machine", "value"] ["machine", "value"] (defScope (top 21)) := ⟨rfl, rfl, rfl, by decide +kernel, rfl, by decide +kernel, by decide +kernel⟩
theorem sc_check_deed : FnScope ["machine", "value"] ["machine", "value"] (defScope (top 22)) := ⟨rfl, rfl, rfl, by decide +kernel, rfl, by decide +kernel, by decide +kernel⟩
theorem sc_log_fault : FnScope ["machine", "value"] ["machine", "value"] (defScope (top 23)) := ⟨rfl, rfl, rfl, by decide +kernel, rfl, by decide +kernel, by decide +kernel⟩
theorem sc_check_log : FnScope ["machine", "value", "at"] ["machine", "value"] (defScope (top 24)) := ⟨rfl, rfl, rfl, by decide +kernel, rfl, by decide +kernel, by decide +kernel⟩
theorem sc_check_starts : FnScope ["machine", "value"] ["machine", "value"] (defScope (top 25)) := ⟨rfl, rfl, rfl, by decide +kernel, rfl, by decide +kernel, by decide +kernel⟩
theorem sc_state_after : FnScope ["machine", "state", "log", "deed"] ["machine", "state", "log"] (defScope (top 26)) := ⟨rfl, rfl, rfl, by decide +kernel, rfl, by decide +kernel, by decide +kernel⟩
theorem sc_image : FnScope ["table", "states", "state"] ["table", "states"] (defScope (top 27)) := ⟨rfl, rfl, rfl, by decide +kernel, rfl, by decide +kernel, by decide +kernel⟩
theorem sc_kept_row : FnScope ["row", "state", "at", "_", "place"] ["row", "state"] (defScope (top 29)) := ⟨rfl, rfl, rfl, by decide +kernel, rfl, by decide +kernel, by decide +kernel⟩
theorem sc_kept_rows : FnScope ["rows", "possible", "state", "row"] ["rows", "possible"] (defScope (top 30)) := ⟨rfl, rfl, rfl, by decide +kernel, rfl, by decide +kernel, by decide +kernel⟩
theorem sc_first_rows : FnScope ["machine", "starts"] ["machine", "starts"] (defScope (top 31)) := ⟨rfl, rfl, rfl, by decide +kernel, rfl, by decide +kernel, by decide +kernel⟩
theorem sc_led_rows : FnScope ["table", "rows", "row", "mark", "place"] ["table", "rows"] (defScope (top 32)) := ⟨rfl, rfl, rfl, by decide +kernel, rfl, by decide +kernel, by decide +kernel⟩
theorem sc_led_note : FnScope ["table", "possible", "rows", "later"] ["table", "possible", "rows"] (defScope (top 33)) := ⟨rfl, rfl, rfl, by decide +kernel, rfl, by decide +kernel, by decide +kernel⟩
theorem sc_LogNote_init : FnScope ["self", "machine", "starts"] ["self", "machine", "starts"] (defScope (inClass (top 34) 0)) := ⟨rfl, rfl, rfl, by decide +kernel, rfl, by decide +kernel, by decide +kernel⟩
theorem sc_LogNote_put : FnScope ["self", "deed"] ["self", "deed"] (defScope (inClass (top 34) 2)) := ⟨rfl, rfl, rfl, by decide +kernel, rfl, by decide +kernel, by decide +kernel⟩
theorem sc_LogNote_mark : FnScope ["self", "state"] ["self", "state"] (defScope (inClass (top 34) 3)) := ⟨rfl, rfl, rfl, by decide +kernel, rfl, by decide +kernel, by decide +kernel⟩
theorem sc_LogNote_read : FnScope ["self", "state", "mark", "later", "row", "places", "told", "place"] ["self", "state", "mark", "later"] (defScope (inClass (top 34) 4)) := ⟨rfl, rfl, rfl, by decide +kernel, rfl, by decide +kernel, by decide +kernel⟩
theorem sc_law_box : FnScope ["script", "k", "cell", "great"] ["script", "k"] (defScope (top 36)) := ⟨rfl, rfl, rfl, by decide +kernel, rfl, by decide +kernel, by decide +kernel⟩
theorem sc_law_take : FnScope ["box", "many", "digit", "raw"] ["box", "many"] (defScope (top 37)) := ⟨rfl, rfl, rfl, by decide +kernel, rfl, by decide +kernel, by decide +kernel⟩
theorem sc_law_pick : FnScope ["box", "some"] ["box", "some"] (defScope (top 38)) := ⟨rfl, rfl, rfl, by decide +kernel, rfl, by decide +kernel, by decide +kernel⟩
theorem sc_law_tables : FnScope ["box", "many", "found", "deed", "style", "by", "other", "s"] ["box"] (defScope (top 39)) := ⟨rfl, rfl, rfl, by decide +kernel, rfl, by decide +kernel, by decide +kernel⟩
theorem sc_law_led : FnScope ["tables", "state", "log", "deed"] ["tables", "state", "log"] (defScope (top 40)) := ⟨rfl, rfl, rfl, by decide +kernel, rfl, by decide +kernel, by decide +kernel⟩
theorem sc_law_starts : FnScope ["box", "many", "found", "s"] ["box", "many"] (defScope (top 41)) := ⟨rfl, rfl, rfl, by decide +kernel, rfl, by decide +kernel, by decide +kernel⟩
theorem sc_law_copies_right : FnScope ["note", "tables", "starts", "log", "copies", "state", "mark", "age", "now", "s"] ["note", "tables", "starts", "log", "copies"] (defScope (top 42)) := ⟨rfl, rfl, rfl, by decide +kernel, rfl, by decide +kernel, by decide +kernel⟩
theorem sc_law : FnScope ["script", "box", "tables", "many", "starts", "note", "log", "copies", "k", "turn", "state", "deed", "ends", "mark", "age", "end", "row"] ["script"] (defScope (top 43)) := ⟨rfl, rfl, rfl, by decide +kernel, rfl, by decide +kernel, by decide +kernel⟩
/-! ### what each def means -/
def tyN : D → Option String
  | .non => some "NoneType" | .bl _ => some "bool" | .int _ => some "int" | .str _ => some "str" | .lst _ => some "list" | .tup _ => some "tuple" | _ => none
def isI : D → Bool
  | .int _ => true | _ => false
def seqD : D → Option (List D)
  | .lst ds => some ds | .tup ds => some ds | _ => none
def belowD (x : D) (m : Int) : Bool := match x with
  | .int v => decide (0 ≤ v) && decide (v < m)
  | _ => false
def faultD (m : Int) : List D → Nat → D
  | [], _ => .non
  | x :: xs, i => if belowD x m = true then faultD m xs (i + 1) else .int i
def plain (x : D) : Prop := (tyN x).isSome = true
def sp_is_integer (_ : Cs) : Spc := fun h ds Ψ _ => h = none ∧ ∃ x, ds = [x] ∧ plain x ∧ Ψ (.bl (isI x)) none
def sp_is_below (_ : Cs) : Spc := fun h ds Ψ _ => h = none ∧ ∃ x m, ds = [x, .int m] ∧ plain x ∧ Ψ (.bl (belowD x m)) none
def sp_is_sequence (_ : Cs) : Spc := fun h ds Ψ _ => h = none ∧ ∃ x, ds = [x] ∧ plain x ∧ Ψ (.bl (seqD x).isSome) none
def lenIs (x : D) (n : Int) : Bool := match seqD x with
  | some xs => decide ((xs.length : Int) = n)
  | none => false
def sp_fault_place (_ : Cs) : Spc := fun h ds Ψ _ => h = none ∧ ∃ x xs m, ds = [x, .int m] ∧ seqD x = some xs ∧ (∀ y ∈ xs, plain y) ∧ Ψ (faultD m xs 0) none
def isNo : D → Bool
  | .non => true | _ => false
def isTab (x : D) : Bool := match seqD x with
  | some xs => decide (1 ≤ xs.length) && decide (xs.length ≤ 12) && isNo (faultD xs.length xs 0)
  | none => false
/-- a value all of whose items, if it has items, are plain -/
def plain2 (x : D) : Prop := plain x ∧ ∀ xs, seqD x = some xs → ∀ y ∈ xs, plain y
def plain3 (x : D) : Prop := plain x ∧ ∀ xs, seqD x = some xs → ∀ y ∈ xs, plain2 y
def sp_is_table (_ : Cs) : Spc := fun h ds Ψ _ => h = none ∧ ∃ x, ds = [x] ∧ plain2 x ∧ Ψ (.bl (isTab x)) none
def tupD (x : D) : D := .tup ((seqD x).getD [])
def lenD (x : D) : Nat := ((seqD x).getD []).length
/-- the first table that is none, or is of another length than the first -/
def tabsFault (n : Nat) : List D → Nat → Option Nat
  | [], _ => none
  | x :: xs, i => if (isTab x && decide (lenD x = n)) = true then tabsFault n xs (i + 1) else some i
def chkTabs (x : D) : Except Int (List D) := match seqD x with
  | some (y :: ys) => if (y :: ys).length ≤ 8 then (match tabsFault (lenD y) (y :: ys) 0 with | none => .ok ((y :: ys).map tupD) | some i => .error i) else .error (-1)
  | _ => .error (-1)
def sp_check_tables (C : Cs) : Spc := fun h ds Ψ Ξ => h = none ∧ ∃ x, ds = [x] ∧ plain3 x ∧ match chkTabs x with
  | .ok rs => Ψ (.tup rs) none
  | .error i => Ξ C.BadMachine "at" (.int i)
def machO (C : Cs) (rs : List D) : OD := .i C.Machine ["tables", "deeds", "states"] [.tup rs, .int rs.length, .int (lenD (rs.headD .non))]
def sp_Machine_init (C : Cs) : Spc := fun h ds Ψ Ξ => h = some (.i C.Machine [] []) ∧ ∃ x, ds = [x] ∧ plain3 x ∧ match chkTabs x with
  | .ok rs => Ψ .non (some (machO C rs))
  | .error i => Ξ C.BadMachine "at" (.int i)
/-- tables of numbers -/
abbrev Tbl := List (List Nat)
def numsD (ns : List Nat) : List D := ns.map fun n => .int (n : Nat)
def rowD (r : List Nat) : D := .tup (r.map fun n => .int (n : Nat))
def mach (C : Cs) (t : Tbl) : D := (machO C (t.map rowD)).d
structure Good (t : Tbl) : Prop where
  ne : t ≠ []
  le : t.length ≤ 8
  row : ∀ r ∈ t, 1 ≤ r.length ∧ r.length ≤ 12 ∧ r.length = (t.headD []).length ∧ ∀ n ∈ r, n < r.length
def wd (t : Tbl) : Nat := (t.headD []).length

/-- ascending numbers, from a least one on -/
def ascL (m : Int) : List D → Int → Bool
  | [], _ => true
  | x :: xs, least => match x with
    | .int v => if (belowD x m && decide (least ≤ v)) = true then ascL m xs (v + 1) else false
    | _ => false
def ascD (x : D) (m : Int) : Bool := match seqD x with
  | some xs => ascL m xs 0
  | none => false
def sp_is_ascending (_ : Cs) : Spc := fun h ds Ψ _ => h = none ∧ ∃ x m, ds = [x, .int m] ∧ plain2 x ∧ Ψ (.bl (ascD x m)) none
def startsOk (m : Nat) (x : D) : Bool := ascD x (m : Nat) && decide (lenD x ≠ 0)
def sp_check_starts (C : Cs) : Spc := fun h ds Ψ Ξ => h = none ∧ ∃ t x, ds = [mach C t, x] ∧ Good t ∧ ((x = .non ∧ Ψ (rowD (List.range (wd t))) none) ∨ (isNo x = false ∧ plain2 x ∧ (if startsOk (wd t) x = true then Ψ (tupD x) none else Ξ C.Refused "at" x)))
/-- where the deeds lead a state -/
def cellR (r : List Nat) (s : Nat) : Nat := (r[s]?).getD 0
def stepN (t : Tbl) (s d : Nat) : Nat := ((t[d]?).getD [])[s]?.getD 0
def ledN (t : Tbl) (s : Nat) (ns : List Nat) : Nat := ns.foldl (stepN t) s
def endRow (t : Tbl) (ns : List Nat) : List Nat := (List.range (wd t)).map fun s => ledN t s ns
def sp_check_state (C : Cs) : Spc := fun h ds Ψ Ξ => h = none ∧ ∃ t x, ds = [mach C t, x] ∧ plain x ∧ (if belowD x (wd t : Nat) = true then Ψ .non none else Ξ C.NoState "state" x)
def logF (n : Nat) (x : D) : D := match seqD x with
  | some xs => if xs.length ≤ 10000 then faultD n xs 0 else .int (-1)
  | none => .int (-1)
def sp_log_fault (C : Cs) : Spc := fun h ds Ψ _ => h = none ∧ ∃ t x, ds = [mach C t, x] ∧ plain2 x ∧ Ψ (logF t.length x) none
def sp_check_log (C : Cs) : Spc := fun h ds Ψ Ξ => h = none ∧ ∃ t x, ds = [mach C t, x] ∧ plain2 x ∧ match logF t.length x with
  | .int i => Ξ C.BadLog "at" (.int i)
  | _ => Ψ (tupD x) none

def sp_check_deed (C : Cs) : Spc := fun h ds Ψ _ => h = none ∧ ∃ (t : Tbl) (d : Nat), ds = [mach C t, .int (d : Nat)] ∧ d < t.length ∧ Ψ .non none
def sp_state_after (C : Cs) : Spc := fun h ds Ψ _ => h = none ∧ ∃ (t : Tbl) (s : Nat), Good t ∧ s < wd t ∧ ds = [mach C t, .int (s : Nat), .tup []] ∧ Ψ (.int (s : Nat)) none
/-- ascending, and what a table makes of a lot of states -/
structure ImgOf (r ss ls : List Nat) : Prop where
  asc : ls.Pairwise (· < ·)
  mem : ∀ x, x ∈ ls ↔ ∃ s ∈ ss, cellR r s = x
def sp_image (_ : Cs) : Spc := fun h ds Ψ _ => h = none ∧ ∃ r ss : List Nat, ds = [rowD r, rowD ss] ∧ (∀ s ∈ ss, s < r.length) ∧ ss.length ≤ 100 ∧ ∀ ls, ImgOf r ss ls → Ψ (rowD ls) none
/-! notes: by state the marks, each with its place -/
abbrev Ent := List (Nat × Nat)
def entD (p : Nat × Nat) : D := .tup [.int (p.1 : Nat), .int (p.2 : Nat)]
def rwD (r : Ent) : D := .tup (r.map entD)
def rwsD (rs : List Ent) : D := .tup (rs.map rwD)
def keptN (r : Ent) (s : Nat) : Ent := match r.findIdx? (fun p => decide (p.2 = s)) with
  | some i => (r[i]?).getD (0, 0) :: (r.take i ++ r.drop (i + 1))
  | none => (r.length, s) :: r
def keptR (rs : List Ent) (ps : List Nat) : List Ent := rs.zipIdx.map fun p => if p.2 ∈ ps then keptN p.1 p.2 else p.1
def ledR (tb : List Nat) (rs : List Ent) : List Ent := rs.map fun r => r.map fun p => (p.1, cellR tb p.2)
def sp_kept_row (_ : Cs) : Spc := fun h ds Ψ _ => h = none ∧ ∃ (r : Ent) (s : Nat), ds = [rwD r, .int (s : Nat)] ∧ r.length ≤ 1000 ∧ Ψ (rwD (keptN r s)) none
def sp_kept_rows (_ : Cs) : Spc := fun h ds Ψ _ => h = none ∧ ∃ (x : D) (rs : List Ent) (ps : List Nat), ds = [x, rowD ps] ∧ seqD x = some (rs.map rwD) ∧ rs.length ≤ 12 ∧ (∀ r ∈ rs, r.length ≤ 1000) ∧ Ψ (rwsD (keptR rs ps)) none
def firstN (t : Tbl) (ss : List Nat) : List Ent := keptR (List.replicate (wd t) []) ss
def sp_first_rows (C : Cs) : Spc := fun h ds Ψ _ => h = none ∧ ∃ (t : Tbl) (ss : List Nat), Good t ∧ ds = [mach C t, rowD ss] ∧ Ψ (rwsD (firstN t ss)) none
structure RowsOk (m : Nat) (rs : List Ent) : Prop where
  len : rs.length ≤ 12
  row : ∀ r ∈ rs, r.length ≤ 1000 ∧ ∀ p ∈ r, p.2 < m
def sp_led_rows (_ : Cs) : Spc := fun h ds Ψ _ => h = none ∧ ∃ (tb : List Nat) (rs : List Ent), ds = [rowD tb, rwsD rs] ∧ RowsOk tb.length rs ∧ Ψ (.lst ((ledR tb rs).map rwD)) none
def sp_led_note (_ : Cs) : Spc := fun h ds Ψ _ => h = none ∧ ∃ (tb ps : List Nat) (rs : List Ent), ds = [rowD tb, rowD ps, rwsD rs] ∧ (∀ s ∈ ps, s < tb.length) ∧ ps.length ≤ 100 ∧ RowsOk tb.length rs ∧ ∀ ls, ImgOf tb ps ls → Ψ (.tup [rowD ls, rwsD (keptR (ledR tb rs) ls)]) none
/-- the object of a note -/
def noteO (C : Cs) (t : Tbl) (ps : List Nat) (rs : List Ent) (a : Int) : OD := .i C.LogNote ["possible", "machine", "age", "rows"] [rowD ps, mach C t, .int a, rwsD rs]
def noteD (C : Cs) (t : Tbl) (ps : List Nat) (rs : List Ent) (a : Int) : D := (noteO C t ps rs a).d
structure StG (m : Nat) (ss : List Nat) : Prop where
  ne : ss ≠ []
  pw : ss.Pairwise (· < ·)
  lt : ∀ s ∈ ss, s < m
def sp_LogNote_init (C : Cs) : Spc := fun h ds Ψ _ => h = some (.i C.LogNote [] []) ∧ ∃ (t : Tbl) (ss : List Nat), Good t ∧ StG (wd t) ss ∧ ds = [mach C t, .lst (numsD ss)] ∧ Ψ .non (some (noteO C t ss (firstN t ss) 0))
def sp_LogNote_put (C : Cs) : Spc := fun h ds Ψ _ => ∃ (t : Tbl) (ps : List Nat) (rs : List Ent) (a : Int) (d : Nat) (tb : List Nat), h = some (noteO C t ps rs a) ∧ Good t ∧ StG (wd t) ps ∧ RowsOk (wd t) rs ∧ ds = [.int (d : Nat)] ∧ t[d]? = some tb ∧
  ∀ ls, ImgOf tb ps ls → Ψ (.int (a + 1)) (some (noteO C t ls (keptR (ledR tb rs) ls) (a + 1)))
def sp_LogNote_mark (C : Cs) : Spc := fun h ds Ψ _ => h = none ∧ ∃ (t : Tbl) (ps : List Nat) (rs : List Ent) (a : Int) (s m p : Nat) (r : Ent), Good t ∧ s < wd t ∧ s ∈ ps ∧ rs[s]? = some ((m, p) :: r) ∧ ds = [noteD C t ps rs a, .int (s : Nat)] ∧ Ψ (.int (m : Nat)) none
def sp_LogNote_read (C : Cs) : Spc := fun h ds Ψ _ => h = none ∧ ∃ (t : Tbl) (ps : List Nat) (rs : List Ent) (a : Int) (s m p : Nat) (r rest : Ent), Good t ∧ s < wd t ∧ rs[s]? = some r ∧ r.length ≤ 1000 ∧ m < r.length ∧ p < wd t ∧ r.filter (fun e => decide (e.1 = m)) = (m, p) :: rest ∧ ds = [noteD C t ps rs a, .int (s : Nat), .int (m : Nat), .tup []] ∧ Ψ (.int (p : Nat)) none
/-! the law's own -/
def GoodB (o : OD) : Prop := ∃ a b : Int, 0 ≤ a ∧ o = .l [.int a, .int b]
def so_law_box (_ : Cs) : SpcO := fun ds Ψ => ∃ ns k, ds = [.scr ns, .int k] ∧ 0 ≤ k ∧ k < 1000 ∧ ns.length < 1000 ∧ ∀ o, GoodB o → Ψ o
def sp_law_take (_ : Cs) : Spc := fun h ds Ψ _ => ∃ o m, h = some o ∧ GoodB o ∧ ds = [.int m] ∧ 0 < m ∧ m < 1000000 ∧ ∀ d o', 0 ≤ d → d < m → GoodB o' → Ψ (.int d) (some o')
def sp_law_pick (_ : Cs) : Spc := fun h ds Ψ _ => ∃ o xs, h = some o ∧ GoodB o ∧ ds = [.lst xs] ∧ xs ≠ [] ∧ xs.length < 1000000 ∧ ∀ d o', d ∈ xs → GoodB o' → Ψ d (some o')
def tbsD (t : Tbl) : D := .lst (t.map rowD)
def sp_law_tables (_ : Cs) : Spc := fun h ds Ψ _ => ∃ o, h = some o ∧ GoodB o ∧ ds = [] ∧ ∀ t o', Good t → GoodB o' → Ψ (tbsD t) (some o')
def sp_law_led (_ : Cs) : Spc := fun h ds Ψ _ => h = none ∧ ∃ t s ns, Good t ∧ s < wd t ∧ (∀ n ∈ ns, n < t.length) ∧ ds = [tbsD t, .int (s : Nat), rowD ns] ∧ Ψ (.int (ledN t s ns : Nat)) none
def sp_law_starts (_ : Cs) : Spc := fun h ds Ψ _ => ∃ o m, h = some o ∧ GoodB o ∧ ds = [.int (m : Nat)] ∧ 1 ≤ m ∧ m ≤ 12 ∧ ∀ ss o', StG m ss → GoodB o' → Ψ (.lst (numsD ss)) (some o')
/-- a copy: the state, the mark, and how long the log was -/
abbrev Cpy := Nat × Nat × Nat
def cpyD (c : Cpy) : D := .tup [.int (c.1 : Nat), .int (c.2.1 : Nat), .int (c.2.2 : Nat)]
structure RowI (t : Tbl) (ss log : List Nat) (r : Ent) : Prop where
  nd : (r.map (·.1)).Nodup
  lt : ∀ p ∈ r, p.1 < r.length
  rep : ∃ f : Nat → Nat, (∀ p ∈ r, f p.1 ∈ ss ∧ ledN t (f p.1) log = p.2) ∧ ∀ p ∈ r, ∀ q ∈ r, f p.1 = f q.1 → p.1 = q.1
structure NoteI (t : Tbl) (ss log ps : List Nat) (rs : List Ent) : Prop where
  st : StG (wd t) ss
  lgt : ∀ n ∈ log, n < t.length
  pst : StG (wd t) ps
  pm : ∀ x, x ∈ ps ↔ ∃ s ∈ ss, ledN t s log = x
  len : rs.length = wd t
  row : ∀ r ∈ rs, RowI t ss log r
  front : ∀ s ∈ ps, ∃ m r, rs[s]? = some ((m, s) :: r)
def CpyI (t : Tbl) (log : List Nat) (rs : List Ent) (c : Cpy) : Prop := c.1 < wd t ∧ c.2.2 ≤ log.length ∧ ∃ r, rs[c.1]? = some r ∧ (c.2.1, ledN t c.1 (log.drop c.2.2)) ∈ r
def sp_law_copies_right (C : Cs) : Spc := fun h ds Ψ _ => h = none ∧ ∃ (t : Tbl) (ss log ps : List Nat) (rs : List Ent) (a : Int) (cs : List Cpy), Good t ∧ NoteI t ss log ps rs ∧ (∀ c ∈ cs, CpyI t log rs c) ∧ ds = [noteD C t ps rs a, tbsD t, .lst (numsD ss), rowD log, .lst (cs.map cpyD)] ∧ Ψ (.bl true) none
def sp_law (_ : Cs) : Spc := spLaw fun ns => ns.length ≤ 63
section
variable {P : Program} {w : World} {K : Fg} {mg : Str → Option Value} {base : Heap} {t : List (Addr × Str)} {C : Cs}
abbrev x_is_integer (K : Fg) (C : Cs) : WS := (wRet (wAndV (wCB (wIsI K) (wCons (wVar 0) (wCons (wC (.raw (.ty "int"))) wNil))) (wNotV (wCB (wIsI K) (wCons (wVar 0) (wCons (wC (.raw (.ty "bool"))) wNil))))))
theorem dv_is_integer (T : Txt P w K mg base t C)  (cdv : Value) (A : Around) (outer : List Env) (s : Shared) (H : Hp) (E : XK) (c : Cok (cxOf (L2.CX P w) P w K mg base ["value"] "is_integer" (defScope (top 9)) C.f_is_integer cdv A outer s H E) (wishOf E) 1) :
    PSs (cxOf (L2.CX P w) P w K mg base ["value"] "is_integer" (defScope (top 9)) C.f_is_integer cdv A outer s H E) (defBody (top 9)) (lS K (tb0 t) (wishOf E) (x_is_integer K C)) := by
  exact (s_one (s_ret (e_and (e_blt call_isi ok_isI T.b_isinstance PyProof.Rows.Boot.isinstance (a_cons (e_var (i := 0)) (a_cons (e_ty T.b_int PyProof.Rows.Boot.int) a_nil))) (e_and1 (e_not (e_blt call_isi ok_isI T.b_isinstance PyProof.Rows.Boot.isinstance (a_cons (e_var (i := 0)) (a_cons (e_ty T.b_bool PyProof.Rows.Boot.bool) a_nil))))))))
abbrev x_is_below (K : Fg) (C : Cs) : WS := (wRet (wAndV (wCallA 1 0 (sp_is_integer C) (fun ds _ => ds) (wCons (wVar 0) wNil) wNil) (wChain wLe wLt (wC (.int 0)) (wVar 0) (wVar 1))))
theorem dv_is_below (T : Txt P w K mg base t C) (G_is_integer : FnG P w K mg base 2 C.f_is_integer C.d_is_integer ["value"] (lSp K t 1 (sp_is_integer C))) (U_is_integer : Dn K mg "is_integer" C.f_is_integer C.d_is_integer ["value"] 1) (cdv : Value) (A : Around) (outer : List Env) (s : Shared) (H : Hp) (E : XK) (c : Cok (cxOf (L2.CX P w) P w K mg base ["value", "many"] "is_below" (defScope (top 10)) C.f_is_below cdv A outer s H E) (wishOf E) 2) :
    PSs (cxOf (L2.CX P w) P w K mg base ["value", "many"] "is_below" (defScope (top 10)) C.f_is_below cdv A outer s H E) (defBody (top 10)) (lS K (tb0 t) (wishOf E) (x_is_below K C)) := by
  exact (s_one (s_ret (e_and (e_call c G_is_integer U_is_integer (a_cons (e_var (i := 0)) a_nil)) (e_and1 (e_leLt e_int (e_var (i := 0)) (e_var (i := 1)))))))
abbrev x_is_sequence (K : Fg) (C : Cs) : WS := (wRet (wCB (wIsT K) (wCons (wVar 0) (wCons (wTup (wCons (wC (.raw (.ty "list"))) (wCons (wC (.raw (.ty "tuple"))) wNil))) wNil))))
theorem dv_is_sequence (T : Txt P w K mg base t C)  (cdv : Value) (A : Around) (outer : List Env) (s : Shared) (H : Hp) (E : XK) (c : Cok (cxOf (L2.CX P w) P w K mg base ["value"] "is_sequence" (defScope (top 11)) C.f_is_sequence cdv A outer s H E) (wishOf E) 1) :
    PSs (cxOf (L2.CX P w) P w K mg base ["value"] "is_sequence" (defScope (top 11)) C.f_is_sequence cdv A outer s H E) (defBody (top 11)) (lS K (tb0 t) (wishOf E) (x_is_sequence K C)) := by
  exact (s_one (s_ret (e_blt call_isiT ok_isT T.b_isinstance PyProof.Rows.Boot.isinstance (a_cons (e_var (i := 0)) (a_cons (e_tup (a_cons (e_ty T.b_list PyProof.Rows.Boot.list) (a_cons (e_ty T.b_tuple PyProof.Rows.Boot.tuple) a_nil))) a_nil)))))
abbrev x_is_ascending (K : Fg) (C : Cs) : WS := (wSeq (wIfS (wNot (wB (wCallA 1 0 (sp_is_sequence C) (fun ds _ => ds) (wCons (wVar 0) wNil) wNil))) (wRet (wC (.bl false))) wNext) (wSeq (wAsg 2 (wC (.int 0))) (wSeq (wFor (wiSeq (wVar 0)) (wgName 3) (wSeq (wIfS (wOr (wNot (wB (wCallA 2 0 (sp_is_below C) (fun ds _ => ds) (wCons (wVar 3) (wCons (wVar 1) wNil)) wNil))) (wB (wOp wLt (wVar 3) (wVar 2)))) (wRet (wC (.bl false))) wNext) (wAsg 2 (wOp wAdd (wVar 3) (wC (.int 1)))))) (wRet (wC (.bl true))))))
theorem dv_is_ascending (T : Txt P w K mg base t C) (G_is_below : FnG P w K mg base 3 C.f_is_below C.d_is_below ["value", "many"] (lSp K t 2 (sp_is_below C))) (U_is_below : Dn K mg "is_below" C.f_is_below C.d_is_below ["value", "many"] 2) (G_is_sequence : FnG P w K mg base 2 C.f_is_sequence C.d_is_sequence ["value"] (lSp K t 1 (sp_is_sequence C))) (U_is_sequence : Dn K mg "is_sequence" C.f_is_sequence C.d_is_sequence ["value"] 1) (cdv : Value) (A : Around) (outer : List Env) (s : Shared) (H : Hp) (E : XK) (c : Cok (cxOf (L2.CX P w) P w K mg base ["value", "many", "least", "item"] "is_ascending" (defScope (top 12)) C.f_is_ascending cdv A outer s H E) (wishOf E) 3) :
    PSs (cxOf (L2.CX P w) P w K mg base ["value", "many", "least", "item"] "is_ascending" (defScope (top 12)) C.f_is_ascending cdv A outer s H E) (defBody (top 12)) (lS K (tb0 t) (wishOf E) (x_is_ascending K C)) := by
  exact (s_cons (s_if (t_not (t_val (e_call c G_is_sequence U_is_sequence (a_cons (e_var (i := 0)) a_nil)))) (s_one (s_ret e_bl)) s_nil) (s_cons (s_set sc_is_ascending.nd 2 e_int) (s_cons (s_for (passes_of rfl) rfl (i_seq (e_var (i := 0))) (g_nm sc_is_ascending.nd 3) (s_cons (s_if (t_pw (q_or (t_not (t_val (e_call c G_is_below U_is_below (a_cons (e_var (i := 3)) (a_cons (e_var (i := 1)) a_nil))))) (q_or1 (t_lt (e_var (i := 3)) (e_var (i := 2)))))) (s_one (s_ret e_bl)) s_nil) (s_one (s_set sc_is_ascending.nd 2 (e_add (e_var (i := 3)) e_int))))) (s_one (s_ret e_bl)))))
abbrev x_fault_place (K : Fg) (C : Cs) : WS := (wSeq (wFor (wiEnum (wCons (wVar 0) wNil)) (wgTup 2 (wgCons (wgName 2) (wgCons (wgName 3) wgNil))) (wIfS (wNot (wB (wCallA 2 0 (sp_is_below C) (fun ds _ => ds) (wCons (wVar 3) (wCons (wVar 1) wNil)) wNil))) (wRet (wVar 2)) wNext)) (wRet (wC .non)))
theorem dv_fault_place (T : Txt P w K mg base t C) (G_is_below : FnG P w K mg base 3 C.f_is_below C.d_is_below ["value", "many"] (lSp K t 2 (sp_is_below C))) (U_is_below : Dn K mg "is_below" C.f_is_below C.d_is_below ["value", "many"] 2) (cdv : Value) (A : Around) (outer : List Env) (s : Shared) (H : Hp) (E : XK) (c : Cok (cxOf (L2.CX P w) P w K mg base ["value", "many", "at", "item"] "fault_place" (defScope (top 13)) C.f_fault_place cdv A outer s H E) (wishOf E) 3) :
    PSs (cxOf (L2.CX P w) P w K mg base ["value", "many", "at", "item"] "fault_place" (defScope (top 13)) C.f_fault_place cdv A outer s H E) (defBody (top 13)) (lS K (tb0 t) (wishOf E) (x_fault_place K C)) := by
  exact (s_cons (s_for (passes_of rfl) rfl (d_enum rfl T.b_enumerate (a_cons (e_var (i := 0)) a_nil)) (g_two sc_fault_place.nd rfl 2 3) (s_one (s_if (t_not (t_val (e_call c G_is_below U_is_below (a_cons (e_var (i := 3)) (a_cons (e_var (i := 1)) a_nil))))) (s_one (s_ret (e_var (i := 2)))) s_nil))) (s_one (s_ret e_non)))
abbrev x_is_table (K : Fg) (C : Cs) : WS := (wSeq (wIfS (wOr (wNot (wB (wCallA 1 0 (sp_is_sequence C) (fun ds _ => ds) (wCons (wVar 0) wNil) wNil))) (wNot (wB (wChain wLe wLe (wC (.int 1)) (wCB wLen (wCons (wVar 0) wNil)) (wC (.int 12)))))) (wRet (wC (.bl false))) wNext) (wRet (wOp (wIsN false) (wCallA 2 0 (sp_fault_place C) (fun ds _ => ds) (wCons (wVar 0) (wCons (wCB wLen (wCons (wVar 0) wNil)) wNil)) wNil) (wC .non))))
theorem dv_is_table (T : Txt P w K mg base t C) (G_fault_place : FnG P w K mg base 4 C.f_fault_place C.d_fault_place ["value", "many"] (lSp K t 2 (sp_fault_place C))) (U_fault_place : Dn K mg "fault_place" C.f_fault_place C.d_fault_place ["value", "many"] 2) (G_is_sequence : FnG P w K mg base 2 C.f_is_sequence C.d_is_sequence ["value"] (lSp K t 1 (sp_is_sequence C))) (U_is_sequence : Dn K mg "is_sequence" C.f_is_sequence C.d_is_sequence ["value"] 1) (cdv : Value) (A : Around) (outer : List Env) (s : Shared) (H : Hp) (E : XK) (c : Cok (cxOf (L2.CX P w) P w K mg base ["value"] "is_table" (defScope (top 18)) C.f_is_table cdv A outer s H E) (wishOf E) 4) :
    PSs (cxOf (L2.CX P w) P w K mg base ["value"] "is_table" (defScope (top 18)) C.f_is_table cdv A outer s H E) (defBody (top 18)) (lS K (tb0 t) (wishOf E) (x_is_table K C)) := by
  exact (s_cons (s_if (t_pw (q_or (t_not (t_val (e_call c G_is_sequence U_is_sequence (a_cons (e_var (i := 0)) a_nil)))) (q_or1 (t_not (t_leLe e_int (e_blt cr_lenD ok_len T.b_len PyProof.Rows.Boot.len (a_cons (e_var (i := 0)) a_nil)) (e_globI T.MOST_STATES)))))) (s_one (s_ret e_bl)) s_nil) (s_one (s_ret (e_isN (e_call c G_fault_place U_fault_place (a_cons (e_var (i := 0)) (a_cons (e_blt cr_lenD ok_len T.b_len PyProof.Rows.Boot.len (a_cons (e_var (i := 0)) a_nil)) a_nil))) e_non))))
abbrev x_check_tables (K : Fg) (C : Cs) : WS := (wSeq (wIfS (wOr (wNot (wB (wCallA 1 0 (sp_is_sequence C) (fun ds _ => ds) (wCons (wVar 0) wNil) wNil))) (wNot (wB (wChain wLe wLe (wC (.int 1)) (wCB wLen (wCons (wVar 0) wNil)) (wC (.int 8)))))) (wRaise C.BadMachine "at" (wCons (wUn wNeg (wC (.int 1))) wNil)) wNext) (wSeq (wFor (wiEnum (wCons (wVar 0) wNil)) (wgTup 2 (wgCons (wgName 1) (wgCons (wgName 2) wgNil))) (wIfS (wOr (wNot (wB (wCallA 1 0 (sp_is_table C) (fun ds _ => ds) (wCons (wVar 2) wNil) wNil))) (wB (wOp (wEq true) (wCB wLen (wCons (wVar 2) wNil)) (wCB wLen (wCons (wOp wIx (wVar 0) (wC (.int 0))) wNil))))) (wRaise C.BadMachine "at" (wCons (wVar 1) wNil)) wNext)) (wRet (wCB wTupOf (wCons (wLc (wiSeq (wVar 0)) (wgName 2) wTrue (wCB wTupOf (wCons (wVar 2) wNil)) [2]) wNil)))))
theorem dv_check_tables (T : Txt P w K mg base t C) (G_is_sequence : FnG P w K mg base 2 C.f_is_sequence C.d_is_sequence ["value"] (lSp K t 1 (sp_is_sequence C))) (U_is_sequence : Dn K mg "is_sequence" C.f_is_sequence C.d_is_sequence ["value"] 1) (G_is_table : FnG P w K mg base 5 C.f_is_table C.d_is_table ["value"] (lSp K t 1 (sp_is_table C))) (U_is_table : Dn K mg "is_table" C.f_is_table C.d_is_table ["value"] 1) (cdv : Value) (A : Around) (outer : List Env) (s : Shared) (H : Hp) (E : XK) (c : Cok (cxOf (L2.CX P w) P w K mg base ["value", "at", "table"] "check_tables" (defScope (top 19)) C.f_check_tables cdv A outer s H E) (wishOf E) 5) :
    PSs (cxOf (L2.CX P w) P w K mg base ["value", "at", "table"] "check_tables" (defScope (top 19)) C.f_check_tables cdv A outer s H E) (defBody (top 19)) (lS K (tb0 t) (wishOf E) (x_check_tables K C)) := by
  exact (s_cons (s_if (t_pw (q_or (t_not (t_val (e_call c G_is_sequence U_is_sequence (a_cons (e_var (i := 0)) a_nil)))) (q_or1 (t_not (t_leLe e_int (e_blt cr_lenD ok_len T.b_len PyProof.Rows.Boot.len (a_cons (e_var (i := 0)) a_nil)) (e_globI T.MOST_TABLES)))))) (s_one (s_raise rfl c T.er_BadMachine (T.in_BadMachine _) T.bi_BadMachine passes_none T.BadMachine (a_cons (e_neg e_int) a_nil))) s_nil) (s_cons (s_for (passes_of rfl) rfl (d_enum rfl T.b_enumerate (a_cons (e_var (i := 0)) a_nil)) (g_two sc_check_tables.nd rfl 1 2) (s_one (s_if (t_pw (q_or (t_not (t_val (e_call c G_is_table U_is_table (a_cons (e_var (i := 2)) a_nil)))) (q_or1 (t_ne c (e_blt cr_lenD ok_len T.b_len PyProof.Rows.Boot.len (a_cons (e_var (i := 2)) a_nil)) (e_blt cr_lenD ok_len T.b_len PyProof.Rows.Boot.len (a_cons (e_ix (e_var (i := 0)) e_int) a_nil)))))) (s_one (s_raise rfl c T.er_BadMachine (T.in_BadMachine _) T.bi_BadMachine passes_none T.BadMachine (a_cons (e_var (i := 1)) a_nil))) s_nil))) (s_one (s_ret (e_bty call_tuple_of ok_tupOf T.b_tuple PyProof.Rows.Boot.tuple (a_cons (e_lc (own := [("table", 2)]) rfl sc_check_tables.nd (i_seq (e_var (i := 0))) (blk_ok (by kernel_rfl)) (fun _ _ _ _ _ => (g_c 2 sc_check_tables.nd)) (fun _ _ _ _ _ => f_nil) (fun _ _ _ _ _ => (e_bty call_tuple_of ok_tupOf T.b_tuple PyProof.Rows.Boot.tuple (a_cons (e_var (i := 2)) a_nil)))) a_nil))))))
abbrev x_Machine_init (K : Fg) (C : Cs) : WS := (wSeq (wFset C.Machine "tables" 0 (wCallA 1 0 (sp_check_tables C) (fun ds _ => ds) (wCons (wVar 1) wNil) wNil)) (wSeq (wFset C.Machine "deeds" 0 (wCB wLen (wCons (wFldO C.Machine "tables" 0) wNil))) (wFset C.Machine "states" 0 (wCB wLen (wCons (wOp wIx (wFldO C.Machine "tables" 0) (wC (.int 0))) wNil)))))
theorem dv_Machine_init (T : Txt P w K mg base t C) (G_check_tables : FnG P w K mg base 6 C.f_check_tables C.d_check_tables ["value"] (lSp K t 1 (sp_check_tables C))) (U_check_tables : Dn K mg "check_tables" C.f_check_tables C.d_check_tables ["value"] 1) (cdv : Value) (A : Around) (outer : List Env) (s : Shared) (H : Hp) (E : XK) (c : Cok (cxOf (L2.CX P w) P w K mg base ["self", "tables"] "Machine.__init__" (defScope (inClass (top 20) 0)) C.f_Machine_init cdv A outer s H E) (wishOf E) 6) :
    PSs (cxOf (L2.CX P w) P w K mg base ["self", "tables"] "Machine.__init__" (defScope (inClass (top 20) 0)) C.f_Machine_init cdv A outer s H E) (defBody (inClass (top 20) 0)) (lS K (tb0 t) (wishOf E) (x_Machine_init K C)) := by
  exact (s_cons (s_fset 0 T.cl_Machine T.na_Machine_tables (e_call c G_check_tables U_check_tables (a_cons (e_var (i := 1)) a_nil))) (s_cons (s_fset 0 T.cl_Machine T.na_Machine_deeds (e_blt cr_lenD ok_len T.b_len PyProof.Rows.Boot.len (a_cons (e_fldO (i := 0) T.cl_Machine T.na_Machine_tables) a_nil))) (s_one (s_fset 0 T.cl_Machine T.na_Machine_states (e_blt cr_lenD ok_len T.b_len PyProof.Rows.Boot.len (a_cons (e_ix (e_fldO (i := 0) T.cl_Machine T.na_Machine_tables) e_int) a_nil))))))
abbrev x_check_state (K : Fg) (C : Cs) : WS := (wIfS (wNot (wB (wCallA 2 0 (sp_is_below C) (fun ds _ => ds) (wCons (wVar 1) (wCons (wFld C.Machine "states" (wVar 0)) wNil)) wNil))) (wRaise C.NoState "state" (wCons (wVar 1) wNil)) wNext)
theorem dv_check_state (T : Txt P w K mg base t C) (G_is_below : FnG P w K mg base 3 C.f_is_below C.d_is_below ["value", "many"] (lSp K t 2 (sp_is_below C))) (U_is_below : Dn K mg "is_below" C.f_is_below C.d_is_below ["value", "many"] 2) (cdv : Value) (A : Around) (outer : List Env) (s : Shared) (H : Hp) (E : XK) (c : Cok (cxOf (L2.CX P w) P w K mg base ["machine", "value"] "check_state" (defScope (top 21)) C.f_check_state cdv A outer s H E) (wishOf E) 3) :
    PSs (cxOf (L2.CX P w) P w K mg base ["machine", "value"] "check_state" (defScope (top 21)) C.f_check_state cdv A outer s H E) (defBody (top 21)) (lS K (tb0 t) (wishOf E) (x_check_state K C)) := by
  exact (s_one (s_if (t_not (t_val (e_call c G_is_below U_is_below (a_cons (e_var (i := 1)) (a_cons (e_fld T.cl_Machine T.na_Machine_states (e_var (i := 0))) a_nil))))) (s_one (s_raise rfl c T.er_NoState (T.in_NoState _) T.bi_NoState passes_none T.NoState (a_cons (e_var (i := 1)) a_nil))) s_nil))
abbrev x_check_deed (K : Fg) (C : Cs) : WS := (wIfS (wNot (wB (wCallA 2 0 (sp_is_below C) (fun ds _ => ds) (wCons (wVar 1) (wCons (wFld C.Machine "deeds" (wVar 0)) wNil)) wNil))) (wRaise C.NoDeed "deed" (wCons (wVar 1) wNil)) wNext)
theorem dv_check_deed (T : Txt P w K mg base t C) (G_is_below : FnG P w K mg base 3 C.f_is_below C.d_is_below ["value", "many"] (lSp K t 2 (sp_is_below C))) (U_is_below : Dn K mg "is_below" C.f_is_below C.d_is_below ["value", "many"] 2) (cdv : Value) (A : Around) (outer : List Env) (s : Shared) (H : Hp) (E : XK) (c : Cok (cxOf (L2.CX P w) P w K mg base ["machine", "value"] "check_deed" (defScope (top 22)) C.f_check_deed cdv A outer s H E) (wishOf E) 3) :
    PSs (cxOf (L2.CX P w) P w K mg base ["machine", "value"] "check_deed" (defScope (top 22)) C.f_check_deed cdv A outer s H E) (defBody (top 22)) (lS K (tb0 t) (wishOf E) (x_check_deed K C)) := by
  exact (s_one (s_if (t_not (t_val (e_call c G_is_below U_is_below (a_cons (e_var (i := 1)) (a_cons (e_fld T.cl_Machine T.na_Machine_deeds (e_var (i := 0))) a_nil))))) (s_one (s_raise rfl c T.er_NoDeed (T.in_NoDeed _) T.bi_NoDeed passes_none T.NoDeed (a_cons (e_var (i := 1)) a_nil))) s_nil))
abbrev x_log_fault (K : Fg) (C : Cs) : WS := (wSeq (wIfS (wOr (wNot (wB (wCallA 1 0 (sp_is_sequence C) (fun ds _ => ds) (wCons (wVar 1) wNil) wNil))) (wB (wOp wGt (wCB wLen (wCons (wVar 1) wNil)) (wC (.int 10000))))) (wRet (wUn wNeg (wC (.int 1)))) wNext) (wRet (wCallA 2 0 (sp_fault_place C) (fun ds _ => ds) (wCons (wVar 1) (wCons (wFld C.Machine "deeds" (wVar 0)) wNil)) wNil)))
theorem dv_log_fault (T : Txt P w K mg base t C) (G_fault_place : FnG P w K mg base 4 C.f_fault_place C.d_fault_place ["value", "many"] (lSp K t 2 (sp_fault_place C))) (U_fault_place : Dn K mg "fault_place" C.f_fault_place C.d_fault_place ["value", "many"] 2) (G_is_sequence : FnG P w K mg base 2 C.f_is_sequence C.d_is_sequence ["value"] (lSp K t 1 (sp_is_sequence C))) (U_is_sequence : Dn K mg "is_sequence" C.f_is_sequence C.d_is_sequence ["value"] 1) (cdv : Value) (A : Around) (outer : List Env) (s : Shared) (H : Hp) (E : XK) (c : Cok (cxOf (L2.CX P w) P w K mg base ["machine", "value"] "log_fault" (defScope (top 23)) C.f_log_fault cdv A outer s H E) (wishOf E) 4) :
    PSs (cxOf (L2.CX P w) P w K mg base ["machine", "value"] "log_fault" (defScope (top 23)) C.f_log_fault cdv A outer s H E) (defBody (top 23)) (lS K (tb0 t) (wishOf E) (x_log_fault K C)) := by
  exact (s_cons (s_if (t_pw (q_or (t_not (t_val (e_call c G_is_sequence U_is_sequence (a_cons (e_var (i := 1)) a_nil)))) (q_or1 (t_gt (e_blt cr_lenD ok_len T.b_len PyProof.Rows.Boot.len (a_cons (e_var (i := 1)) a_nil)) (e_globI T.MOST_DEEDS))))) (s_one (s_ret (e_neg e_int))) s_nil) (s_one (s_ret (e_call c G_fault_place U_fault_place (a_cons (e_var (i := 1)) (a_cons (e_fld T.cl_Machine T.na_Machine_deeds (e_var (i := 0))) a_nil))))))
abbrev x_check_log (K : Fg) (C : Cs) : WS := (wSeq (wAsg 2 (wCallA 2 0 (sp_log_fault C) (fun ds _ => ds) (wCons (wVar 0) (wCons (wVar 1) wNil)) wNil)) (wSeq (wIfS (wB (wOp (wIsN true) (wVar 2) (wC .non))) (wRaise C.BadLog "at" (wCons (wVar 2) wNil)) wNext) (wRet (wCB wTupOf (wCons (wVar 1) wNil)))))
theorem dv_check_log (T : Txt P w K mg base t C) (G_log_fault : FnG P w K mg base 5 C.f_log_fault C.d_log_fault ["machine", "value"] (lSp K t 2 (sp_log_fault C))) (U_log_fault : Dn K mg "log_fault" C.f_log_fault C.d_log_fault ["machine", "value"] 2) (cdv : Value) (A : Around) (outer : List Env) (s : Shared) (H : Hp) (E : XK) (c : Cok (cxOf (L2.CX P w) P w K mg base ["machine", "value", "at"] "check_log" (defScope (top 24)) C.f_check_log cdv A outer s H E) (wishOf E) 5) :
    PSs (cxOf (L2.CX P w) P w K mg base ["machine", "value", "at"] "check_log" (defScope (top 24)) C.f_check_log cdv A outer s H E) (defBody (top 24)) (lS K (tb0 t) (wishOf E) (x_check_log K C)) := by
  exact (s_cons (s_set sc_check_log.nd 2 (e_call c G_log_fault U_log_fault (a_cons (e_var (i := 0)) (a_cons (e_var (i := 1)) a_nil)))) (s_cons (s_if (t_notN (e_var (i := 2)) e_non) (s_one (s_raise rfl c T.er_BadLog (T.in_BadLog _) T.bi_BadLog passes_none T.BadLog (a_cons (e_var (i := 2)) a_nil))) s_nil) (s_one (s_ret (e_bty call_tuple_of ok_tupOf T.b_tuple PyProof.Rows.Boot.tuple (a_cons (e_var (i := 1)) a_nil))))))
abbrev x_check_starts (K : Fg) (C : Cs) : WS := (wSeq (wIfS (wB (wOp (wIsN false) (wVar 1) (wC .non))) (wRet (wRgT (wCons (wFld C.Machine "states" (wVar 0)) wNil))) wNext) (wSeq (wIfS (wOr (wNot (wB (wCallA 2 0 (sp_is_ascending C) (fun ds _ => ds) (wCons (wVar 1) (wCons (wFld C.Machine "states" (wVar 0)) wNil)) wNil))) (wB (wOp (wEq false) (wCB wLen (wCons (wVar 1) wNil)) (wC (.int 0))))) (wRaise C.Refused "at" (wCons (wVar 1) wNil)) wNext) (wRet (wCB wTupOf (wCons (wVar 1) wNil)))))
theorem dv_check_starts (T : Txt P w K mg base t C) (G_is_ascending : FnG P w K mg base 4 C.f_is_ascending C.d_is_ascending ["value", "many"] (lSp K t 2 (sp_is_ascending C))) (U_is_ascending : Dn K mg "is_ascending" C.f_is_ascending C.d_is_ascending ["value", "many"] 2) (cdv : Value) (A : Around) (outer : List Env) (s : Shared) (H : Hp) (E : XK) (c : Cok (cxOf (L2.CX P w) P w K mg base ["machine", "value"] "check_starts" (defScope (top 25)) C.f_check_starts cdv A outer s H E) (wishOf E) 4) :
    PSs (cxOf (L2.CX P w) P w K mg base ["machine", "value"] "check_starts" (defScope (top 25)) C.f_check_starts cdv A outer s H E) (defBody (top 25)) (lS K (tb0 t) (wishOf E) (x_check_starts K C)) := by
  exact (s_cons (s_if (t_isN (e_var (i := 1)) e_non) (s_one (s_ret (e_tupRg rfl T.b_tuple T.b_range (e_fld T.cl_Machine T.na_Machine_states (e_var (i := 0)))))) s_nil) (s_cons (s_if (t_pw (q_or (t_not (t_val (e_call c G_is_ascending U_is_ascending (a_cons (e_var (i := 1)) (a_cons (e_fld T.cl_Machine T.na_Machine_states (e_var (i := 0))) a_nil))))) (q_or1 (t_eq c (e_blt cr_lenD ok_len T.b_len PyProof.Rows.Boot.len (a_cons (e_var (i := 1)) a_nil)) e_int)))) (s_one (s_raise rfl c T.er_Refused (T.in_Refused _) T.bi_Refused passes_none T.Refused (a_cons (e_var (i := 1)) a_nil))) s_nil) (s_one (s_ret (e_bty call_tuple_of ok_tupOf T.b_tuple PyProof.Rows.Boot.tuple (a_cons (e_var (i := 1)) a_nil))))))
abbrev x_state_after (K : Fg) (C : Cs) : WS := (wSeq (wDrop (wCallA 2 0 (sp_check_state C) (fun ds _ => ds) (wCons (wVar 0) (wCons (wVar 1) wNil)) wNil)) (wSeq (wFor (wiSeq (wCallA 2 0 (sp_check_log C) (fun ds _ => ds) (wCons (wVar 0) (wCons (wVar 2) wNil)) wNil)) (wgName 3) (wAsg 1 (wOp wIx (wOp wIx (wFld C.Machine "tables" (wVar 0)) (wVar 3)) (wVar 1)))) (wRet (wVar 1))))
theorem dv_state_after (T : Txt P w K mg base t C) (G_check_log : FnG P w K mg base 6 C.f_check_log C.d_check_log ["machine", "value"] (lSp K t 2 (sp_check_log C))) (U_check_log : Dn K mg "check_log" C.f_check_log C.d_check_log ["machine", "value"] 2) (G_check_state : FnG P w K mg base 4 C.f_check_state C.d_check_state ["machine", "value"] (lSp K t 2 (sp_check_state C))) (U_check_state : Dn K mg "check_state" C.f_check_state C.d_check_state ["machine", "value"] 2) (cdv : Value) (A : Around) (outer : List Env) (s : Shared) (H : Hp) (E : XK) (c : Cok (cxOf (L2.CX P w) P w K mg base ["machine", "state", "log", "deed"] "state_after" (defScope (top 26)) C.f_state_after cdv A outer s H E) (wishOf E) 6) :
    PSs (cxOf (L2.CX P w) P w K mg base ["machine", "state", "log", "deed"] "state_after" (defScope (top 26)) C.f_state_after cdv A outer s H E) (defBody (top 26)) (lS K (tb0 t) (wishOf E) (x_state_after K C)) := by
  exact (s_cons (s_drop (e_call c G_check_state U_check_state (a_cons (e_var (i := 0)) (a_cons (e_var (i := 1)) a_nil)))) (s_cons (s_for (passes_of rfl) rfl (i_seq (e_call c G_check_log U_check_log (a_cons (e_var (i := 0)) (a_cons (e_var (i := 2)) a_nil)))) (g_nm sc_state_after.nd 3) (s_one (s_set sc_state_after.nd 1 (e_ix (e_ix (e_fld T.cl_Machine T.na_Machine_tables (e_var (i := 0))) (e_var (i := 3))) (e_var (i := 1)))))) (s_one (s_ret (e_var (i := 1))))))
abbrev x_image (K : Fg) (C : Cs) : WS := (wRet (wCB wTupOf (wCons (wSortSet2 (wLc (wiSeq (wVar 1)) (wgName 2) wTrue (wOp wIx (wVar 0) (wVar 2)) [2])) wNil)))
theorem dv_image (T : Txt P w K mg base t C)  (cdv : Value) (A : Around) (outer : List Env) (s : Shared) (H : Hp) (E : XK) (c : Cok (cxOf (L2.CX P w) P w K mg base ["table", "states", "state"] "image" (defScope (top 27)) C.f_image cdv A outer s H E) (wishOf E) 1) :
    PSs (cxOf (L2.CX P w) P w K mg base ["table", "states", "state"] "image" (defScope (top 27)) C.f_image cdv A outer s H E) (defBody (top 27)) (lS K (tb0 t) (wishOf E) (x_image K C)) := by
  exact (s_one (s_ret (e_bty call_tuple_of ok_tupOf T.b_tuple PyProof.Rows.Boot.tuple (a_cons (e_sortSet2 rfl T.b_sorted T.b_set (e_lc (own := [("state", 2)]) rfl sc_image.nd (i_seq (e_var (i := 1))) (blk_ok (by kernel_rfl)) (fun _ _ _ _ _ => (g_c 2 sc_image.nd)) (fun _ _ _ _ _ => f_nil) (fun _ _ _ _ _ => (e_ix (e_var (i := 0)) (e_var (i := 2)))))) a_nil))))
abbrev x_kept_row (K : Fg) (C : Cs) : WS := (wSeq (wFor (wiEnum (wCons (wVar 0) wNil)) (wgTup 2 (wgCons (wgName 2) (wgCons (wgTup 2 (wgCons (wgName 3) (wgCons (wgName 4) wgNil))) wgNil))) (wIfS (wB (wOp (wEq false) (wVar 4) (wVar 1))) (wRet (wOp wAdd (wOp wAdd (wTup (wCons (wOp wIx (wVar 0) (wVar 2)) wNil)) (wSl (wVar 0) woNone (woSome (wVar 2)))) (wSl (wVar 0) (woSome (wOp wAdd (wVar 2) (wC (.int 1)))) woNone))) wNext)) (wRet (wOp wAdd (wTup (wCons (wTup (wCons (wCB wLen (wCons (wVar 0) wNil)) (wCons (wVar 1) wNil))) wNil)) (wVar 0))))
theorem dv_kept_row (T : Txt P w K mg base t C)  (cdv : Value) (A : Around) (outer : List Env) (s : Shared) (H : Hp) (E : XK) (c : Cok (cxOf (L2.CX P w) P w K mg base ["row", "state", "at", "_", "place"] "kept_row" (defScope (top 29)) C.f_kept_row cdv A outer s H E) (wishOf E) 1) :
    PSs (cxOf (L2.CX P w) P w K mg base ["row", "state", "at", "_", "place"] "kept_row" (defScope (top 29)) C.f_kept_row cdv A outer s H E) (defBody (top 29)) (lS K (tb0 t) (wishOf E) (x_kept_row K C)) := by
  exact (s_cons (s_for (passes_of rfl) rfl (d_enum rfl T.b_enumerate (a_cons (e_var (i := 0)) a_nil)) (g_tupN rfl (gs_cons (g_nm sc_kept_row.nd 2) (gs_cons (g_tupN rfl (gs_cons (g_nm sc_kept_row.nd 3) (gs_cons (g_nm sc_kept_row.nd 4) gs_nil))) gs_nil))) (s_one (s_if (t_eq c (e_var (i := 4)) (e_var (i := 1))) (s_one (s_ret (e_add (e_add (e_tup (a_cons (e_ix (e_var (i := 0)) (e_var (i := 2))) a_nil)) (e_slice (e_var (i := 0)) s_none (s_some (e_var (i := 2))))) (e_slice (e_var (i := 0)) (s_some (e_add (e_var (i := 2)) e_int)) s_none)))) s_nil))) (s_one (s_ret (e_add (e_tup (a_cons (e_tup (a_cons (e_blt cr_lenD ok_len T.b_len PyProof.Rows.Boot.len (a_cons (e_var (i := 0)) a_nil)) (a_cons (e_var (i := 1)) a_nil))) a_nil)) (e_var (i := 0))))))
abbrev x_kept_rows (K : Fg) (C : Cs) : WS := (wRet (wCB wTupOf (wCons (wLc (wiEnum (wCons (wVar 0) wNil)) (wgSeq 2 (wgCons (wgName 2) (wgCons (wgName 3) wgNil))) wTrue (wIf (wB (wOp (wInI false) (wVar 2) (wVar 1))) (wCallA 2 0 (sp_kept_row C) (fun ds _ => ds) (wCons (wVar 3) (wCons (wVar 2) wNil)) wNil) (wVar 3)) [2, 3]) wNil)))
theorem dv_kept_rows (T : Txt P w K mg base t C) (G_kept_row : FnG P w K mg base 2 C.f_kept_row C.d_kept_row ["row", "state"] (lSp K t 2 (sp_kept_row C))) (U_kept_row : Dn K mg "kept_row" C.f_kept_row C.d_kept_row ["row", "state"] 2) (cdv : Value) (A : Around) (outer : List Env) (s : Shared) (H : Hp) (E : XK) (c : Cok (cxOf (L2.CX P w) P w K mg base ["rows", "possible", "state", "row"] "kept_rows" (defScope (top 30)) C.f_kept_rows cdv A outer s H E) (wishOf E) 2) :
    PSs (cxOf (L2.CX P w) P w K mg base ["rows", "possible", "state", "row"] "kept_rows" (defScope (top 30)) C.f_kept_rows cdv A outer s H E) (defBody (top 30)) (lS K (tb0 t) (wishOf E) (x_kept_rows K C)) := by
  exact (s_one (s_ret (e_bty call_tuple_of ok_tupOf T.b_tuple PyProof.Rows.Boot.tuple (a_cons (e_lc (own := [("state", 2), ("row", 3)]) rfl sc_kept_rows.nd (d_enum rfl T.b_enumerate (a_cons (e_var (i := 0)) a_nil)) (blk_ok (by kernel_rfl)) (fun _ _ _ _ _ => (g_c2S sc_kept_rows.nd rfl 2 3)) (fun _ _ _ _ _ => f_nil) (fun _ _ _ _ _ => (e_if (t_in (e_var (i := 2)) (e_var (i := 1))) (e_call (c.blk _ _ _ _ _) G_kept_row U_kept_row (a_cons (e_var (i := 3)) (a_cons (e_var (i := 2)) a_nil))) (e_var (i := 3))))) a_nil))))
abbrev x_first_rows (K : Fg) (C : Cs) : WS := (wRet (wCallA 2 0 (sp_kept_rows C) (fun ds _ => ds) (wCons (wOp wMul (wLst (wCons (wTup wNil) wNil)) (wFld C.Machine "states" (wVar 0))) (wCons (wVar 1) wNil)) wNil))
theorem dv_first_rows (T : Txt P w K mg base t C) (G_kept_rows : FnG P w K mg base 3 C.f_kept_rows C.d_kept_rows ["rows", "possible"] (lSp K t 2 (sp_kept_rows C))) (U_kept_rows : Dn K mg "kept_rows" C.f_kept_rows C.d_kept_rows ["rows", "possible"] 2) (cdv : Value) (A : Around) (outer : List Env) (s : Shared) (H : Hp) (E : XK) (c : Cok (cxOf (L2.CX P w) P w K mg base ["machine", "starts"] "first_rows" (defScope (top 31)) C.f_first_rows cdv A outer s H E) (wishOf E) 3) :
    PSs (cxOf (L2.CX P w) P w K mg base ["machine", "starts"] "first_rows" (defScope (top 31)) C.f_first_rows cdv A outer s H E) (defBody (top 31)) (lS K (tb0 t) (wishOf E) (x_first_rows K C)) := by
  exact (s_one (s_ret (e_call c G_kept_rows U_kept_rows (a_cons (e_mul (e_lst (a_cons (e_tup a_nil) a_nil)) (e_fld T.cl_Machine T.na_Machine_states (e_var (i := 0)))) (a_cons (e_var (i := 1)) a_nil)))))
abbrev x_led_rows (K : Fg) (C : Cs) : WS := (wRet (wLc (wiSeq (wVar 1)) (wgName 2) wTrue (wCB wTupOf (wCons (wLc (wiSeq (wVar 2)) (wgSeq 2 (wgCons (wgName 3) (wgCons (wgName 4) wgNil))) wTrue (wTup (wCons (wVar 3) (wCons (wOp wIx (wVar 0) (wVar 4)) wNil))) [3, 4]) wNil)) [2]))
theorem dv_led_rows (T : Txt P w K mg base t C)  (cdv : Value) (A : Around) (outer : List Env) (s : Shared) (H : Hp) (E : XK) (c : Cok (cxOf (L2.CX P w) P w K mg base ["table", "rows", "row", "mark", "place"] "led_rows" (defScope (top 32)) C.f_led_rows cdv A outer s H E) (wishOf E) 1) :
    PSs (cxOf (L2.CX P w) P w K mg base ["table", "rows", "row", "mark", "place"] "led_rows" (defScope (top 32)) C.f_led_rows cdv A outer s H E) (defBody (top 32)) (lS K (tb0 t) (wishOf E) (x_led_rows K C)) := by
  exact (s_one (s_ret (e_lc (own := [("row", 2)]) rfl sc_led_rows.nd (i_seq (e_var (i := 1))) (blk_ok (by kernel_rfl)) (fun _ _ _ _ _ => (g_c 2 sc_led_rows.nd)) (fun _ _ _ _ _ => f_nil) (fun _ _ _ _ _ => (e_bty call_tuple_of ok_tupOf T.b_tuple PyProof.Rows.Boot.tuple (a_cons (e_lc (own := [("mark", 3), ("place", 4)]) rfl sc_led_rows.nd (i_seq (e_var (i := 2))) (blk_ok (by kernel_rfl)) (fun _ _ _ _ _ => (g_c2S sc_led_rows.nd rfl 3 4)) (fun _ _ _ _ _ => f_nil) (fun _ _ _ _ _ => (e_tup (a_cons (e_var (i := 3)) (a_cons (e_ix (e_var (i := 0)) (e_var (i := 4))) a_nil))))) a_nil))))))
abbrev x_led_note (K : Fg) (C : Cs) : WS := (wSeq (wAsg 3 (wCallA 2 0 (sp_image C) (fun ds _ => ds) (wCons (wVar 0) (wCons (wVar 1) wNil)) wNil)) (wRet (wTup (wCons (wVar 3) (wCons (wCallA 2 0 (sp_kept_rows C) (fun ds _ => ds) (wCons (wCallA 2 0 (sp_led_rows C) (fun ds _ => ds) (wCons (wVar 0) (wCons (wVar 2) wNil)) wNil) (wCons (wVar 3) wNil)) wNil) wNil)))))
theorem dv_led_note (T : Txt P w K mg base t C) (G_image : FnG P w K mg base 2 C.f_image C.d_image ["table", "states"] (lSp K t 2 (sp_image C))) (U_image : Dn K mg "image" C.f_image C.d_image ["table", "states"] 2) (G_kept_rows : FnG P w K mg base 3 C.f_kept_rows C.d_kept_rows ["rows", "possible"] (lSp K t 2 (sp_kept_rows C))) (U_kept_rows : Dn K mg "kept_rows" C.f_kept_rows C.d_kept_rows ["rows", "possible"] 2) (G_led_rows : FnG P w K mg base 2 C.f_led_rows C.d_led_rows ["table", "rows"] (lSp K t 2 (sp_led_rows C))) (U_led_rows : Dn K mg "led_rows" C.f_led_rows C.d_led_rows ["table", "rows"] 2) (cdv : Value) (A : Around) (outer : List Env) (s : Shared) (H : Hp) (E : XK) (c : Cok (cxOf (L2.CX P w) P w K mg base ["table", "possible", "rows", "later"] "led_note" (defScope (top 33)) C.f_led_note cdv A outer s H E) (wishOf E) 3) :
    PSs (cxOf (L2.CX P w) P w K mg base ["table", "possible", "rows", "later"] "led_note" (defScope (top 33)) C.f_led_note cdv A outer s H E) (defBody (top 33)) (lS K (tb0 t) (wishOf E) (x_led_note K C)) := by
  exact (s_cons (s_set sc_led_note.nd 3 (e_call c G_image U_image (a_cons (e_var (i := 0)) (a_cons (e_var (i := 1)) a_nil)))) (s_one (s_ret (e_tup (a_cons (e_var (i := 3)) (a_cons (e_call c G_kept_rows U_kept_rows (a_cons (e_call c G_led_rows U_led_rows (a_cons (e_var (i := 0)) (a_cons (e_var (i := 2)) a_nil))) (a_cons (e_var (i := 3)) a_nil))) a_nil))))))
abbrev x_LogNote_init (K : Fg) (C : Cs) : WS := (wSeq (wFset C.LogNote "possible" 0 (wCallA 2 0 (sp_check_starts C) (fun ds _ => ds) (wCons (wVar 1) (wCons (wVar 2) wNil)) wNil)) (wSeq (wFset C.LogNote "machine" 0 (wVar 1)) (wSeq (wFset C.LogNote "age" 0 (wC (.int 0))) (wFset C.LogNote "rows" 0 (wCallA 2 0 (sp_first_rows C) (fun ds _ => ds) (wCons (wVar 1) (wCons (wFldO C.LogNote "possible" 0) wNil)) wNil)))))
theorem dv_LogNote_init (T : Txt P w K mg base t C) (G_check_starts : FnG P w K mg base 5 C.f_check_starts C.d_check_starts ["machine", "value"] (lSp K t 2 (sp_check_starts C))) (U_check_starts : Dn K mg "check_starts" C.f_check_starts C.d_check_starts ["machine", "value"] 2) (G_first_rows : FnG P w K mg base 4 C.f_first_rows C.d_first_rows ["machine", "starts"] (lSp K t 2 (sp_first_rows C))) (U_first_rows : Dn K mg "first_rows" C.f_first_rows C.d_first_rows ["machine", "starts"] 2) (cdv : Value) (A : Around) (outer : List Env) (s : Shared) (H : Hp) (E : XK) (c : Cok (cxOf (L2.CX P w) P w K mg base ["self", "machine", "starts"] "LogNote.__init__" (defScope (inClass (top 34) 0)) C.f_LogNote_init cdv A outer s H E) (wishOf E) 5) :
    PSs (cxOf (L2.CX P w) P w K mg base ["self", "machine", "starts"] "LogNote.__init__" (defScope (inClass (top 34) 0)) C.f_LogNote_init cdv A outer s H E) (defBody (inClass (top 34) 0)) (lS K (tb0 t) (wishOf E) (x_LogNote_init K C)) := by
  exact (s_cons (s_fset 0 T.cl_LogNote T.na_LogNote_possible (e_call c G_check_starts U_check_starts (a_cons (e_var (i := 1)) (a_cons (e_var (i := 2)) a_nil)))) (s_cons (s_fset 0 T.cl_LogNote T.na_LogNote_machine (e_var (i := 1))) (s_cons (s_fset 0 T.cl_LogNote T.na_LogNote_age e_int) (s_one (s_fset 0 T.cl_LogNote T.na_LogNote_rows (e_call c G_first_rows U_first_rows (a_cons (e_var (i := 1)) (a_cons (e_fldO (i := 0) T.cl_LogNote T.na_LogNote_possible) a_nil))))))))
abbrev x_LogNote_put (K : Fg) (C : Cs) : WS := (wSeq (wDrop (wCallA 2 0 (sp_check_deed C) (fun ds _ => ds) (wCons (wFldO C.LogNote "machine" 0) (wCons (wVar 1) wNil)) wNil)) (wSeq (wAsgG (wgTup 2 (wgCons (wgFld C.LogNote "possible" 0) (wgCons (wgFld C.LogNote "rows" 0) wgNil))) (wCallA 3 0 (sp_led_note C) (fun ds _ => ds) (wCons (wOp wIx (wFld C.Machine "tables" (wFldO C.LogNote "machine" 0)) (wVar 1)) (wCons (wFldO C.LogNote "possible" 0) (wCons (wFldO C.LogNote "rows" 0) wNil))) wNil)) (wSeq (wFadd C.LogNote "age" 0 (wC (.int 1))) (wRet (wFldO C.LogNote "age" 0)))))
theorem dv_LogNote_put (T : Txt P w K mg base t C) (G_check_deed : FnG P w K mg base 4 C.f_check_deed C.d_check_deed ["machine", "value"] (lSp K t 2 (sp_check_deed C))) (U_check_deed : Dn K mg "check_deed" C.f_check_deed C.d_check_deed ["machine", "value"] 2) (G_led_note : FnG P w K mg base 4 C.f_led_note C.d_led_note ["table", "possible", "rows"] (lSp K t 3 (sp_led_note C))) (U_led_note : Dn K mg "led_note" C.f_led_note C.d_led_note ["table", "possible", "rows"] 3) (cdv : Value) (A : Around) (outer : List Env) (s : Shared) (H : Hp) (E : XK) (c : Cok (cxOf (L2.CX P w) P w K mg base ["self", "deed"] "LogNote.put" (defScope (inClass (top 34) 2)) C.f_LogNote_put cdv A outer s H E) (wishOf E) 4) :
    PSs (cxOf (L2.CX P w) P w K mg base ["self", "deed"] "LogNote.put" (defScope (inClass (top 34) 2)) C.f_LogNote_put cdv A outer s H E) (defBody (inClass (top 34) 2)) (lS K (tb0 t) (wishOf E) (x_LogNote_put K C)) := by
  exact (s_cons (s_drop (e_call c G_check_deed U_check_deed (a_cons (e_fldO (i := 0) T.cl_LogNote T.na_LogNote_machine) (a_cons (e_var (i := 1)) a_nil)))) (s_cons (s_asg (e_call c G_led_note U_led_note (a_cons (e_ix (e_fld T.cl_Machine T.na_Machine_tables (e_fldO (i := 0) T.cl_LogNote T.na_LogNote_machine)) (e_var (i := 1))) (a_cons (e_fldO (i := 0) T.cl_LogNote T.na_LogNote_possible) (a_cons (e_fldO (i := 0) T.cl_LogNote T.na_LogNote_rows) a_nil)))) (g_tupN rfl (gs_cons (g_fldO (i := 0) T.cl_LogNote T.na_LogNote_possible) (gs_cons (g_fldO (i := 0) T.cl_LogNote T.na_LogNote_rows) gs_nil)))) (s_cons (s_fadd (i := 0) T.cl_LogNote T.na_LogNote_age e_int) (s_one (s_ret (e_fldO (i := 0) T.cl_LogNote T.na_LogNote_age))))))
abbrev x_LogNote_mark (K : Fg) (C : Cs) : WS := (wSeq (wDrop (wCallA 2 0 (sp_check_state C) (fun ds _ => ds) (wCons (wFld C.LogNote "machine" (wVar 0)) (wCons (wVar 1) wNil)) wNil)) (wSeq (wIfS (wB (wOp (wInI true) (wVar 1) (wFld C.LogNote "possible" (wVar 0)))) (wRaise C.Refused "at" (wCons (wVar 1) wNil)) wNext) (wRet (wOp wIx (wOp wIx (wOp wIx (wFld C.LogNote "rows" (wVar 0)) (wVar 1)) (wC (.int 0))) (wC (.int 0))))))
theorem dv_LogNote_mark (T : Txt P w K mg base t C) (G_check_state : FnG P w K mg base 4 C.f_check_state C.d_check_state ["machine", "value"] (lSp K t 2 (sp_check_state C))) (U_check_state : Dn K mg "check_state" C.f_check_state C.d_check_state ["machine", "value"] 2) (cdv : Value) (A : Around) (outer : List Env) (s : Shared) (H : Hp) (E : XK) (c : Cok (cxOf (L2.CX P w) P w K mg base ["self", "state"] "LogNote.mark" (defScope (inClass (top 34) 3)) C.f_LogNote_mark cdv A outer s H E) (wishOf E) 4) :
    PSs (cxOf (L2.CX P w) P w K mg base ["self", "state"] "LogNote.mark" (defScope (inClass (top 34) 3)) C.f_LogNote_mark cdv A outer s H E) (defBody (inClass (top 34) 3)) (lS K (tb0 t) (wishOf E) (x_LogNote_mark K C)) := by
  exact (s_cons (s_drop (e_call c G_check_state U_check_state (a_cons (e_fld T.cl_LogNote T.na_LogNote_machine (e_var (i := 0))) (a_cons (e_var (i := 1)) a_nil)))) (s_cons (s_if (t_nin (e_var (i := 1)) (e_fld T.cl_LogNote T.na_LogNote_possible (e_var (i := 0)))) (s_one (s_raise rfl c T.er_Refused (T.in_Refused _) T.bi_Refused passes_none T.Refused (a_cons (e_var (i := 1)) a_nil))) s_nil) (s_one (s_ret (e_ix (e_ix (e_ix (e_fld T.cl_LogNote T.na_LogNote_rows (e_var (i := 0))) (e_var (i := 1))) e_int) e_int)))))
abbrev x_LogNote_read (K : Fg) (C : Cs) : WS := (wSeq (wDrop (wCallA 2 0 (sp_check_state C) (fun ds _ => ds) (wCons (wFld C.LogNote "machine" (wVar 0)) (wCons (wVar 1) wNil)) wNil)) (wSeq (wAsg 4 (wOp wIx (wFld C.LogNote "rows" (wVar 0)) (wVar 1))) (wSeq (wIfS (wNot (wB (wCallA 2 0 (sp_is_below C) (fun ds _ => ds) (wCons (wVar 2) (wCons (wCB wLen (wCons (wVar 4) wNil)) wNil)) wNil))) (wRaise C.BadCopy "at" (wCons (wVar 2) wNil)) wNext) (wSeq (wAsg 5 (wLc (wiSeq (wVar 4)) (wgSeq 2 (wgCons (wgName 6) (wgCons (wgName 7) wgNil))) (wB (wOp (wEq false) (wVar 6) (wVar 2))) (wVar 7) [6, 7])) (wRet (wCallA 3 0 (sp_state_after C) (fun ds _ => ds) (wCons (wFld C.LogNote "machine" (wVar 0)) (wCons (wOp wIx (wVar 5) (wC (.int 0))) (wCons (wVar 3) wNil))) wNil))))))
theorem dv_LogNote_read (T : Txt P w K mg base t C) (G_check_state : FnG P w K mg base 4 C.f_check_state C.d_check_state ["machine", "value"] (lSp K t 2 (sp_check_state C))) (U_check_state : Dn K mg "check_state" C.f_check_state C.d_check_state ["machine", "value"] 2) (G_is_below : FnG P w K mg base 3 C.f_is_below C.d_is_below ["value", "many"] (lSp K t 2 (sp_is_below C))) (U_is_below : Dn K mg "is_below" C.f_is_below C.d_is_below ["value", "many"] 2) (G_state_after : FnG P w K mg base 7 C.f_state_after C.d_state_after ["machine", "state", "log"] (lSp K t 3 (sp_state_after C))) (U_state_after : Dn K mg "state_after" C.f_state_after C.d_state_after ["machine", "state", "log"] 3) (cdv : Value) (A : Around) (outer : List Env) (s : Shared) (H : Hp) (E : XK) (c : Cok (cxOf (L2.CX P w) P w K mg base ["self", "state", "mark", "later", "row", "places", "told", "place"] "LogNote.read" (defScope (inClass (top 34) 4)) C.f_LogNote_read cdv A outer s H E) (wishOf E) 7) :
    PSs (cxOf (L2.CX P w) P w K mg base ["self", "state", "mark", "later", "row", "places", "told", "place"] "LogNote.read" (defScope (inClass (top 34) 4)) C.f_LogNote_read cdv A outer s H E) (defBody (inClass (top 34) 4)) (lS K (tb0 t) (wishOf E) (x_LogNote_read K C)) := by
  exact (s_cons (s_drop (e_call c G_check_state U_check_state (a_cons (e_fld T.cl_LogNote T.na_LogNote_machine (e_var (i := 0))) (a_cons (e_var (i := 1)) a_nil)))) (s_cons (s_set sc_LogNote_read.nd 4 (e_ix (e_fld T.cl_LogNote T.na_LogNote_rows (e_var (i := 0))) (e_var (i := 1)))) (s_cons (s_if (t_not (t_val (e_call c G_is_below U_is_below (a_cons (e_var (i := 2)) (a_cons (e_blt cr_lenD ok_len T.b_len PyProof.Rows.Boot.len (a_cons (e_var (i := 4)) a_nil)) a_nil))))) (s_one (s_raise rfl c T.er_BadCopy (T.in_BadCopy _) T.bi_BadCopy passes_none T.BadCopy (a_cons (e_var (i := 2)) a_nil))) s_nil) (s_cons (s_setLc 5 (own := [("told", 6), ("place", 7)]) rfl sc_LogNote_read.nd (i_seq (e_var (i := 4))) (blk_ok (by kernel_rfl)) (fun _ _ _ _ _ => (g_c2S sc_LogNote_read.nd rfl 6 7)) (fun _ _ _ _ _ => (f_one (t_eq (c.blk _ _ _ _ _) (e_var (i := 6)) (e_var (i := 2))))) (fun _ _ _ _ _ => (e_var (i := 7)))) (s_one (s_ret (e_call c G_state_after U_state_after (a_cons (e_fld T.cl_LogNote T.na_LogNote_machine (e_var (i := 0))) (a_cons (e_ix (e_var (i := 5)) e_int) (a_cons (e_var (i := 3)) a_nil))))))))))
abbrev x_law_box (K : Fg) (C : Cs) : WS := (wSeq (wAsg 2 (wOp wAdd (wOp wMul (wC (.int 5953)) (wVar 1)) (wC (.int 673)))) (wSeq (wIfS (wB (wOp wLt (wVar 1) (wCB wLen (wCons (wVar 0) wNil)))) (wAsg 2 (wCB wAbs (wCons (wCB wInt (wCons (wOp wIx (wVar 0) (wVar 1)) wNil)) wNil))) (wIfS (wB (wOp wGt (wCB wLen (wCons (wVar 0) wNil)) (wC (.int 0)))) (wAsg 2 (wOp wAdd (wVar 2) (wOp wMul (wOp wMod (wCB wInt (wCons (wCB wAbs (wCons (wCB wInt (wCons (wOp wIx (wVar 0) (wOp wMod (wCB wInt (wCons (wVar 1) wNil)) (wCB wLen (wCons (wVar 0) wNil)))) wNil)) wNil)) wNil)) (wC (.int 2147483563))) (wC (.int 41201))))) wNext)) (wSeq (wAsg 3 (wIf (wB (wOp wGe (wVar 2) (wOp wPow (wC (.int 10)) (wC (.int 18))))) (wVar 2) (wC (.int 0)))) (wRetO (woLst (wCons (wVar 3) (wCons (wOp wAdd (wOp wMod (wCB wInt (wCons (wOp wAdd (wOp wMul (wOp wMod (wCB wInt (wCons (wVar 2) wNil)) (wC (.int 2147483563))) (wC (.int 40014))) (wOp wMul (wC (.int 6857)) (wVar 1))) wNil)) (wC (.int 2147483563))) (wC (.int 1))) wNil)))))))
theorem dv_law_box (T : Txt P w K mg base t C)  (cdv : Value) (A : Around) (outer : List Env) (s : Shared) (H : Hp) (E : XK) (c : Cok (cxOf (L2.CX P w) P w K mg base ["script", "k", "cell", "great"] "_law_box" (defScope (top 36)) C.f_law_box cdv A outer s H E) (wishOf E) 1) :
    PSs (cxOf (L2.CX P w) P w K mg base ["script", "k", "cell", "great"] "_law_box" (defScope (top 36)) C.f_law_box cdv A outer s H E) (defBody (top 36)) (lS K (tb0 t) (wishOf E) (x_law_box K C)) := by
  exact (s_cons (s_set sc_law_box.nd 2 (e_add (e_mul e_int (e_var (i := 1))) e_int)) (s_cons (s_if (t_lt (e_var (i := 1)) (e_blt cr_lenD ok_len T.b_len PyProof.Rows.Boot.len (a_cons (e_var (i := 0)) a_nil))) (s_one (s_set sc_law_box.nd 2 (e_blt call_abs ok_abs T.b_abs PyProof.Rows.Boot.abs (a_cons (e_bty call_int1 ok_int T.b_int PyProof.Rows.Boot.int (a_cons (e_ix (e_var (i := 0)) (e_var (i := 1))) a_nil)) a_nil)))) (s_one (s_if (t_gt (e_blt cr_lenD ok_len T.b_len PyProof.Rows.Boot.len (a_cons (e_var (i := 0)) a_nil)) e_int) (s_one (s_set sc_law_box.nd 2 (e_add (e_var (i := 2)) (e_mul (e_mod (e_bty call_int1 ok_int T.b_int PyProof.Rows.Boot.int (a_cons (e_blt call_abs ok_abs T.b_abs PyProof.Rows.Boot.abs (a_cons (e_bty call_int1 ok_int T.b_int PyProof.Rows.Boot.int (a_cons (e_ix (e_var (i := 0)) (e_mod (e_bty call_int1 ok_int T.b_int PyProof.Rows.Boot.int (a_cons (e_var (i := 1)) a_nil)) (e_blt cr_lenD ok_len T.b_len PyProof.Rows.Boot.len (a_cons (e_var (i := 0)) a_nil)))) a_nil)) a_nil)) a_nil)) e_int) e_int)))) s_nil))) (s_cons (s_set sc_law_box.nd 3 (e_if (t_ge (e_var (i := 2)) (e_pow e_int e_int)) (e_var (i := 2)) e_int)) (s_one (s_retO (o_lst (a_cons (e_var (i := 3)) (a_cons (e_add (e_mod (e_bty call_int1 ok_int T.b_int PyProof.Rows.Boot.int (a_cons (e_add (e_mul (e_mod (e_bty call_int1 ok_int T.b_int PyProof.Rows.Boot.int (a_cons (e_var (i := 2)) a_nil)) e_int) e_int) (e_mul e_int (e_var (i := 1)))) a_nil)) e_int) e_int) a_nil))))))))
abbrev x_law_take (K : Fg) (C : Cs) : WS := (wSeq (wIfS (wB (wOp wGt (wIxO 0 (wC (.int 0))) (wC (.int 0)))) (wSeq (wAsg 2 (wOp wMod (wCB wInt (wCons (wIxO 0 (wC (.int 0))) wNil)) (wVar 1))) (wSeq (wSetO 0 (wC (.int 0)) (wOp wDiv (wIxO 0 (wC (.int 0))) (wVar 1))) (wRet (wVar 2)))) wNext) (wSeq (wAsg 3 (wOp wMod (wCB wInt (wCons (wOp wAdd (wOp wMul (wIxO 0 (wC (.int 1))) (wC (.int 39373))) (wC (.int 331))) wNil)) (wC (.int 2147483647)))) (wSeq (wSetO 0 (wC (.int 1)) (wOp wAdd (wOp wMod (wCB wInt (wCons (wOp wAdd (wOp wMul (wVar 3) (wC (.int 40692))) (wC (.int 37))) wNil)) (wC (.int 2147483399))) (wC (.int 1)))) (wRet (wOp wMod (wCB wInt (wCons (wOp wDiv (wOp wAdd (wOp wMul (wVar 3) (wC (.int 2147483629))) (wIxO 0 (wC (.int 1)))) (wC (.int 8209))) wNil)) (wVar 1))))))
theorem dv_law_take (T : Txt P w K mg base t C)  (cdv : Value) (A : Around) (outer : List Env) (s : Shared) (H : Hp) (E : XK) (c : Cok (cxOf (L2.CX P w) P w K mg base ["box", "many", "digit", "raw"] "_law_take" (defScope (top 37)) C.f_law_take cdv A outer s H E) (wishOf E) 1) :
    PSs (cxOf (L2.CX P w) P w K mg base ["box", "many", "digit", "raw"] "_law_take" (defScope (top 37)) C.f_law_take cdv A outer s H E) (defBody (top 37)) (lS K (tb0 t) (wishOf E) (x_law_take K C)) := by
  exact (s_cons (s_if (t_gt (e_ixO (i := 0) e_int) e_int) (s_cons (s_set sc_law_take.nd 2 (e_mod (e_bty call_int1 ok_int T.b_int PyProof.Rows.Boot.int (a_cons (e_ixO (i := 0) e_int) a_nil)) (e_var (i := 1)))) (s_cons (s_setO1 0 e_int (e_div (e_ixO (i := 0) e_int) (e_var (i := 1)))) (s_one (s_ret (e_var (i := 2)))))) s_nil) (s_cons (s_set sc_law_take.nd 3 (e_mod (e_bty call_int1 ok_int T.b_int PyProof.Rows.Boot.int (a_cons (e_add (e_mul (e_ixO (i := 0) e_int) e_int) e_int) a_nil)) e_int)) (s_cons (s_setO1 0 e_int (e_add (e_mod (e_bty call_int1 ok_int T.b_int PyProof.Rows.Boot.int (a_cons (e_add (e_mul (e_var (i := 3)) e_int) e_int) a_nil)) e_int) e_int)) (s_one (s_ret (e_mod (e_bty call_int1 ok_int T.b_int PyProof.Rows.Boot.int (a_cons (e_div (e_add (e_mul (e_var (i := 3)) e_int) (e_ixO (i := 0) e_int)) e_int) a_nil)) (e_var (i := 1))))))))
abbrev x_law_pick (K : Fg) (C : Cs) : WS := (wRet (wOp wIx (wVar 1) (wCallB 0 1 (sp_law_take C) (wCons (wCB wLen (wCons (wVar 1) wNil)) wNil))))
theorem dv_law_pick (T : Txt P w K mg base t C) (G_law_take : FnG P w K mg base 2 C.f_law_take C.d_law_take ["box", "many"] (lSp K t 2 (sp_law_take C))) (U_law_take : Dn K mg "_law_take" C.f_law_take C.d_law_take ["box", "many"] 2) (cdv : Value) (A : Around) (outer : List Env) (s : Shared) (H : Hp) (E : XK) (c : Cok (cxOf (L2.CX P w) P w K mg base ["box", "some"] "_law_pick" (defScope (top 38)) C.f_law_pick cdv A outer s H E) (wishOf E) 2) :
    PSs (cxOf (L2.CX P w) P w K mg base ["box", "some"] "_law_pick" (defScope (top 38)) C.f_law_pick cdv A outer s H E) (defBody (top 38)) (lS K (tb0 t) (wishOf E) (x_law_pick K C)) := by
  exact (s_one (s_ret (e_ix (e_var (i := 1)) (e_callB c (i := 0) G_law_take U_law_take (a_cons (e_blt cr_lenD ok_len T.b_len PyProof.Rows.Boot.len (a_cons (e_var (i := 1)) a_nil)) a_nil)))))
abbrev x_law_tables (K : Fg) (C : Cs) : WS := (wSeq (wParO 1 2 (wCallB 0 1 (sp_law_pick C) (wCons (wLst (wCons (wC (.int 3)) (wCons (wC (.int 2)) (wCons (wC (.int 4)) (wCons (wC (.int 3)) (wCons (wC (.int 5)) (wCons (wC (.int 1)) wNil))))))) wNil)) (woLst wNil)) (wSeq (wFor (wiRg1 (wCons (wCallB 0 1 (sp_law_pick C) (wCons (wLst (wCons (wC (.int 2)) (wCons (wC (.int 2)) (wCons (wC (.int 1)) (wCons (wC (.int 3)) wNil))))) wNil)) wNil)) (wgName 3) (wSeq (wAsgG (wgTup 2 (wgCons (wgName 4) (wgCons (wgName 5) wgNil))) (wTup (wCons (wCallB 0 1 (sp_law_take C) (wCons (wC (.int 6)) wNil)) (wCons (wCallB 0 1 (sp_law_take C) (wCons (wVar 1) wNil)) wNil)))) (wIfS (wB (wOp (wEq false) (wVar 4) (wC (.int 0)))) (wApp 2 (wCB wTupOf (wCons (wLc (wiRg1 (wCons (wVar 1) wNil)) (wgName 7) wTrue (wOp wMod (wCB wInt (wCons (wOp wAdd (wOp wAdd (wVar 7) (wC (.int 1))) (wVar 5)) wNil)) (wVar 1)) [7]) wNil))) (wIfS (wB (wOp (wEq false) (wVar 4) (wC (.int 1)))) (wApp 2 (wCB wTupOf (wCons (wLc (wiRg1 (wCons (wVar 1) wNil)) (wgName 7) wTrue (wCB wMin2 (wCons (wOp wSub (wVar 1) (wC (.int 1))) (wCons (wOp wAdd (wVar 7) (wC (.int 1))) wNil))) [7]) wNil))) (wIfS (wB (wOp (wEq false) (wVar 4) (wC (.int 2)))) (wApp 2 (wCB wTupOf (wCons (wLc (wiRg1 (wCons (wVar 1) wNil)) (wgName 7) wTrue (wVar 5) [7]) wNil))) (wIfS (wB (wOp (wEq false) (wVar 4) (wC (.int 3)))) (wSeq (wAsg 6 (wCallB 0 1 (sp_law_take C) (wCons (wVar 1) wNil))) (wApp 2 (wCB wTupOf (wCons (wLc (wiRg1 (wCons (wVar 1) wNil)) (wgName 7) wTrue (wIf (wB (wOp (wEq false) (wVar 7) (wVar 5))) (wVar 6) (wIf (wB (wOp (wEq false) (wVar 7) (wVar 6))) (wVar 5) (wVar 7))) [7]) wNil)))) (wApp 2 (wCB wTupOf (wCons (wLc (wiRg1 (wCons (wVar 1) wNil)) (wgName 7) wTrue (wCallB 0 1 (sp_law_take C) (wCons (wVar 1) wNil)) [7]) wNil))))))))) (wRet (wVar 2))))
theorem dv_law_tables (T : Txt P w K mg base t C) (G_law_pick : FnG P w K mg base 3 C.f_law_pick C.d_law_pick ["box", "some"] (lSp K t 2 (sp_law_pick C))) (U_law_pick : Dn K mg "_law_pick" C.f_law_pick C.d_law_pick ["box", "some"] 2) (G_law_take : FnG P w K mg base 2 C.f_law_take C.d_law_take ["box", "many"] (lSp K t 2 (sp_law_take C))) (U_law_take : Dn K mg "_law_take" C.f_law_take C.d_law_take ["box", "many"] 2) (cdv : Value) (A : Around) (outer : List Env) (s : Shared) (H : Hp) (E : XK) (c : Cok (cxOf (L2.CX P w) P w K mg base ["box", "many", "found", "deed", "style", "by", "other", "s"] "_law_tables" (defScope (top 39)) C.f_law_tables cdv A outer s H E) (wishOf E) 3) :
    PSs (cxOf (L2.CX P w) P w K mg base ["box", "many", "found", "deed", "style", "by", "other", "s"] "_law_tables" (defScope (top 39)) C.f_law_tables cdv A outer s H E) (defBody (top 39)) (lS K (tb0 t) (wishOf E) (x_law_tables K C)) := by
  exact (s_cons (s_parG sc_law_tables.nd rfl 1 2 (e_callB c (i := 0) G_law_pick U_law_pick (a_cons (e_lst (a_cons e_int (a_cons e_int (a_cons e_int (a_cons e_int (a_cons e_int (a_cons e_int a_nil))))))) a_nil)) (o_lst a_nil)) (s_cons (s_for (passes_of rfl) rfl (i_rng1 T.b_range (a_cons (e_callB c (i := 0) G_law_pick U_law_pick (a_cons (e_lst (a_cons e_int (a_cons e_int (a_cons e_int (a_cons e_int a_nil))))) a_nil)) a_nil)) (g_nm sc_law_tables.nd 3) (s_cons (s_asg (e_tup (a_cons (e_callB c (i := 0) G_law_take U_law_take (a_cons e_int a_nil)) (a_cons (e_callB c (i := 0) G_law_take U_law_take (a_cons (e_var (i := 1)) a_nil)) a_nil))) (g_two sc_law_tables.nd rfl 4 5)) (s_one (s_if (t_eq c (e_var (i := 4)) e_int) (s_one (s_app 2 (e_bty call_tuple_of ok_tupOf T.b_tuple PyProof.Rows.Boot.tuple (a_cons (e_lc (own := [("s", 7)]) rfl sc_law_tables.nd (i_rng1 T.b_range (a_cons (e_var (i := 1)) a_nil)) (blk_ok (by kernel_rfl)) (fun _ _ _ _ _ => (g_c 7 sc_law_tables.nd)) (fun _ _ _ _ _ => f_nil) (fun _ _ _ _ _ => (e_mod (e_bty call_int1 ok_int T.b_int PyProof.Rows.Boot.int (a_cons (e_add (e_add (e_var (i := 7)) e_int) (e_var (i := 5))) a_nil)) (e_var (i := 1))))) a_nil)))) (s_one (s_if (t_eq c (e_var (i := 4)) e_int) (s_one (s_app 2 (e_bty call_tuple_of ok_tupOf T.b_tuple PyProof.Rows.Boot.tuple (a_cons (e_lc (own := [("s", 7)]) rfl sc_law_tables.nd (i_rng1 T.b_range (a_cons (e_var (i := 1)) a_nil)) (blk_ok (by kernel_rfl)) (fun _ _ _ _ _ => (g_c 7 sc_law_tables.nd)) (fun _ _ _ _ _ => f_nil) (fun _ _ _ _ _ => (e_blt (call_min2 rfl) ok_min2 T.b_min PyProof.Rows.Boot.min (a_cons (e_sub (e_var (i := 1)) e_int) (a_cons (e_add (e_var (i := 7)) e_int) a_nil))))) a_nil)))) (s_one (s_if (t_eq c (e_var (i := 4)) e_int) (s_one (s_app 2 (e_bty call_tuple_of ok_tupOf T.b_tuple PyProof.Rows.Boot.tuple (a_cons (e_lc (own := [("s", 7)]) rfl sc_law_tables.nd (i_rng1 T.b_range (a_cons (e_var (i := 1)) a_nil)) (blk_ok (by kernel_rfl)) (fun _ _ _ _ _ => (g_c 7 sc_law_tables.nd)) (fun _ _ _ _ _ => f_nil) (fun _ _ _ _ _ => (e_var (i := 5)))) a_nil)))) (s_one (s_if (t_eq c (e_var (i := 4)) e_int) (s_cons (s_set sc_law_tables.nd 6 (e_callB c (i := 0) G_law_take U_law_take (a_cons (e_var (i := 1)) a_nil))) (s_one (s_app 2 (e_bty call_tuple_of ok_tupOf T.b_tuple PyProof.Rows.Boot.tuple (a_cons (e_lc (own := [("s", 7)]) rfl sc_law_tables.nd (i_rng1 T.b_range (a_cons (e_var (i := 1)) a_nil)) (blk_ok (by kernel_rfl)) (fun _ _ _ _ _ => (g_c 7 sc_law_tables.nd)) (fun _ _ _ _ _ => f_nil) (fun _ _ _ _ _ => (e_if (t_eq (c.blk _ _ _ _ _) (e_var (i := 7)) (e_var (i := 5))) (e_var (i := 6)) (e_if (t_eq (c.blk _ _ _ _ _) (e_var (i := 7)) (e_var (i := 6))) (e_var (i := 5)) (e_var (i := 7)))))) a_nil))))) (s_one (s_app 2 (e_bty call_tuple_of ok_tupOf T.b_tuple PyProof.Rows.Boot.tuple (a_cons (e_lc (own := [("s", 7)]) rfl sc_law_tables.nd (i_rng1 T.b_range (a_cons (e_var (i := 1)) a_nil)) (blk_ok (by kernel_rfl)) (fun _ _ _ _ _ => (g_c 7 sc_law_tables.nd)) (fun _ _ _ _ _ => f_nil) (fun _ _ _ _ _ => (e_callB (c.blk _ _ _ _ _) (i := 0) G_law_take U_law_take (a_cons (e_var (i := 1)) a_nil)))) a_nil)))))))))))))) (s_one (s_ret (e_var (i := 2))))))
abbrev x_law_led (K : Fg) (C : Cs) : WS := (wSeq (wFor (wiSeq (wVar 2)) (wgName 3) (wAsg 1 (wOp wIx (wOp wIx (wVar 0) (wVar 3)) (wVar 1)))) (wRet (wVar 1)))
theorem dv_law_led (T : Txt P w K mg base t C)  (cdv : Value) (A : Around) (outer : List Env) (s : Shared) (H : Hp) (E : XK) (c : Cok (cxOf (L2.CX P w) P w K mg base ["tables", "state", "log", "deed"] "_law_led" (defScope (top 40)) C.f_law_led cdv A outer s H E) (wishOf E) 1) :
    PSs (cxOf (L2.CX P w) P w K mg base ["tables", "state", "log", "deed"] "_law_led" (defScope (top 40)) C.f_law_led cdv A outer s H E) (defBody (top 40)) (lS K (tb0 t) (wishOf E) (x_law_led K C)) := by
  exact (s_cons (s_for (passes_of rfl) rfl (i_seq (e_var (i := 2))) (g_nm sc_law_led.nd 3) (s_one (s_set sc_law_led.nd 1 (e_ix (e_ix (e_var (i := 0)) (e_var (i := 3))) (e_var (i := 1)))))) (s_one (s_ret (e_var (i := 1)))))
abbrev x_law_starts (K : Fg) (C : Cs) : WS := (wSeq (wIfS (wB (wOp wGt (wCallB 0 1 (sp_law_take C) (wCons (wC (.int 3)) wNil)) (wC (.int 0)))) (wRet (wRgL (wCons (wVar 1) wNil))) wNext) (wSeq (wAsg 2 (wLc (wiRg1 (wCons (wVar 1) wNil)) (wgName 3) (wB (wOp (wEq false) (wCallB 0 1 (sp_law_take C) (wCons (wC (.int 2)) wNil)) (wC (.int 0)))) (wVar 3) [3])) (wRet (wIf (wB (wOp (wEq true) (wVar 2) (wLst wNil))) (wVar 2) (wLst (wCons (wCallB 0 1 (sp_law_take C) (wCons (wVar 1) wNil)) wNil))))))
theorem dv_law_starts (T : Txt P w K mg base t C) (G_law_take : FnG P w K mg base 2 C.f_law_take C.d_law_take ["box", "many"] (lSp K t 2 (sp_law_take C))) (U_law_take : Dn K mg "_law_take" C.f_law_take C.d_law_take ["box", "many"] 2) (cdv : Value) (A : Around) (outer : List Env) (s : Shared) (H : Hp) (E : XK) (c : Cok (cxOf (L2.CX P w) P w K mg base ["box", "many", "found", "s"] "_law_starts" (defScope (top 41)) C.f_law_starts cdv A outer s H E) (wishOf E) 2) :
    PSs (cxOf (L2.CX P w) P w K mg base ["box", "many", "found", "s"] "_law_starts" (defScope (top 41)) C.f_law_starts cdv A outer s H E) (defBody (top 41)) (lS K (tb0 t) (wishOf E) (x_law_starts K C)) := by
  exact (s_cons (s_if (t_gt (e_callB c (i := 0) G_law_take U_law_take (a_cons e_int a_nil)) e_int) (s_one (s_ret (e_lstRg rfl T.b_list T.b_range (e_var (i := 1))))) s_nil) (s_cons (s_setLc 2 (own := [("s", 3)]) rfl sc_law_starts.nd (i_rng1 T.b_range (a_cons (e_var (i := 1)) a_nil)) (blk_ok (by kernel_rfl)) (fun _ _ _ _ _ => (g_c 3 sc_law_starts.nd)) (fun _ _ _ _ _ => (f_one (t_eq (c.blk _ _ _ _ _) (e_callB (c.blk _ _ _ _ _) (i := 0) G_law_take U_law_take (a_cons e_int a_nil)) e_int))) (fun _ _ _ _ _ => (e_var (i := 3)))) (s_one (s_ret (e_if (t_ne c (e_var (i := 2)) (e_lst a_nil)) (e_var (i := 2)) (e_lst (a_cons (e_callB c (i := 0) G_law_take U_law_take (a_cons (e_var (i := 1)) a_nil)) a_nil)))))))
abbrev x_law_copies_right (K : Fg) (C : Cs) : WS := (wSeq (wFor (wiSeq (wVar 4)) (wgTup 3 (wgCons (wgName 5) (wgCons (wgName 6) (wgCons (wgName 7) wgNil)))) (wSeq (wAsg 8 (wMethV C.LogNote "read" 2 (sp_LogNote_read C) [.tup []] (wVar 0) (wCons (wVar 5) (wCons (wVar 6) wNil)))) (wFor (wiSeq (wVar 2)) (wgName 9) (wIfS (wAnd (wB (wOp (wEq false) (wCallA 3 0 (sp_law_led C) (fun ds _ => ds) (wCons (wVar 1) (wCons (wVar 9) (wCons (wSl (wVar 3) woNone (woSome (wVar 7))) wNil))) wNil) (wVar 5))) (wB (wOp (wEq true) (wCallA 3 0 (sp_law_led C) (fun ds _ => ds) (wCons (wVar 1) (wCons (wVar 9) (wCons (wVar 3) wNil))) wNil) (wVar 8)))) (wRet (wC (.bl false))) wNext)))) (wRet (wC (.bl true))))
theorem dv_law_copies_right (T : Txt P w K mg base t C) (kd_LogNote_read : ∃ ds, Vals [V.ref C.dt_LogNote_read] ds ∧ Binds K C.d_LogNote_read ["self", "state", "mark", "later"] ds) (G_LogNote_read : FnG P w K mg base 8 C.f_LogNote_read C.d_LogNote_read ["self", "state", "mark", "later"] (lSp K t 4 (sp_LogNote_read C))) (G_law_led : FnG P w K mg base 2 C.f_law_led C.d_law_led ["tables", "state", "log"] (lSp K t 3 (sp_law_led C))) (U_law_led : Dn K mg "_law_led" C.f_law_led C.d_law_led ["tables", "state", "log"] 3) (cdv : Value) (A : Around) (outer : List Env) (s : Shared) (H : Hp) (E : XK) (c : Cok (cxOf (L2.CX P w) P w K mg base ["note", "tables", "starts", "log", "copies", "state", "mark", "age", "now", "s"] "_law_copies_right" (defScope (top 42)) C.f_law_copies_right cdv A outer s H E) (wishOf E) 9) :
    PSs (cxOf (L2.CX P w) P w K mg base ["note", "tables", "starts", "log", "copies", "state", "mark", "age", "now", "s"] "_law_copies_right" (defScope (top 42)) C.f_law_copies_right cdv A outer s H E) (defBody (top 42)) (lS K (tb0 t) (wishOf E) (x_law_copies_right K C)) := by
  exact (s_cons (s_for (passes_of rfl) rfl (i_seq (e_var (i := 4))) (g_three sc_law_copies_right.nd rfl 5 6 7) (s_cons (s_set sc_law_copies_right.nd 8 (e_methVD c T.cl_LogNote T.me_LogNote_read G_LogNote_read kd_LogNote_read T.kt_LogNote_read (e_var (i := 0)) (a_cons (e_var (i := 5)) (a_cons (e_var (i := 6)) a_nil)))) (s_one (s_for (passes_of rfl) rfl (i_seq (e_var (i := 2))) (g_nm sc_law_copies_right.nd 9) (s_one (s_if (t_pw (q_and (t_eq c (e_call c G_law_led U_law_led (a_cons (e_var (i := 1)) (a_cons (e_var (i := 9)) (a_cons (e_slice (e_var (i := 3)) s_none (s_some (e_var (i := 7)))) a_nil)))) (e_var (i := 5))) (q_and1 (t_ne c (e_call c G_law_led U_law_led (a_cons (e_var (i := 1)) (a_cons (e_var (i := 9)) (a_cons (e_var (i := 3)) a_nil)))) (e_var (i := 8)))))) (s_one (s_ret e_bl)) s_nil)))))) (s_one (s_ret e_bl)))
abbrev x_law (K : Fg) (C : Cs) : WS := (wSeq (wAsgO 1 (woCall 2 (so_law_box C) (wCons (wVar 0) (wCons (wC (.int 0)) wNil)))) (wSeq (wAsg 2 (wCallB 1 0 (sp_law_tables C) wNil)) (wSeq (wAsgG (wgTup 2 (wgCons (wgName 3) (wgCons (wgName 4) wgNil))) (wTup (wCons (wCB wLen (wCons (wOp wIx (wVar 2) (wC (.int 0))) wNil)) (wCons (wCallB 1 1 (sp_law_starts C) (wCons (wCB wLen (wCons (wOp wIx (wVar 2) (wC (.int 0))) wNil)) wNil)) wNil)))) (wSeq (wParM3 5 6 7 (mOwn (woMake C.LogNote 1 1 (sp_LogNote_init C) (kf_1_0 D.non) (wCons (wMake C.Machine 1 0 (sp_Machine_init C) (fun ds _ => ds) (wCons (wVar 2) wNil) wNil) wNil) (wCons (wVar 4) wNil)) (mVal (wTup wNil) (mOwn (woLst wNil) mNil)))) (wSeq (wFor (wiRg2 (wCons (wC (.int 1)) (wCons (wCB wMax2 (wCons (wC (.int 12)) (wCons (wCB wMin2 (wCons (wCB wLen (wCons (wVar 0) wNil)) (wCons (wC (.int 40)) wNil))) wNil))) wNil))) (wgName 8) (wSeq (wAsgO 1 (woCall 2 (so_law_box C) (wCons (wVar 0) (wCons (wVar 8) wNil)))) (wSeq (wFor (wiRg1 (wCons (wCallB 1 1 (sp_law_take C) (wCons (wC (.int 4)) wNil)) wNil)) (wgName 9) (wSeq (wAsg 10 (wCallB 1 1 (sp_law_pick C) (wCons (wCB wLstOf (wCons (wFldO C.LogNote "possible" 5) wNil)) wNil))) (wApp 7 (wTup (wCons (wVar 10) (wCons (wLend (wMethV C.LogNote "mark" 1 (sp_LogNote_mark C) [] (wVar 5) (wCons (wVar 10) wNil))) (wCons (wCB wLen (wCons (wVar 6) wNil)) wNil))))))) (wSeq (wIfS (wAnd (wLendT (wB (wOp (wEq true) (wVar 7) (wLst wNil)))) (wB (wOp (wEq false) (wCallB 1 1 (sp_law_take C) (wCons (wC (.int 3)) wNil)) (wC (.int 0))))) (wDrop (wPopO 7 (wCallB 1 1 (sp_law_take C) (wCons (wLenO 7) wNil)))) wNext) (wSeq (wIfS (wNot (wB (wLend (wCallA 5 0 (sp_law_copies_right C) (fun ds _ => ds) (wCons (wVar 5) (wCons (wVar 2) (wCons (wVar 4) (wCons (wVar 6) (wCons (wVar 7) wNil))))) wNil)))) (wRet (wC (.bl false))) wNext) (wSeq (wIfS (wB (wOp (wEq true) (wLc (wiSeq (wFldO C.LogNote "rows" 5)) (wgName 16) (wB (wOp wGt (wCB wLen (wCons (wVar 16) wNil)) (wCB wLen (wCons (wVar 4) wNil)))) (wVar 16) [16]) (wLst wNil))) (wRet (wC (.bl false))) wNext) (wSeq (wAsg 11 (wCallB 1 1 (sp_law_take C) (wCons (wCB wLen (wCons (wVar 2) wNil)) wNil))) (wSeq (wDrop (wMeth 5 C.LogNote "put" 1 (sp_LogNote_put C) (wCons (wVar 11) wNil))) (wAsg 6 (wOp wAdd (wVar 6) (wTup (wCons (wVar 11) wNil)))))))))))) (wSeq (wAsgO 12 woDicT) (wSeq (wFor (wiSeq (wVar 7)) (wgTup 3 (wgCons (wgName 10) (wgCons (wgName 13) (wgCons (wgName 14) wgNil)))) (wSeq (wAsg 15 (wCallA 3 0 (sp_law_led C) (fun ds _ => ds) (wCons (wVar 2) (wCons (wVar 10) (wCons (wSl (wVar 6) (woSome (wVar 14)) woNone) wNil))) wNil)) (wSeq (wIfS (wOr (wB (wOp (wEq true) (wGetT 12 (wTup (wCons (wVar 10) (wCons (wVar 13) wNil))) (wVar 15)) (wVar 15))) (wB (wOp (wEq true) (wLend (wMethV C.LogNote "read" 2 (sp_LogNote_read C) [.tup []] (wVar 5) (wCons (wVar 10) (wCons (wVar 13) wNil)))) (wVar 15)))) (wRet (wC (.bl false))) wNext) (wPutT 12 (wTup (wCons (wVar 10) (wCons (wVar 13) wNil))) (wVar 15))))) (wRet (wC (.bl true))))))))))
theorem dv_law (T : Txt P w K mg base t C) (kd_LogNote_read : ∃ ds, Vals [V.ref C.dt_LogNote_read] ds ∧ Binds K C.d_LogNote_read ["self", "state", "mark", "later"] ds) (G_LogNote_init : FnG P w K mg base 6 C.f_LogNote_init C.d_LogNote_init ["self", "machine", "starts"] (lSp K t 3 (sp_LogNote_init C))) (G_LogNote_mark : FnG P w K mg base 5 C.f_LogNote_mark C.d_LogNote_mark ["self", "state"] (lSp K t 2 (sp_LogNote_mark C))) (K_LogNote_mark : KBn K C.d_LogNote_mark ["self", "state"] 2 [] (fun us _ => us) (fun us _ => us)) (G_LogNote_put : FnG P w K mg base 5 C.f_LogNote_put C.d_LogNote_put ["self", "deed"] (lSp K t 2 (sp_LogNote_put C))) (K_LogNote_put : KBn K C.d_LogNote_put ["self", "deed"] 2 [] (fun us _ => us) (fun us _ => us)) (G_LogNote_read : FnG P w K mg base 8 C.f_LogNote_read C.d_LogNote_read ["self", "state", "mark", "later"] (lSp K t 4 (sp_LogNote_read C))) (G_Machine_init : FnG P w K mg base 7 C.f_Machine_init C.d_Machine_init ["self", "tables"] (lSp K t 2 (sp_Machine_init C))) (K_Machine_init : KBn K C.d_Machine_init ["self", "tables"] 2 [] (fun us _ => us) (fun us _ => us)) (kx_LogNote_init_2_0 : KBn K C.d_LogNote_init ["self", "machine", "starts"] 2 ["starts"] (kf_2_0 Value.none) (kf_2_0 V.non)) (G_law_box : FnG P w K mg base 2 C.f_law_box C.d_law_box ["script", "k"] (lSpO K t 2 (so_law_box C))) (U_law_box : Dn K mg "_law_box" C.f_law_box C.d_law_box ["script", "k"] 2) (G_law_copies_right : FnG P w K mg base 10 C.f_law_copies_right C.d_law_copies_right ["note", "tables", "starts", "log", "copies"] (lSp K t 5 (sp_law_copies_right C))) (U_law_copies_right : Dn K mg "_law_copies_right" C.f_law_copies_right C.d_law_copies_right ["note", "tables", "starts", "log", "copies"] 5) (G_law_led : FnG P w K mg base 2 C.f_law_led C.d_law_led ["tables", "state", "log"] (lSp K t 3 (sp_law_led C))) (U_law_led : Dn K mg "_law_led" C.f_law_led C.d_law_led ["tables", "state", "log"] 3) (G_law_pick : FnG P w K mg base 3 C.f_law_pick C.d_law_pick ["box", "some"] (lSp K t 2 (sp_law_pick C))) (U_law_pick : Dn K mg "_law_pick" C.f_law_pick C.d_law_pick ["box", "some"] 2) (G_law_starts : FnG P w K mg base 3 C.f_law_starts C.d_law_starts ["box", "many"] (lSp K t 2 (sp_law_starts C))) (U_law_starts : Dn K mg "_law_starts" C.f_law_starts C.d_law_starts ["box", "many"] 2) (G_law_tables : FnG P w K mg base 4 C.f_law_tables C.d_law_tables ["box"] (lSp K t 1 (sp_law_tables C))) (U_law_tables : Dn K mg "_law_tables" C.f_law_tables C.d_law_tables ["box"] 1) (G_law_take : FnG P w K mg base 2 C.f_law_take C.d_law_take ["box", "many"] (lSp K t 2 (sp_law_take C))) (U_law_take : Dn K mg "_law_take" C.f_law_take C.d_law_take ["box", "many"] 2) (cdv : Value) (A : Around) (outer : List Env) (s : Shared) (H : Hp) (E : XK) (c : Cok (cxOf (L2.CX P w) P w K mg base ["script", "box", "tables", "many", "starts", "note", "log", "copies", "k", "turn", "state", "deed", "ends", "mark", "age", "end", "row"] "law" (defScope (top 43)) C.f_law cdv A outer s H E) (wishOf E) 10) :
    PSs (cxOf (L2.CX P w) P w K mg base ["script", "box", "tables", "many", "starts", "note", "log", "copies", "k", "turn", "state", "deed", "ends", "mark", "age", "end", "row"] "law" (defScope (top 43)) C.f_law cdv A outer s H E) (defBody (top 43)) (lS K (tb0 t) (wishOf E) (x_law K C)) := by
  exact (s_cons (s_setO sc_law.nd 1 (o_call c G_law_box U_law_box (a_cons (e_var (i := 0)) (a_cons e_int a_nil)))) (s_cons (s_set sc_law.nd 2 (e_callB c (i := 1) G_law_tables U_law_tables a_nil)) (s_cons (s_asg (e_tup (a_cons (e_blt cr_lenD ok_len T.b_len PyProof.Rows.Boot.len (a_cons (e_ix (e_var (i := 2)) e_int) a_nil)) (a_cons (e_callB c (i := 1) G_law_starts U_law_starts (a_cons (e_blt cr_lenD ok_len T.b_len PyProof.Rows.Boot.len (a_cons (e_ix (e_var (i := 2)) e_int) a_nil)) a_nil)) a_nil))) (g_two sc_law.nd rfl 3 4)) (s_cons (s_parM3 sc_law.nd rfl 5 6 7 (m_own (o_make c T.mk_LogNote G_LogNote_init T.LogNote kx_LogNote_init_2_0 gf_1_0 (fun v vs zs h1 h2 => match vs, zs, h1, h2 with | [_], [_], _, _ => rfl) (a_cons (e_make c T.mk_Machine G_Machine_init T.Machine K_Machine_init (a_cons (e_var (i := 2)) a_nil)) a_nil) (k_cons (e_var (i := 4)) k_nil)) (m_val (e_tup a_nil) (m_own (o_lst a_nil) m_nil))) rfl) (s_cons (s_for (passes_of rfl) rfl (i_rng2 T.b_range (a_cons e_int (a_cons (e_blt (call_max2 rfl) ok_max2 T.b_max PyProof.Rows.Boot.max (a_cons e_int (a_cons (e_blt (call_min2 rfl) ok_min2 T.b_min PyProof.Rows.Boot.min (a_cons (e_blt cr_lenD ok_len T.b_len PyProof.Rows.Boot.len (a_cons (e_var (i := 0)) a_nil)) (a_cons e_int a_nil))) a_nil))) a_nil))) (g_nm sc_law.nd 8) (s_cons (s_setO sc_law.nd 1 (o_call c G_law_box U_law_box (a_cons (e_var (i := 0)) (a_cons (e_var (i := 8)) a_nil)))) (s_cons (s_for (passes_of rfl) rfl (i_rng1 T.b_range (a_cons (e_callB c (i := 1) G_law_take U_law_take (a_cons e_int a_nil)) a_nil)) (g_nm sc_law.nd 9) (s_cons (s_set sc_law.nd 10 (e_callB c (i := 1) G_law_pick U_law_pick (a_cons (e_bty call_list_of ok_lstOf T.b_list PyProof.Rows.Boot.list (a_cons (e_fldO (i := 5) T.cl_LogNote T.na_LogNote_possible) a_nil)) a_nil))) (s_one (s_app 7 (e_tup (a_cons (e_var (i := 10)) (a_cons (e_lend (e_methV c T.cl_LogNote T.me_LogNote_mark G_LogNote_mark K_LogNote_mark (e_var (i := 5)) (a_cons (e_var (i := 10)) a_nil))) (a_cons (e_blt cr_lenD ok_len T.b_len PyProof.Rows.Boot.len (a_cons (e_var (i := 6)) a_nil)) a_nil)))))))) (s_cons (s_if (t_pw (q_and (t_lend (t_ne c (e_var (i := 7)) (e_lst a_nil))) (q_and1 (t_eq c (e_callB c (i := 1) G_law_take U_law_take (a_cons e_int a_nil)) e_int)))) (s_one (s_drop (e_popO (i := 7) (e_callB c (i := 1) G_law_take U_law_take (a_cons (e_lenO (i := 7) T.b_len) a_nil))))) s_nil) (s_cons (s_if (t_not (t_val (e_lend (e_call c G_law_copies_right U_law_copies_right (a_cons (e_var (i := 5)) (a_cons (e_var (i := 2)) (a_cons (e_var (i := 4)) (a_cons (e_var (i := 6)) (a_cons (e_var (i := 7)) a_nil))))))))) (s_one (s_ret e_bl)) s_nil) (s_cons (s_if (t_ne c (e_lc (own := [("row", 16)]) rfl sc_law.nd (i_seq (e_fldO (i := 5) T.cl_LogNote T.na_LogNote_rows)) (blk_ok (by kernel_rfl)) (fun _ _ _ _ _ => (g_c 16 sc_law.nd)) (fun _ _ _ _ _ => (f_one (t_gt (e_blt cr_lenD ok_len T.b_len PyProof.Rows.Boot.len (a_cons (e_var (i := 16)) a_nil)) (e_blt cr_lenD ok_len T.b_len PyProof.Rows.Boot.len (a_cons (e_var (i := 4)) a_nil))))) (fun _ _ _ _ _ => (e_var (i := 16)))) (e_lst a_nil)) (s_one (s_ret e_bl)) s_nil) (s_cons (s_set sc_law.nd 11 (e_callB c (i := 1) G_law_take U_law_take (a_cons (e_blt cr_lenD ok_len T.b_len PyProof.Rows.Boot.len (a_cons (e_var (i := 2)) a_nil)) a_nil))) (s_cons (s_drop (e_meth (i := 5) c T.cl_LogNote T.me_LogNote_put G_LogNote_put K_LogNote_put (a_cons (e_var (i := 11)) a_nil))) (s_one (s_set sc_law.nd 6 (e_add (e_var (i := 6)) (e_tup (a_cons (e_var (i := 11)) a_nil))))))))))))) (s_cons (s_setO sc_law.nd 12 o_dicT) (s_cons (s_for (passes_of rfl) rfl (i_seq (e_var (i := 7))) (g_three sc_law.nd rfl 10 13 14) (s_cons (s_set sc_law.nd 15 (e_call c G_law_led U_law_led (a_cons (e_var (i := 2)) (a_cons (e_var (i := 10)) (a_cons (e_slice (e_var (i := 6)) (s_some (e_var (i := 14))) s_none) a_nil))))) (s_cons (s_if (t_pw (q_or (t_ne c (e_getT (i := 12) c (e_tup (a_cons (e_var (i := 10)) (a_cons (e_var (i := 13)) a_nil))) (e_var (i := 15)) ⟨rfl, rfl, rfl, rfl⟩) (e_var (i := 15))) (q_or1 (t_ne c (e_lend (e_methVD c T.cl_LogNote T.me_LogNote_read G_LogNote_read kd_LogNote_read T.kt_LogNote_read (e_var (i := 5)) (a_cons (e_var (i := 10)) (a_cons (e_var (i := 13)) a_nil)))) (e_var (i := 15)))))) (s_one (s_ret e_bl)) s_nil) (s_one (s_putT c 12 (e_tup (a_cons (e_var (i := 10)) (a_cons (e_var (i := 13)) a_nil))) (e_var (i := 15))))))) (s_one (s_ret e_bl)))))))))
end
end K32
set_option Elab.async false
set_option autoImplicit false
set_option linter.all false
set_option maxRecDepth 100000
set_option maxHeartbeats 3900000
namespace K32
open DL L2 PyProof.Rows PySem PySem.Spec
def subT (a b : String) : Bool := decide (a = b) || (decide (a = "bool") && decide (b = "int"))
theorem is_ty {K : Fg} {x : D} {t n : String} {Φ : D → Prop} (h : tyN x = some t) (hn : n ∈ ["int", "bool", "str", "list", "tuple"]) (q : Φ (.bl (subT t n))) : wIsI K [x, .raw (.ty n)] Φ := by
  have go : ∀ b, PySem.W.kitOne K (.type t) (.type n) = some b → subT t n = b → DTy K x (.type t) → wIsI K [x, .raw (.ty n)] Φ := fun b h1 h2 h3 => ⟨.type n, .type t, b, .ty n, h3, h1, h2 ▸ q⟩
  simp only [List.mem_cons, List.not_mem_nil, or_false] at hn
  cases x <;> cases h <;> rcases hn with rfl | rfl | rfl | rfl | rfl <;> first | exact go true (by kernel_rfl) (by decide) (by constructor) | exact go false (by kernel_rfl) (by decide) (by constructor)
theorem is_seq {K : Fg} {x : D} {Φ : D → Prop} (h : plain x) (q : Φ (.bl (seqD x).isSome)) : wIsT K [x, .tup [.raw (.ty "list"), .raw (.ty "tuple")]] Φ := by
  have go : ∀ (t : String) b, PySem.W.kitAny K (.type t) [.type "list", .type "tuple"] = some b → (seqD x).isSome = b → DTy K x (.type t) → wIsT K [x, .tup [.raw (.ty "list"), .raw (.ty "tuple")]] Φ := fun t b h1 h2 h3 =>
    ⟨_, [.type "list", .type "tuple"], .type t, b, List.cons_ne_nil _ _, .cons _ (.cons _ .nil), .cons (.ty _) (.cons (.ty _) .nil), h3, h1, h2 ▸ q⟩
  cases x <;> first
    | exact go _ true (by kernel_rfl) rfl (by constructor)
    | exact go _ false (by kernel_rfl) rfl (by constructor)
    | (cases h)
theorem none_of {α β : Type} {h : Option α} {f : α → β} (e : h.map f = none) : h = none := by cases h <;> first | rfl | cases e
section
variable {K : Fg} {C : Cs}
/-- the sem of a def that owns nothing -/
abbrev Sem0 (n m : Nat) (sp : Spc) (x : WS) : Prop := ∀ hl ds Ψ Ξ, (args hl ds).length = n → sp (hl.map (·.2)) ds Ψ Ξ → x (args hl ds ++ List.replicate (m - n) .un) (dEnds hl Ψ Ξ)
theorem m_is_integer : Sem0 1 1 (sp_is_integer C) (x_is_integer K C) := by
  rintro hl ds Ψ Ξ - ⟨h, x, rfl, hp, q⟩
  cases none_of h
  obtain ⟨t, ht⟩ := Option.isSome_iff_exists.mp hp
  simp only [x_is_integer, wRet, wAndV, wCB, wCons, wVar, wNil, wC, wNotV, args, List.map, List.nil_append, List.cons_append, List.getElem?_cons_zero]
  refine is_ty ht (by decide) ?_
  cases x <;> cases ht <;> first
    | exact q
    | (show if subT "int" "int" = true then _ else _; rw [if_pos (by decide)]; refine is_ty (t := "int") rfl (by decide) ?_; exact q)
    | (show if subT "bool" "int" = true then _ else _; rw [if_pos (by decide)]; refine is_ty (t := "bool") rfl (by decide) ?_; exact q)
theorem m_is_below : Sem0 2 2 (sp_is_below C) (x_is_below K C) := by
  rintro hl ds Ψ Ξ - ⟨h, x, m, rfl, hp, q⟩
  cases none_of h
  refine ⟨rfl, rfl, rfl, x, rfl, hp, ?_⟩
  cases x <;> first | exact q | skip
  rename_i v
  show if (decide (0 ≤ v)) = true then _ else _
  replace q : Ψ (.bl (decide (0 ≤ v) && decide (v < m))) none := q
  cases h : decide (0 ≤ v) <;> rw [h] at q <;> exact q
theorem m_is_sequence : Sem0 1 1 (sp_is_sequence C) (x_is_sequence K C) := by
  rintro hl ds Ψ Ξ - ⟨h, x, rfl, hp, q⟩
  cases none_of h
  simp only [x_is_sequence, wRet, wCB, wCons, wVar, wNil, wC, wTup, args, List.map, List.nil_append, List.cons_append, List.getElem?_cons_zero]
  refine ⟨show 2 ≤ sizeLine by decide, is_seq hp ?_⟩
  exact q
theorem m_fault_place : Sem0 2 4 (sp_fault_place C) (x_fault_place K C) := by
  rintro hl ds Ψ Ξ - ⟨h, x, xs, m, rfl, hx, hp, q⟩
  cases none_of h
  have loop : ∀ (xs : List D) (i : Nat) (a b : Sl), (∀ y ∈ xs, plain y) → Ψ (faultD m xs i) none →
      wForL (wgTup 2 (wgCons (wgName 2) (wgCons (wgName 3) wgNil))) (wIfS (wNot (wB (wCallA 2 0 (sp_is_below C) (fun ds _ => ds) (wCons (wVar 3) (wCons (wVar 1) wNil)) wNil))) (wRet (wVar 2)) wNext)
        ((xs.zipIdx i).map fun p => .tup [.int (p.2 : Nat), p.1]) [.val x, .val (.int m), a, b] { dEnds none Ψ Ξ with nx := fun ρ => (dEnds none Ψ Ξ).rt .non ρ } := by
    intro xs
    induction xs with
    | nil => intro i a b _ q; exact q
    | cons y ys ih =>
      intro i a b hp q
      refine ⟨rfl, rfl, rfl, rfl, rfl, y, m, rfl, hp y List.mem_cons_self, ?_⟩
      show if (!belowD y m) = true then _ else _
      unfold faultD at q
      cases hb : belowD y m <;> rw [hb] at q
      · exact q
      · exact ih (i + 1) _ _ (fun z hz => hp z (List.mem_cons_of_mem _ hz)) q
  have := loop xs 0 .un .un hp q
  cases x <;> cases hx <;> exact this
theorem seq_cases {x : D} {xs : List D} (h : seqD x = some xs) : x = .lst xs ∨ x = .tup xs := by cases x <;> cases h <;> simp
theorem eqF_ints {a b : Int} {Φ : D → Prop} (q : Φ (.bl (decide (a = b)))) : wEq false (.int a) (.int b) Φ := ⟨.int a, .int b, rfl, rfl, rfl, rfl, by
  have : PyData.eqv (.int a) (.int b) = decide (a = b) := by simp [PyData.eqv, Bool.beq_eq_decide_eq]
  rw [this]; exact q⟩
end
end K32
set_option Elab.async false
set_option autoImplicit false
set_option linter.all false
set_option maxRecDepth 100000
set_option maxHeartbeats 3900000
namespace K32
open DL L2 PyProof.Rows PySem PySem.Spec
section
variable {K : Fg} {C : Cs}
theorem fault_is (m : Int) : ∀ (xs : List D) (i : Nat), (faultD m xs i = .non ∧ isNo (faultD m xs i) = true ∧ DL.isNon (faultD m xs i) = some true) ∨ ∃ j : Nat, faultD m xs i = .int j ∧ isNo (faultD m xs i) = false ∧ DL.isNon (faultD m xs i) = some false
  | [], i => .inl ⟨rfl, rfl, rfl⟩
  | x :: xs, i => by
    unfold faultD
    split
    · exact fault_is m xs (i + 1)
    · exact .inr ⟨i, rfl, rfl, rfl⟩
theorem m_is_table : Sem0 1 1 (sp_is_table C) (x_is_table K C) := by
  rintro hl ds Ψ Ξ - ⟨h, x, rfl, hp, q⟩
  cases none_of h
  simp only [x_is_table, wSeq, wNext, wBreak, wCont, wAsg, wRet, wRetN, wDrop, wIfS, wRetO, wgName, wgNil, wgCons, wgTup, wAsgG, wOp, wUn, wCB, wC, wVar, wNil, wCons, wTup, wLst, wB, wAnd, wOr, wNot, wAndV, wOrV, wNotV, wIf, wChain, wAdd, wSub, wMul, wMod, wDiv, wPow, wCmp, wIsN, DL.isNon, wLen, wAbs, wMin2, wMax2, wInt, wFld, wFldO, wM1, wCallA, wCallB, wMake, wRaise, wNeg, wIxO, wLenO, wApp, wSetO, wFset, wPar, wParO, wAsgO, woLst, woCall, wFor, wiSeq, wiRg1, wiEnum, dEnds, outs, args, List.getElem?_cons_zero, List.getElem?_cons_succ, List.nil_append, List.cons_append, List.map_cons, List.map_nil, List.set_cons_zero, List.set_cons_succ, List.append_nil, List.replicate_zero, List.replicate_succ, Option.map_none, Option.map_some, List.length_cons, List.length_nil, sp_is_sequence, sp_fault_place]
  refine ⟨trivial, trivial, trivial, x, rfl, hp.1, ?_⟩
  cases hx : seqD x with
  | none => simp only [isTab, hx] at q; simpa using q
  | some xs =>
    have hpl := hp.2 xs hx
    simp only [isTab, hx] at q
    obtain rfl | rfl := seq_cases hx
    all_goals
      simp
      split
      · rename_i h1
        split
        · rename_i h2
          have e : decide (xs.length ≤ 12) = false := decide_eq_false (by omega)
          simp only [e, Bool.and_false, Bool.false_and] at q; exact q
        · rename_i h2
          have e1 : decide (1 ≤ xs.length) = true := decide_eq_true (by omega)
          have e2 : decide (xs.length ≤ 12) = true := decide_eq_true (by omega)
          rw [e1, e2] at q
          refine ⟨_, xs, _, ⟨rfl, rfl⟩, rfl, hpl, ?_⟩
          rcases fault_is (xs.length : Int) xs 0 with ⟨-, a, b⟩ | ⟨j, -, a, b⟩ <;> rw [a] at q
          · exact .inr ⟨b, q⟩
          · exact .inl ⟨b, q⟩
      · rename_i h1
        have e : decide (1 ≤ xs.length) = false := decide_eq_false (by omega)
        simp only [e, Bool.false_and] at q; exact q
/-- a comprehension, item by item -/
theorem lc_gen {i : Nat} {we : WE} {vs : List Nat} {R : Rho → Prop} {P : D → D → Prop} {Φ : List D → Rho → Prop} : ∀ (ds acc : List D) (ρ : Rho), R ρ → acc.length + ds.length ≤ sizeLine →
    (∀ d ∈ ds, ∀ ρ' (Ψ : D → Rho → Prop), R ρ' → (∀ y ρ3, P d y → R (wipeR ρ3 vs) → Ψ y ρ3) → we (ρ'.set i (.val d)) χ0 Ψ) → (∀ ys ρ', Paired P ds ys → R ρ' → Φ (acc ++ ys) ρ') → wLcL (wgName i) wTrue we vs ds acc ρ Φ
  | [], acc, ρ, hR, _, _, hΦ => by
    have := hΦ [] ρ .nil hR
    rw [List.append_nil] at this
    exact this
  | d :: ds, acc, ρ, hR, hl, hs, hΦ => by
    simp only [wLcL, wgName, wTrue, ↓reduceIte]
    refine hs d List.mem_cons_self ρ _ hR fun y ρ3 hy h3 => ⟨by simp only [List.length_cons] at hl; omega, ?_⟩
    refine lc_gen ds (acc ++ [y]) _ h3 (by simp only [List.length_append, List.length_cons, List.length_nil] at hl ⊢; omega) (fun d' hd' => hs d' (List.mem_cons_of_mem _ hd')) fun ys ρ' h1 h2 => ?_
    rw [List.append_assoc]
    exact hΦ (y :: ys) ρ' (.cons hy h1) h2
theorem paired_map {f : D → D} : ∀ {ds ys : List D}, Paired (fun d y => y = f d) ds ys → ys = ds.map f
  | _, _, .nil => rfl
  | _, _, .cons h t => by rw [h, paired_map t]; rfl
theorem lc_map {i : Nat} {we : WE} {vs : List Nat} {R : Rho → Prop} {Φ : List D → Rho → Prop} (f : D → D) (ds : List D) (ρ : Rho) (hR : R ρ) (hl : ds.length ≤ sizeLine)
    (hs : ∀ d ∈ ds, ∀ ρ' (Ψ : D → Rho → Prop), R ρ' → (∀ ρ3, R (wipeR ρ3 vs) → Ψ (f d) ρ3) → we (ρ'.set i (.val d)) χ0 Ψ) (hΦ : ∀ ρ', R ρ' → Φ (ds.map f) ρ') : wLcL (wgName i) wTrue we vs ds [] ρ Φ :=
  lc_gen (P := fun d y => y = f d) ds [] ρ hR (by simpa using hl) (fun d hd ρ' Ψ h1 h2 => hs d hd ρ' Ψ h1 fun ρ3 h3 => h2 _ ρ3 rfl h3) fun ys ρ' h1 h2 => by rw [List.nil_append, paired_map h1]; exact hΦ ρ' h2
theorem big : 1000000 ≤ sizeLine := by rw [sizeLine_eq]; omega
theorem len_lst (x : D) (xs : List D) (h : seqD x = some xs) {Φ : D → Prop} (q : Φ (.int xs.length)) : wLen [x] Φ := by obtain rfl | rfl := seq_cases h <;> exact q
theorem tab_seq {x : D} (h : isTab x = true) : ∃ xs, seqD x = some xs := by
  unfold isTab at h
  cases hx : seqD x with
  | none => rw [hx] at h; cases h
  | some xs => exact ⟨xs, rfl⟩
theorem eq_ints {a b : Int} {Φ : D → Prop} (q : Φ (.bl (!decide (a = b)))) : wEq true (.int a) (.int b) Φ := ⟨.int a, .int b, rfl, rfl, rfl, rfl, by
  have : PyData.eqv (.int a) (.int b) = decide (a = b) := by simp [PyData.eqv, Bool.beq_eq_decide_eq]
  rw [this]; exact q⟩
theorem m_check_tables : Sem0 1 3 (sp_check_tables C) (x_check_tables K C) := by
  rintro hl ds Ψ Ξ - ⟨h, x, rfl, hp, q⟩
  cases none_of h
  simp only [x_check_tables, wSeq, wNext, wBreak, wCont, wAsg, wRet, wRetN, wDrop, wIfS, wRetO, wgName, wgNil, wgCons, wgTup, wAsgG, wOp, wUn, wCB, wC, wVar, wNil, wCons, wTup, wLst, wB, wAnd, wOr, wNot, wAndV, wOrV, wNotV, wIf, wChain, wAdd, wSub, wMul, wMod, wDiv, wPow, wCmp, wIsN, DL.isNon, wLen, wAbs, wMin2, wMax2, wInt, wFld, wFldO, wM1, wCallA, wCallB, wMake, wRaise, wNeg, wIxO, wLenO, wApp, wSetO, wFset, wPar, wParO, wAsgO, woLst, woCall, wFor, wiSeq, wiRg1, wiEnum, dEnds, outs, args, List.getElem?_cons_zero, List.getElem?_cons_succ, List.nil_append, List.cons_append, List.map_cons, List.map_nil, List.set_cons_zero, List.set_cons_succ, List.append_nil, List.replicate_zero, List.replicate_succ, Option.map_none, Option.map_some, List.length_cons, List.length_nil, sp_is_sequence]
  refine ⟨trivial, trivial, trivial, x, rfl, hp.1, ?_⟩
  cases hx : seqD x with
  | none => simp only [chkTabs, hx] at q; simpa using q
  | some xs =>
    have hpl := hp.2 xs hx
    have mid : ∀ (y : D) (ys : List D), xs = y :: ys → xs.length ≤ 8 → (match tabsFault (lenD y) (y :: ys) 0 with | none => Ψ (.tup ((y :: ys).map tupD)) none | some i => Ξ C.BadMachine "at" (.int (i : Nat))) →
      wForL (wgTup 2 (wgCons (wgName 1) (wgCons (wgName 2) wgNil)))
        (wIfS (wOr (wNot (wB (wCallA 1 0 (sp_is_table C) (fun ds _ => ds) (wCons (wVar 2) wNil) wNil))) (wB (wOp (wEq true) (wCB wLen (wCons (wVar 2) wNil)) (wCB wLen (wCons (wOp wIx (wVar 0) (wC (.int 0))) wNil)))))
          (wRaise C.BadMachine "at" (wCons (wVar 1) wNil)) wNext) (enD xs) [.val x, .un, .un]
        { nx := fun ρ' => wLc (wiSeq (wVar 0)) (wgName 2) wTrue (wCB wTupOf (wCons (wVar 2) wNil)) [2] ρ' (fun C f d _ => Ξ C f d) fun x _ => wTupOf [x] fun z => Ψ z none,
          rt := fun d _ => Ψ d none, bk := fun _ => False, ct := fun _ => False, xc := fun C f d _ => Ξ C f d } := by
      intro y ys hxy hle hq
      have hat : atI xs 0 = some y := by rw [hxy]; simp [atI, ixN]
      have hn : isTab y = true ∨ tabsFault (lenD y) (y :: ys) 0 = some 0 := by
        cases h : isTab y with
        | true => exact .inl rfl
        | false => exact .inr (by unfold tabsFault; rw [h]; rfl)
      have fin : ∀ (a b : Sl), (∀ z ∈ xs, ∃ zs, seqD z = some zs) → Ψ (.tup ((y :: ys).map tupD)) none → (wLc (wiSeq (wVar 0)) (wgName 2) wTrue (wCB wTupOf (wCons (wVar 2) wNil)) [2] [.val x, a, b] (fun C f d _ => Ξ C f d) fun x _ => wTupOf [x] fun z => Ψ z none) := by
        intro a b hz hq
        have go : wLcL (wgName 2) wTrue (wCB wTupOf (wCons (wVar 2) wNil)) [2] xs [] [.val x, a, .un] fun ys _ => wTupOf [.lst ys] fun z => Ψ z none := by
          refine lc_map (R := fun ρ => ρ = [.val x, a, .un]) tupD xs _ rfl (Nat.le_trans hle (by have := big; omega)) (fun d hd ρ' Φ h1 h2 => ?_) fun ρ' h1 => ?_
          · subst h1
            obtain ⟨zs, hz⟩ := hz d hd
            have e := h2 [.val x, a, .val d] rfl
            obtain rfl | rfl := seq_cases hz <;> exact e
          · rw [hxy]; exact hq
        obtain rfl | rfl := seq_cases hx <;> exact go
      have loop : ∀ (zs : List D) (i : Nat) (a b : Sl), (∀ z ∈ zs, plain2 z) → (isTab y = true ∨ ∃ r, zs = y :: r) → (∀ z ∈ xs, z ∈ zs ∨ isTab z = true) → (match tabsFault (lenD y) zs i with | none => Ψ (.tup ((y :: ys).map tupD)) none | some i => Ξ C.BadMachine "at" (.int (i : Nat))) →
          wForL (wgTup 2 (wgCons (wgName 1) (wgCons (wgName 2) wgNil)))
            (wIfS (wOr (wNot (wB (wCallA 1 0 (sp_is_table C) (fun ds _ => ds) (wCons (wVar 2) wNil) wNil))) (wB (wOp (wEq true) (wCB wLen (wCons (wVar 2) wNil)) (wCB wLen (wCons (wOp wIx (wVar 0) (wC (.int 0))) wNil)))))
              (wRaise C.BadMachine "at" (wCons (wVar 1) wNil)) wNext) ((zs.zipIdx i).map fun p => .tup [.int (p.2 : Nat), p.1]) [.val x, a, b]
            { nx := fun ρ' => wLc (wiSeq (wVar 0)) (wgName 2) wTrue (wCB wTupOf (wCons (wVar 2) wNil)) [2] ρ' (fun C f d _ => Ξ C f d) fun x _ => wTupOf [x] fun z => Ψ z none,
              rt := fun d _ => Ψ d none, bk := fun _ => False, ct := fun _ => False, xc := fun C f d _ => Ξ C f d } := by
        intro zs
        induction zs with
        | nil =>
          intro i a b _ _ hall hq
          exact fin a b (fun z hz => tab_seq ((hall z hz).resolve_left (by simp))) hq
        | cons z zs ih =>
          intro i a b hpz hy hall hq
          refine ⟨rfl, rfl, rfl, rfl, rfl, z, rfl, hpz z List.mem_cons_self, ?_⟩
          show if (!isTab z) = true then _ else _
          unfold tabsFault at hq
          cases hb : isTab z with
          | false =>
            rw [hb] at hq
            exact hq
          | true =>
            rw [hb] at hq
            have hy' : isTab y = true := hy.elim id fun ⟨r, e⟩ => by cases e; exact hb
            obtain ⟨us, hu⟩ := tab_seq hb
            obtain ⟨ws, hw⟩ := tab_seq hy'
            have e1 : lenD z = us.length := by unfold lenD; rw [hu]; rfl
            have e2 : lenD y = ws.length := by unfold lenD; rw [hw]; rfl
            have tail : ∀ b : Bool, decide (lenD z = lenD y) = b → (if (!b) = true then Ξ C.BadMachine "at" (.int (i : Nat)) else wForL (wgTup 2 (wgCons (wgName 1) (wgCons (wgName 2) wgNil)))
                (wIfS (wOr (wNot (wB (wCallA 1 0 (sp_is_table C) (fun ds _ => ds) (wCons (wVar 2) wNil) wNil))) (wB (wOp (wEq true) (wCB wLen (wCons (wVar 2) wNil)) (wCB wLen (wCons (wOp wIx (wVar 0) (wC (.int 0))) wNil)))))
                  (wRaise C.BadMachine "at" (wCons (wVar 1) wNil)) wNext) ((zs.zipIdx (i + 1)).map fun p => .tup [.int (p.2 : Nat), p.1]) [.val x, .val (.int (i : Nat)), .val z]
                { nx := fun ρ' => wLc (wiSeq (wVar 0)) (wgName 2) wTrue (wCB wTupOf (wCons (wVar 2) wNil)) [2] ρ' (fun C f d _ => Ξ C f d) fun x _ => wTupOf [x] fun z => Ψ z none,
                  rt := fun d _ => Ψ d none, bk := fun _ => False, ct := fun _ => False, xc := fun C f d _ => Ξ C f d }) := by
              intro b hb2
              rw [hb2] at hq
              cases b with
              | false => exact hq
              | true => exact ih (i + 1) _ _ (fun u hu => hpz u (List.mem_cons_of_mem _ hu)) (.inl hy') (fun u hu => (hall u hu).elim (fun m => (List.mem_cons.mp m).elim (fun e => .inr (e ▸ hb)) .inl) .inr) hq
            have key := tail _ rfl
            rw [e1, e2] at key
            rw [if_neg (show ¬ ((!true) = true) by decide)]
            simp only [wB, wOp, wCB, wCons, wVar, wNil, wC, List.set_cons_succ, List.set_cons_zero, List.getElem?_cons_zero, List.getElem?_cons_succ]
            refine len_lst z us hu ?_
            have hix : ∀ {Φ : D → Prop}, Φ y → wIx x (.int 0) Φ := fun {Φ} qq => by obtain rfl | rfl := seq_cases hx <;> exact ⟨y, hat, qq⟩
            refine hix ?_
            refine len_lst y ws hw ?_
            refine eq_ints ?_
            have ed : decide ((us.length : Int) = (ws.length : Int)) = decide (us.length = ws.length) := decide_eq_decide.mpr (by omega)
            rw [ed]
            exact key
      exact loop xs 0 .un .un hpl (.inr ⟨ys, hxy⟩) (fun z hz => .inl hz) (by rw [hxy]; exact hq)
    simp only [chkTabs, hx] at q
    have done : ∀ {A : Prop}, (xs.length ≤ 8 → 1 ≤ xs.length → A) → (if 1 ≤ (xs.length : Int) then if 8 < (xs.length : Int) then Ξ C.BadMachine "at" (.int (-1)) else A else Ξ C.BadMachine "at" (.int (-1))) := by
      intro A hA
      cases xs with
      | nil => simpa using q
      | cons y ys =>
        rw [if_pos (by simp only [List.length_cons]; omega)]
        split
        · rename_i h2
          have : ¬ (y :: ys).length ≤ 8 := by simp only [List.length_cons] at h2 ⊢; omega
          simp only [this, if_false] at q; exact q
        · rename_i h2
          exact hA (by simp only [List.length_cons] at h2 ⊢; omega) (by simp)
    obtain rfl | rfl := seq_cases hx
    all_goals
      simp
      refine done fun h1 h2 => ?_
      cases xs with
      | nil => simp at h2
      | cons y ys =>
        refine mid y ys rfl h1 ?_
        simp only [h1, ↓reduceIte] at q
        cases hf : tabsFault (lenD y) (y :: ys) 0 <;> simp only [hf] at q <;> exact q
end
end K32
set_option Elab.async false
set_option autoImplicit false
set_option linter.all false
set_option maxRecDepth 100000
set_option maxHeartbeats 3900000
namespace K32
open DL L2 PyProof.Rows PySem PySem.Spec
section
variable {K : Fg} {C : Cs}
/-- the sem of a def whose first argument is an object of one's own -/
theorem lenD_tup (x : D) : lenD (tupD x) = lenD x := rfl
theorem m_Machine_init : Sem0 2 2 (sp_Machine_init C) (x_Machine_init K C) := by
  rintro hl ds Ψ Ξ - ⟨h, x, rfl, hp, q⟩
  match hl, h with
  | some (l, o), h =>
    cases (Option.some.inj h : o = .i C.Machine [] [])
    simp only [x_Machine_init, wSeq, wNext, wBreak, wCont, wAsg, wRet, wRetN, wDrop, wIfS, wRetO, wgName, wgNil, wgCons, wgTup, wAsgG, wOp, wUn, wCB, wC, wVar, wNil, wCons, wTup, wLst, wB, wAnd, wOr, wNot, wAndV, wOrV, wNotV, wIf, wChain, wAdd, wSub, wMul, wMod, wDiv, wPow, wCmp, wIsN, DL.isNon, wLen, wAbs, wMin2, wMax2, wInt, wFld, wFldO, wM1, wCallA, wCallB, wMake, wRaise, wNeg, wIxO, wLenO, wApp, wSetO, wFset, wPar, wParO, wAsgO, woLst, woCall, wFor, wiSeq, wiRg1, wiEnum, dEnds, outs, args, List.getElem?_cons_zero, List.getElem?_cons_succ, List.nil_append, List.cons_append, List.map_cons, List.map_nil, List.set_cons_zero, List.set_cons_succ, List.append_nil, List.replicate_zero, List.replicate_succ, Option.map_none, Option.map_some, List.length_cons, List.length_nil, sp_check_tables]
    refine ⟨⟨_, _, rfl⟩, trivial, trivial, trivial, x, rfl, hp, ?_⟩
    cases hc : chkTabs x with
    | error i => rw [hc] at q; exact q
    | ok rs =>
      rw [hc] at q
      cases rs with
      | nil => simp only [chkTabs] at hc; split at hc <;> first | cases hc | (split at hc <;> first | cases hc | (split at hc <;> cases hc))
      | cons r rs =>
        obtain ⟨zs, hz⟩ : ∃ zs, seqD r = some zs := by
          simp only [chkTabs] at hc
          split at hc
          · split at hc
            · split at hc
              · simp only [List.map_cons] at hc; cases hc; exact ⟨_, rfl⟩
              · cases hc
            · cases hc
          · cases hc
        have hl : lenD r = zs.length := by unfold lenD; rw [hz]; rfl
        simp
        refine ⟨.tup (r :: rs), by simp [lookD], by decide, .tup (r :: rs), by simp [lookD], r, by simp [atI, ixN], ?_⟩
        obtain rfl | rfl := seq_cases hz <;> exact ⟨⟨by decide, by decide⟩, q⟩
theorem eqv_int (a : Int) : PyData.eqv (.int a) (.int a) = true := by simp [PyData.eqv]
/-! data and PyData -/
theorem py_row (r : List Nat) : pyOf (rowD r) = some (.tuple (r.map fun n => .int (n : Nat))) := by
  have : ∀ r : List Nat, pyOfL (r.map fun n => D.int (n : Nat)) = some (r.map fun n => .int (n : Nat)) := fun r => by
    induction r with
    | nil => rfl
    | cons n r ih => simp [pyOfL, pyOf, ih]
  simp [rowD, pyOf, this]
theorem py_rows (t : Tbl) : pyOf (.tup (t.map rowD)) = some (.tuple (t.map fun r => .tuple (r.map fun n => .int (n : Nat)))) := by
  have : ∀ t : Tbl, pyOfL (t.map rowD) = some (t.map fun r => .tuple (r.map fun n => .int (n : Nat))) := fun t => by
    induction t with
    | nil => rfl
    | cons r t ih => simp [pyOfL, py_row, ih]
  simp [pyOf, this]
theorem shaped_row (r : List Nat) : SeqAt.shaped (.tuple (r.map fun n => .int (n : Nat))) = true ∧ PyData.depth (.tuple (r.map fun n => .int (n : Nat))) ≤ 1 := by
  have a : ∀ r : List Nat, PyData.canLayAll0 (r.map fun n => .int (n : Nat)) = true := fun r => by induction r with
    | nil => rfl
    | cons n r ih => simp [PyData.canLayAll0, PyData.canLay0, ih]
  have b : ∀ r : List Nat, PyData.depthAll (r.map fun n => .int (n : Nat)) = 0 := fun r => by induction r with
    | nil => rfl
    | cons n r ih => simp [PyData.depthAll, PyData.depth, ih]
  simp [SeqAt.shaped, PyData.canLay0, PyData.depth, a, b]
theorem shaped_rows (t : Tbl) : SeqAt.shaped (.tuple (t.map fun r => .tuple (r.map fun n => .int (n : Nat)))) = true := by
  have a : ∀ t : Tbl, PyData.canLayAll0 (t.map fun r => .tuple (r.map fun n => .int (n : Nat))) = true := fun t => by induction t with
    | nil => rfl
    | cons r t ih =>
      have := (Bool.and_eq_true_iff.mp (shaped_row r).1).1
      simp only [List.map_cons, PyData.canLayAll0, this, ih, Bool.and_self]
  have b : ∀ t : Tbl, PyData.depthAll (t.map fun r => .tuple (r.map fun n => .int (n : Nat))) ≤ 1 := fun t => by induction t with
    | nil => exact Nat.zero_le _
    | cons r t ih =>
      have := (shaped_row r).2
      (simp only [List.map_cons, PyData.depthAll])
      omega
  have hb := b t
  refine Bool.and_eq_true_iff.mpr ⟨a t, decide_eq_true ?_⟩
  simp only [PyData.depth]
  omega
theorem eq_same {x : D} {p : PyData} {Φ : D → Prop} {neg : Bool} (h : pyOf x = some p) (hs : SeqAt.shaped p = true) (q : Φ (.bl !neg)) : wEq neg x x Φ :=
  ⟨p, p, h, h, hs, hs, by rw [SeqAt.eqv_refl p (SeqAt.canLay_of_shaped hs)]; cases neg <;> exact q⟩
theorem look_deeds (C : Cs) (t : Tbl) : lookD ["tables", "deeds", "states"] [.tup (t.map rowD), .int ((t.map rowD).length : Nat), .int (lenD ((t.map rowD).headD .non) : Nat)] "deeds" = some (.int (t.length : Nat)) := by simp [lookD]; decide
theorem len_le {n : Nat} (h : n ≤ 10000) : n ≤ sizeLine := Nat.le_trans h (by have := big; omega)
theorem Good.head {t : Tbl} (g : Good t) : 1 ≤ wd t ∧ wd t ≤ 12 := by
  cases t with
  | nil => exact absurd rfl g.ne
  | cons r t => exact ⟨(g.row r List.mem_cons_self).1, (g.row r List.mem_cons_self).2.1⟩
theorem look_st (C : Cs) (t : Tbl) : lookD ["tables", "deeds", "states"] [.tup (t.map rowD), .int ((t.map rowD).length : Nat), .int (lenD ((t.map rowD).headD .non) : Nat)] "states" = some (.int (wd t : Nat)) := by
  have e : lenD ((t.map rowD).headD .non) = wd t := by
    cases t with
    | nil => rfl
    | cons r t => simp [lenD, rowD, seqD, wd]
  rw [e]
  have a : ¬ ("tables" : Str) = "states" := by decide
  have b : ¬ ("deeds" : Str) = "states" := by decide
  simp [lookD, a, b]
theorem look_tb (C : Cs) (t : Tbl) : lookD ["tables", "deeds", "states"] [.tup (t.map rowD), .int ((t.map rowD).length : Nat), .int (lenD ((t.map rowD).headD .non) : Nat)] "tables" = some (.tup (t.map rowD)) := by simp [lookD]
theorem m_check_state : Sem0 2 2 (sp_check_state C) (x_check_state K C) := by
  rintro hl ds Ψ Ξ - ⟨h, t, x, rfl, hp, q⟩
  cases none_of h
  refine ⟨rfl, .int (wd t : Nat), look_st C t, rfl, rfl, rfl, x, (wd t : Nat), rfl, hp, ?_⟩
  show if (!belowD x (wd t : Nat)) = true then _ else _
  cases hb : belowD x (wd t : Nat) <;> rw [hb] at q <;> exact q
theorem m_log_fault : Sem0 2 2 (sp_log_fault C) (x_log_fault K C) := by
  rintro hl ds Ψ Ξ - ⟨h, t, x, rfl, hp, q⟩
  cases none_of h
  simp only [x_log_fault, wSeq, wNext, wBreak, wCont, wAsg, wRet, wRetN, wDrop, wIfS, wRetO, wgName, wgNil, wgCons, wgTup, wAsgG, wOp, wUn, wCB, wC, wVar, wNil, wCons, wTup, wLst, wB, wAnd, wOr, wNot, wAndV, wOrV, wNotV, wIf, wChain, wAdd, wSub, wMul, wMod, wDiv, wPow, wCmp, wIsN, DL.isNon, wLen, wAbs, wMin2, wMax2, wInt, wFld, wFldO, wM1, wCallA, wCallB, wMake, wRaise, wNeg, wIxO, wLenO, wApp, wSetO, wFset, wPar, wParO, wAsgO, woLst, woCall, wFor, wiSeq, wiRg1, wiEnum, dEnds, outs, args, List.getElem?_cons_zero, List.getElem?_cons_succ, List.nil_append, List.cons_append, List.map_cons, List.map_nil, List.set_cons_zero, List.set_cons_succ, List.append_nil, List.replicate_zero, List.replicate_succ, Option.map_none, Option.map_some, List.length_cons, List.length_nil, sp_is_sequence, sp_fault_place]
  refine ⟨trivial, trivial, trivial, x, rfl, hp.1, ?_⟩
  cases hx : seqD x with
  | none => simp only [logF, hx] at q; simpa using q
  | some xs =>
    have hpl := hp.2 xs hx
    simp only [logF, hx] at q
    have key : (if 10000 < (xs.length : Int) then Ψ (.int (-1)) none else Ψ (faultD (t.length : Int) xs 0) none) := by
      split
      · rename_i h1
        rw [if_neg (by omega)] at q; exact q
      · rename_i h1
        rw [if_pos (by omega)] at q; exact q
    obtain rfl | rfl := seq_cases hx
    all_goals
      simp
      split
      · rename_i h1; rw [if_pos h1] at key; exact key
      · rename_i h1; rw [if_neg h1] at key
        exact ⟨rfl, .int (t.length : Nat), look_deeds C t, _, xs, _, ⟨rfl, rfl⟩, rfl, hpl, key⟩
theorem m_check_log : Sem0 2 3 (sp_check_log C) (x_check_log K C) := by
  rintro hl ds Ψ Ξ - ⟨h, t, x, rfl, hp, q⟩
  cases none_of h
  simp only [x_check_log, wSeq, wNext, wBreak, wCont, wAsg, wRet, wRetN, wDrop, wIfS, wRetO, wgName, wgNil, wgCons, wgTup, wAsgG, wOp, wUn, wCB, wC, wVar, wNil, wCons, wTup, wLst, wB, wAnd, wOr, wNot, wAndV, wOrV, wNotV, wIf, wChain, wAdd, wSub, wMul, wMod, wDiv, wPow, wCmp, wIsN, DL.isNon, wLen, wAbs, wMin2, wMax2, wInt, wFld, wFldO, wM1, wCallA, wCallB, wMake, wRaise, wNeg, wIxO, wLenO, wApp, wSetO, wFset, wPar, wParO, wAsgO, woLst, woCall, wFor, wiSeq, wiRg1, wiEnum, dEnds, outs, args, List.getElem?_cons_zero, List.getElem?_cons_succ, List.nil_append, List.cons_append, List.map_cons, List.map_nil, List.set_cons_zero, List.set_cons_succ, List.append_nil, List.replicate_zero, List.replicate_succ, Option.map_none, Option.map_some, List.length_cons, List.length_nil, sp_log_fault]
  refine ⟨trivial, trivial, trivial, t, x, rfl, hp, ?_⟩
  have hx : logF t.length x = .non ∧ (∃ xs, seqD x = some xs) ∨ ∃ i, logF t.length x = .int i := by
    unfold logF
    cases hx : seqD x with
    | none => exact .inr ⟨_, rfl⟩
    | some xs =>
      simp only
      split
      · exact (fault_is (t.length : Int) xs 0).elim (fun z => .inl ⟨z.1, xs, rfl⟩) fun ⟨j, z, _⟩ => .inr ⟨_, z⟩
      · exact .inr ⟨_, rfl⟩
  rcases hx with ⟨e, xs, hs⟩ | ⟨i, e⟩
  · rw [e] at q ⊢
    refine ⟨trivial, true, rfl, ?_⟩
    have : tupD x = .tup xs := by unfold tupD; rw [hs]; rfl
    simp only [this] at q
    obtain rfl | rfl := seq_cases hs <;> exact q
  · rw [e] at q ⊢
    exact ⟨trivial, false, rfl, q⟩
end
end K32
set_option Elab.async false
set_option autoImplicit false
set_option linter.all false
set_option maxRecDepth 100000
set_option maxHeartbeats 3900000
namespace K32
open DL L2 PyProof.Rows PySem PySem.Spec
section
variable {K : Fg} {C : Cs}
theorem plain_row (r : List Nat) : plain2 (rowD r) := ⟨rfl, fun xs h y hy => by
  cases h
  obtain ⟨n, hn, rfl⟩ := List.mem_map.mp hy
  rfl⟩
theorem fault_none (m : Nat) : ∀ (r : List Nat) (i : Nat), (∀ n ∈ r, n < m) → faultD (m : Int) (numsD r) i = .non
  | [], _, _ => rfl
  | n :: r, i, h => by
    have h1 := h n List.mem_cons_self
    have e : belowD (.int (n : Nat)) (m : Int) = true := by
      show (decide (0 ≤ (n : Int)) && decide ((n : Int) < (m : Int))) = true
      rw [decide_eq_true (by omega), decide_eq_true (by omega)]; rfl
    show (if belowD (.int (n : Nat)) (m : Int) = true then faultD (m : Int) (numsD r) (i + 1) else _) = _
    rw [if_pos e]
    exact fault_none m r (i + 1) fun k hk => h k (List.mem_cons_of_mem _ hk)
theorem isTab_row {r : List Nat} (h1 : 1 ≤ r.length) (h2 : r.length ≤ 12) (h : ∀ n ∈ r, n < r.length) : isTab (rowD r) = true := by
  have e : (numsD r).length = r.length := List.length_map ..
  show (decide (1 ≤ (numsD r).length) && decide ((numsD r).length ≤ 12) && isNo (faultD ((numsD r).length : Int) (numsD r) 0)) = true
  rw [e, fault_none r.length r 0 h, decide_eq_true h1, decide_eq_true h2]
  rfl
theorem lenD_row (r : List Nat) : lenD (rowD r) = r.length := List.length_map ..
theorem tabs_none {n : Nat} : ∀ (t : Tbl) (i : Nat), (∀ r ∈ t, isTab (rowD r) = true ∧ r.length = n) → tabsFault n (t.map rowD) i = none
  | [], _, _ => rfl
  | r :: t, i, h => by
    obtain ⟨h1, h2⟩ := h r List.mem_cons_self
    show (if (isTab (rowD r) && decide (lenD (rowD r) = n)) = true then _ else _) = _
    rw [h1, lenD_row, h2]
    simp only [decide_true, Bool.and_self, ↓reduceIte]
    exact tabs_none t (i + 1) fun q hq => h q (List.mem_cons_of_mem _ hq)
theorem chk_good {t : Tbl} {x : D} (g : Good t) (hx : seqD x = some (t.map rowD)) : chkTabs x = .ok (t.map rowD) := by
  match t, g, hx with
  | [], g, _ => exact absurd rfl g.ne
  | r :: t, g, hx =>
    simp only [chkTabs, hx, List.map_cons]
    have hle := g.le
    simp only [List.length_cons] at hle
    have hf : tabsFault (lenD (rowD r)) (rowD r :: t.map rowD) 0 = none := tabs_none (r :: t) 0 fun q hq => by
      obtain ⟨h1, h2, h3, h4⟩ := g.row q hq
      exact ⟨isTab_row h1 h2 h4, by rw [lenD_row]; exact h3⟩
    simp only [List.length_cons, List.length_map, hle, ↓reduceIte, hf]
    have : t.map (tupD ∘ rowD) = t.map rowD := List.map_congr_left fun q _ => rfl
    rw [List.map_map, this]
    rfl
theorem plain_tb {t : Tbl} {x : D} (hx : seqD x = some (t.map rowD)) : plain3 x := ⟨by obtain rfl | rfl := seq_cases hx <;> rfl, fun xs h y hy => by
  rw [hx] at h; cases h
  obtain ⟨r, _, rfl⟩ := List.mem_map.mp hy
  exact plain_row r⟩
/-- Machine(..) of good tables -/
theorem mk_good {t : Tbl} {x : D} {Ψ : D → Option OD → Prop} {Ξ : Addr → Str → D → Prop} (g : Good t) (hx : seqD x = some (t.map rowD)) (q : Ψ .non (some (machO C (t.map rowD)))) : sp_Machine_init C (some (.i C.Machine [] [])) [x] Ψ Ξ :=
  ⟨rfl, x, rfl, plain_tb hx, by rw [chk_good g hx]; exact q⟩
theorem at2 (a b : Int) : atI [D.int a, .int b] 0 = some (.int a) ∧ atI [D.int a, .int b] 1 = some (.int b) := by simp [atI, ixN]
theorem ix2 : ixN 2 0 = some 0 ∧ ixN 2 1 = some 1 := by decide
theorem m_law_take : Sem0 2 4 (sp_law_take C) (x_law_take K C) := by
  rintro hl ds Ψ Ξ - ⟨o, m, h, ⟨a, b, ha, rfl⟩, rfl, hm, hm2, q⟩
  match hl, h with
  | some (l, o), h =>
    cases (Option.some.inj h : o = .l [.int a, .int b])
    refine ⟨⟨l, _, rfl⟩, .int a, (at2 a b).1, ?_⟩
    show if decide ((0 : Int) < a) = true then _ else _
    have nn : ∀ x y : Int, 0 < y → 0 ≤ x % y ∧ x % y < y := fun x y h => ⟨Int.emod_nonneg _ (by omega), Int.emod_lt_of_pos _ h⟩
    by_cases h0 : (0 : Int) < a
    · rw [if_pos (decide_eq_true h0)]
      refine ⟨⟨l, _, rfl⟩, .int a, (at2 a b).1, hm, ⟨l, _, rfl⟩, .int a, (at2 a b).1, ⟨hm, by omega⟩, ⟨l, _, rfl⟩, 0, ix2.1, ?_⟩
      refine ⟨.l [.int (a / m), .int b], rfl, q _ _ (nn a m hm).1 (nn a m hm).2 ⟨a / m, b, ?_, rfl⟩⟩
      exact Int.ediv_nonneg (by omega) (by omega)
    · rw [if_neg (by rw [decide_eq_false h0]; exact Bool.false_ne_true)]
      refine ⟨⟨l, _, rfl⟩, .int b, (at2 a b).2, .inr (by decide), by decide, ?_⟩
      refine ⟨.inr (by decide), by decide, ⟨l, _, rfl⟩, 1, ix2.2, .inr (by decide), ⟨l, _, rfl⟩, _, (at2 a _).2, ⟨by decide, by decide⟩, hm, ?_⟩
      refine ⟨.l [.int a, .int _], rfl, q _ _ (nn _ m hm).1 (nn _ m hm).2 ⟨a, _, ha, rfl⟩⟩
theorem at_of {xs : List D} {d : Int} (h0 : 0 ≤ d) (h1 : d < (xs.length : Int)) : ∃ x, atI xs d = some x ∧ x ∈ xs := by
  have hlt : d.toNat < xs.length := by omega
  refine ⟨xs[d.toNat], ?_, List.getElem_mem hlt⟩
  unfold atI ixN
  rw [if_pos h0, if_pos h1]
  simp [hlt]
theorem m_law_pick : Sem0 2 2 (sp_law_pick C) (x_law_pick K C) := by
  rintro hl ds Ψ Ξ - ⟨o, xs, h, ho, rfl, hne, hlen, q⟩
  match hl, h with
  | some (l, o'), h =>
    cases (Option.some.inj h : o' = o)
    have hpos : 0 < xs.length := List.length_pos_iff.mpr hne
    refine ⟨⟨l, _, rfl⟩, rfl, o, _, rfl, ho, rfl, by omega, by omega, fun d o2 h0 h1 h2 => ⟨o2, rfl, ?_⟩⟩
    obtain ⟨x, hx, hm⟩ := at_of h0 h1
    exact ⟨x, hx, o2, rfl, q x o2 hm h2⟩
/-- a range -/
theorem rg_nums (m : Nat) : rgD 0 m = numsD (List.range m) := by unfold rgD numsD; simp
/-- draws, one by one: the object is the slot 0 -/
theorem draws {i : Nat} {rest : Rho} {l : Addr} {m : Int} {we : WE} {Φ : List D → Rho → Prop} {R : Rho → Prop} (ds : List D) (ρ : Rho) (hm : 0 < m) (hl : ds.length ≤ sizeLine) (hR : R ρ)
    (hs : ∀ d ∈ ds, ∀ ρ' (Ψ : D → Rho → Prop), R ρ' → (∀ x ρ3, (∃ k : Nat, x = .int k ∧ (k : Int) < m) → R (wipeR ρ3 [i]) → Ψ x ρ3) → we (ρ'.set i (.val d)) χ0 Ψ)
    (hΦ : ∀ ns ρ', ns.length = ds.length → (∀ n ∈ ns, ((n : Nat) : Int) < m) → R ρ' → Φ (numsD ns) ρ') : wLcL (wgName i) wTrue we [i] ds [] ρ Φ := by
  refine lc_gen (P := fun _ y => ∃ k : Nat, y = .int k ∧ (k : Int) < m) ds [] ρ hR (by simpa using hl) (fun d hd ρ' Ψ h1 h2 => hs d hd ρ' Ψ h1 fun x ρ3 h3 h4 => h2 x ρ3 h3 h4) fun ys ρ' hp h2 => ?_
  have : ∃ ns : List Nat, ys = numsD ns ∧ ns.length = ds.length ∧ ∀ n ∈ ns, ((n : Nat) : Int) < m := by
    clear hs hΦ hl hR
    induction hp with
    | nil => exact ⟨[], rfl, rfl, fun _ h => nomatch h⟩
    | cons h t ih =>
      obtain ⟨k, rfl, hk⟩ := h
      obtain ⟨ns, rfl, h1, h2⟩ := ih
      exact ⟨k :: ns, rfl, by simp [h1], fun n hn => (List.mem_cons.mp hn).elim (fun e => e ▸ hk) (h2 n)⟩
  obtain ⟨ns, rfl, h3, h4⟩ := this
  rw [List.nil_append]
  exact hΦ ns ρ' h3 h4 h2
theorem nat_of {d m : Int} (h0 : 0 ≤ d) (h1 : d < m) : ∃ k : Nat, D.int d = .int k ∧ (k : Int) < m := ⟨d.toNat, by rw [Int.toNat_of_nonneg h0], by rw [Int.toNat_of_nonneg h0]; exact h1⟩
theorem at_int {ns : List Int} {i : Int} (h0 : 0 ≤ i) (h1 : i < (ns.length : Int)) : ∃ n, atI ns i = some n := by
  have hlt : i.toNat < ns.length := by omega
  refine ⟨ns[i.toNat], ?_⟩
  unfold atI ixN
  rw [if_pos h0, if_pos h1]
  simp [hlt]
def RowOk (m : Nat) (r : List Nat) : Prop := r.length = m ∧ ∀ n ∈ r, n < m
theorem seqI {w u : WS} {ρ : Rho} {Δ : DE} (h : w ρ { Δ with nx := fun ρ' => u ρ' Δ }) : wSeq w u ρ Δ := h
theorem asgI {i : Nat} {wa : WE} {ρ : Rho} {Δ : DE} (h : wa ρ Δ.xc fun d ρ1 => Δ.nx (ρ1.set i (.val d))) : wAsg i wa ρ Δ := h
theorem good_rows {m : Nat} {rows : Tbl} (h1 : 1 ≤ m) (h2 : m ≤ 12) (hr : ∀ r ∈ rows, RowOk m r) (hne : rows ≠ []) (h8 : rows.length ≤ 8) : Good rows := by
  refine ⟨hne, h8, fun r h => ?_⟩
  have e : (rows.headD []).length = m := by
    cases rows with
    | nil => exact absurd rfl hne
    | cons q t => exact (hr q List.mem_cons_self).1
  obtain ⟨a, b⟩ := hr r h
  rw [e, a]
  exact ⟨h1, h2, rfl, b⟩
abbrev roE (Ψ : OD → Prop) : DE := { nx := fun _ => False, rt := fun _ _ => False, bk := fun _ => False, ct := fun _ => False, xc := χ0, ro := fun _ od _ => Ψ od }
abbrev bx_e : WS := wSeq (wAsg 3 (wIf (wB (wOp wGe (wVar 2) (wOp wPow (wC (.int 10)) (wC (.int 18))))) (wVar 2) (wC (.int 0)))) (wRetO (woLst (wCons (wVar 3) (wCons (wOp wAdd (wOp wMod (wCB wInt (wCons (wOp wAdd (wOp wMul (wOp wMod (wCB wInt (wCons (wVar 2) wNil)) (wC (.int 2147483563))) (wC (.int 40014))) (wOp wMul (wC (.int 6857)) (wVar 1))) wNil)) (wC (.int 2147483563))) (wC (.int 1))) wNil))))
theorem box_end {ns : List Int} {k v : Int} {s3 : Sl} {Ψ : OD → Prop} (hv : 0 ≤ v) (q : ∀ o, GoodB o → Ψ o) : bx_e [.val (.scr ns), .val (.int k), .val (.int v), s3] (roE Ψ) := by
  refine ⟨⟨by decide, by decide, by decide⟩, ?_⟩
  have go : ∀ g : Int, 0 ≤ g → wRetO (woLst (wCons (wVar 3) (wCons (wOp wAdd (wOp wMod (wCB wInt (wCons (wOp wAdd (wOp wMul (wOp wMod (wCB wInt (wCons (wVar 2) wNil)) (wC (.int 2147483563))) (wC (.int 40014))) (wOp wMul (wC (.int 6857)) (wVar 1))) wNil)) (wC (.int 2147483563))) (wC (.int 1))) wNil))) [.val (.scr ns), .val (.int k), .val (.int v), .val (.int g)] (roE Ψ) := fun g hg =>
    ⟨by decide, .inr (by decide), .inl (by decide), by decide, by show 2 ≤ sizeLine; decide, fun l => q _ ⟨g, _, hg, rfl⟩⟩
  show if decide ((10 : Int) ^ (18 : Int).toNat ≤ v) = true then _ else _
  cases hb : decide ((10 : Int) ^ (18 : Int).toNat ≤ v)
  · exact go 0 (by omega)
  · exact go v hv
theorem m_law_box : ∀ ds Ψ, ds.length = 2 → so_law_box C ds Ψ → x_law_box K C (args none ds ++ List.replicate (4 - 2) .un) (roE Ψ) := by
  rintro ds Ψ - ⟨ns, k, rfl, hk0, hk1, hn, q⟩
  refine ⟨.inl (by decide), ?_⟩
  show if decide (k < (ns.length : Int)) = true then _ else _
  by_cases h1 : k < (ns.length : Int)
  · rw [if_pos (decide_eq_true h1)]
    obtain ⟨n, hn⟩ := at_int hk0 h1
    refine ⟨n, hn, box_end ?_ q⟩
    show 0 ≤ (if n < 0 then -n else n)
    split <;> omega
  · rw [if_neg (by rw [decide_eq_false h1]; exact Bool.false_ne_true)]
    show if decide ((0 : Int) < (ns.length : Int)) = true then _ else _
    by_cases h2 : (0 : Int) < (ns.length : Int)
    · rw [if_pos (decide_eq_true h2)]
      obtain ⟨n, hn⟩ := at_int (ns := ns) (i := k % (ns.length : Int)) (Int.emod_nonneg _ (by omega)) (Int.emod_lt_of_pos _ h2)
      refine ⟨h2, n, hn, by decide, .inr (by decide), box_end ?_ q⟩
      have := Int.emod_nonneg (if n < 0 then -n else n) (show (2147483563 : Int) ≠ 0 by decide)
      show 0 ≤ 5953 * k + 673 + (if n < 0 then -n else n) % 2147483563 * 41201
      omega
    · rw [if_neg (by rw [decide_eq_false h2]; exact Bool.false_ne_true)]
      exact box_end (by omega) q
end
end K32
set_option Elab.async false
set_option autoImplicit false
set_option linter.all false
set_option maxRecDepth 100000
set_option maxHeartbeats 3900000
namespace K32
open DL L2 PyProof.Rows PySem PySem.Spec
section
variable {K : Fg} {C : Cs}
def St (l0 l1 : Addr) (m : Nat) (rows : Tbl) (P6 : Sl → Prop) (ρ : Rho) : Prop := ∃ (o : OD) (s3 : Sl) (st b : Int) (s6 s7 : Sl), GoodB o ∧ 0 ≤ b ∧ b < m ∧ P6 s6 ∧
  ρ = [.own l0 o, .val (.int (m : Nat)), .own l1 (.l (rows.map rowD)), s3, .val (.int st), .val (.int b), s6, s7]
variable {l0 l1 : Addr} {m : Nat} {rows : Tbl} {P6 : Sl → Prop}
theorem St.set7 {ρ : Rho} {s : Sl} (h : St l0 l1 m rows P6 ρ) : St l0 l1 m rows P6 (ρ.set 7 s) := by
  obtain ⟨o, s3, st, b, s6, s7, h1, h2, h3, h4, rfl⟩ := h
  exact ⟨o, s3, st, b, s6, s, h1, h2, h3, h4, rfl⟩
def EltOk (l0 l1 : Addr) (m : Nat) (rows : Tbl) (P6 : Sl → Prop) (elt : WE) : Prop := ∀ ρ (s : Nat) (Ψ : D → Rho → Prop), St l0 l1 m rows P6 ρ → s < m → (∀ (v : Nat) ρ3, v < m → St l0 l1 m rows P6 ρ3 → Ψ (.int v) ρ3) → elt (ρ.set 7 (.val (.int (s : Nat)))) χ0 Ψ
theorem comp_St (hm : m ≤ 5) {elt : WE} (he : EltOk l0 l1 m rows P6 elt) {ρ : Rho} {χ : XC} {Φ : D → Rho → Prop}
    (h : St l0 l1 m rows P6 ρ) (q : ∀ r ρ1, RowOk m r → St l0 l1 m rows P6 ρ1 → Φ (.lst (numsD r)) ρ1) : wLc (wiRg1 (wCons (wVar 1) wNil)) (wgName 7) wTrue elt [7] ρ χ Φ := by
  have go : wLcL (wgName 7) wTrue elt [7] (rgD 0 m) [] (wipeR ρ [7]) fun ys ρ2 => Φ (.lst ys) (backR ρ ρ2 [7]) := by
    have hlen : (rgD 0 m).length = m := by unfold rgD; simp
    rw [rg_nums] at hlen ⊢
    by_cases h0 : m = 0
    · subst h0
      exact q [] _ ⟨rfl, fun _ h => nomatch h⟩ (St.set7 (St.set7 h))
    refine draws (R := St l0 l1 m rows P6) (m := (m : Int)) (rest := []) (l := l0) _ _ (by omega) (by rw [hlen]; have := big; omega) (St.set7 h) (fun x hx ρ' Ψ hR hk => ?_) fun ns ρ' h3 h4 hR => ?_
    · obtain ⟨s, hs, rfl⟩ := List.mem_map.mp hx
      exact he ρ' s Ψ hR (List.mem_range.mp hs) fun v ρ3 hv h3 => hk _ ρ3 ⟨v, rfl, by omega⟩ (St.set7 h3)
    · exact q ns _ ⟨by rw [h3, hlen], fun n hn => by have := h4 n hn; omega⟩ (St.set7 hR)
  obtain ⟨o, s3, st, b, s6, s7, h1, h2, h3, h4, rfl⟩ := h
  refine ⟨⟨by omega, by omega⟩, ?_⟩
  rw [Int.toNat_natCast]
  exact go
theorem app_St (hm : m ≤ 5) {elt : WE} (he : EltOk l0 l1 m rows P6 elt) {ρ : Rho} {Δ : DE} (h : St l0 l1 m rows P6 ρ) (h8 : rows.length < 8) (q : ∀ r ρ', RowOk m r → St l0 l1 m (rows ++ [r]) P6 ρ' → Δ.nx ρ') :
    wApp 2 (wCB wTupOf (wCons (wLc (wiRg1 (wCons (wVar 1) wNil)) (wgName 7) wTrue elt [7]) wNil)) ρ Δ := by
  refine ⟨?_, ?_⟩
  · obtain ⟨o, s3, st, b, s6, s7, h1, h2, h3, h4, rfl⟩ := h
    exact ⟨l1, _, rfl⟩
  · refine comp_St (χ := Δ.xc) (Φ := fun x ρ1 => wTupOf [x] fun d => match ρ1[2]? with
      | some (Sl.own l (.l xs)) => xs.length < sizeLine ∧ Δ.nx (ρ1.set 2 (.own l (.l (xs ++ [d]))))
      | _ => False) hm he h fun r ρ1 hr h1 => ?_
    obtain ⟨o, s3, st, b, s6, s7, a1, a2, a3, a4, rfl⟩ := h1
    refine ⟨by show (rows.map rowD).length < sizeLine; rw [List.length_map]; have := big; omega, q r _ hr ⟨o, s3, st, b, s6, s7, a1, a2, a3, a4, ?_⟩⟩
    simp only [List.map_append, List.map_cons, List.map_nil]
    rfl
theorem mem_sz {d : D} (h : d ∈ [D.int 3, .int 2, .int 4, .int 3, .int 5, .int 1]) : ∃ m : Nat, d = .int m ∧ 1 ≤ m ∧ m ≤ 5 := by
  simp only [List.mem_cons, List.not_mem_nil, or_false] at h
  rcases h with rfl | rfl | rfl | rfl | rfl | rfl
  · exact ⟨3, rfl, by decide, by decide⟩
  · exact ⟨2, rfl, by decide, by decide⟩
  · exact ⟨4, rfl, by decide, by decide⟩
  · exact ⟨3, rfl, by decide, by decide⟩
  · exact ⟨5, rfl, by decide, by decide⟩
  · exact ⟨1, rfl, by decide, by decide⟩
theorem mem_kd {d : D} (h : d ∈ [D.int 2, .int 2, .int 1, .int 3]) : ∃ m : Nat, d = .int m ∧ 1 ≤ m ∧ m ≤ 3 := by
  simp only [List.mem_cons, List.not_mem_nil, or_false] at h
  rcases h with rfl | rfl | rfl | rfl
  · exact ⟨2, rfl, by decide, by decide⟩
  · exact ⟨2, rfl, by decide, by decide⟩
  · exact ⟨1, rfl, by decide, by decide⟩
  · exact ⟨3, rfl, by decide, by decide⟩
abbrev lt_s (k : Nat) (w u : WS) : WS := wIfS (wB (wOp (wEq false) (wVar 4) (wC (.int k)))) w u
abbrev lt_a (elt : WE) : WS := wApp 2 (wCB wTupOf (wCons (wLc (wiRg1 (wCons (wVar 1) wNil)) (wgName 7) wTrue elt [7]) wNil))
abbrev lt_e0 : WE := wOp wMod (wCB wInt (wCons (wOp wAdd (wOp wAdd (wVar 7) (wC (.int 1))) (wVar 5)) wNil)) (wVar 1)
abbrev lt_e1 : WE := wCB wMin2 (wCons (wOp wSub (wVar 1) (wC (.int 1))) (wCons (wOp wAdd (wVar 7) (wC (.int 1))) wNil))
abbrev lt_e2 : WE := wVar 5
abbrev lt_e3 : WE := wIf (wB (wOp (wEq false) (wVar 7) (wVar 5))) (wVar 6) (wIf (wB (wOp (wEq false) (wVar 7) (wVar 6))) (wVar 5) (wVar 7))
abbrev lt_e4 (C : Cs) : WE := wCallB 0 1 (sp_law_take C) (wCons (wVar 1) wNil)
theorem if_st {k : Nat} {w u : WS} {ρ : Rho} {Δ : DE} (h : St l0 l1 m rows P6 ρ) (h1 : w ρ Δ) (h2 : u ρ Δ) : lt_s k w u ρ Δ := by
  obtain ⟨o, s3, st, b, s6, s7, a1, a2, a3, a4, rfl⟩ := h
  simp only [lt_s, wIfS, wB, wOp, wVar, wC, List.getElem?_cons_succ, List.getElem?_cons_zero]
  refine eqF_ints ?_
  cases hk : decide (st = (k : Int))
  · exact h2
  · exact h1
theorem e0_ok (hm : 1 ≤ m) : EltOk l0 l1 m rows P6 lt_e0 := by
  intro ρ s Ψ hρ hs hk
  obtain ⟨o, s3, st, b, s6, s7, g1, g2, g3, g4, rfl⟩ := hρ
  refine ⟨by omega, ?_⟩
  obtain ⟨v, hv, hv2⟩ := nat_of (d := ((s : Int) + 1 + b) % (m : Int)) (Int.emod_nonneg _ (by omega)) (Int.emod_lt_of_pos _ (by omega))
  show Ψ (.int (((s : Int) + 1 + b) % (m : Int))) _
  rw [hv]
  exact hk v _ (by omega) ⟨o, s3, st, b, s6, _, g1, g2, g3, g4, rfl⟩
theorem e1_ok (hm : 1 ≤ m) : EltOk l0 l1 m rows P6 lt_e1 := by
  intro ρ s Ψ hρ hs hk
  obtain ⟨o, s3, st, b, s6, s7, g1, g2, g3, g4, rfl⟩ := hρ
  obtain ⟨v, hv, hv2⟩ := nat_of (d := if (s : Int) + 1 < (m : Int) - 1 then (s : Int) + 1 else (m : Int) - 1) (m := (m : Int)) (by split <;> omega) (by split <;> omega)
  show Ψ (.int (if (s : Int) + 1 < (m : Int) - 1 then (s : Int) + 1 else (m : Int) - 1)) _
  rw [hv]
  exact hk v _ (by omega) ⟨o, s3, st, b, s6, _, g1, g2, g3, g4, rfl⟩
theorem e2_ok : EltOk l0 l1 m rows P6 lt_e2 := by
  intro ρ s Ψ hρ hs hk
  obtain ⟨o, s3, st, b, s6, s7, g1, g2, g3, g4, rfl⟩ := hρ
  obtain ⟨v, hv, hv2⟩ := nat_of g2 g3
  have key := hk v _ (by omega) ⟨o, s3, st, b, s6, .val (.int (s : Nat)), g1, g2, g3, g4, rfl⟩
  rw [← hv] at key
  exact key
def Oth (m : Nat) (s : Sl) : Prop := ∃ k : Nat, k < m ∧ s = .val (.int (k : Nat))
theorem e3_ok : EltOk l0 l1 m rows (Oth m) lt_e3 := by
  intro ρ s Ψ hρ hs hk
  obtain ⟨o, s3, st, b, s6, s7, g1, g2, g3, ⟨k, hk1, rfl⟩, rfl⟩ := hρ
  have st' : St l0 l1 m rows (Oth m) [.own l0 o, .val (.int (m : Nat)), .own l1 (.l (rows.map rowD)), s3, .val (.int st), .val (.int b), .val (.int (k : Nat)), .val (.int (s : Nat))] := ⟨o, s3, st, b, _, _, g1, g2, g3, ⟨k, hk1, rfl⟩, rfl⟩
  simp only [lt_e3, wIf, wB, wOp, wVar, List.set_cons_succ, List.set_cons_zero, List.getElem?_cons_succ, List.getElem?_cons_zero]
  refine eqF_ints ?_
  cases decide ((s : Int) = b)
  · simp only [Bool.false_eq_true, ↓reduceIte]
    refine eqF_ints ?_
    cases decide ((s : Int) = (k : Int))
    · exact hk s _ hs st'
    · obtain ⟨v, hv, hv2⟩ := nat_of g2 g3
      have key := hk v _ (by omega) st'
      rw [← hv] at key
      exact key
  · exact hk k _ hk1 st'
theorem e4_ok (hm : 1 ≤ m) (h5 : m ≤ 5) : EltOk l0 l1 m rows P6 (lt_e4 C) := by
  intro ρ s Ψ hρ hs hk
  obtain ⟨o, s3, st, b, s6, s7, g1, g2, g3, g4, rfl⟩ := hρ
  refine ⟨⟨l0, _, rfl⟩, rfl, o, _, rfl, g1, rfl, by omega, by omega, fun d o7 c1 c2 h7 => ⟨o7, rfl, ?_⟩⟩
  obtain ⟨v, hv, hv2⟩ := nat_of c1 c2
  rw [hv]
  exact hk v _ (by omega) ⟨o7, s3, st, b, s6, _, h7, g2, g3, g4, rfl⟩
abbrev lt_body (C : Cs) : WS := wSeq (wAsgG (wgTup 2 (wgCons (wgName 4) (wgCons (wgName 5) wgNil))) (wTup (wCons (wCallB 0 1 (sp_law_take C) (wCons (wC (.int 6)) wNil)) (wCons (wCallB 0 1 (sp_law_take C) (wCons (wVar 1) wNil)) wNil))))
  (lt_s 0 (lt_a lt_e0) (lt_s 1 (lt_a lt_e1) (lt_s 2 (lt_a lt_e2) (lt_s 3 (wSeq (wAsg 6 (wCallB 0 1 (sp_law_take C) (wCons (wVar 1) wNil))) (lt_a lt_e3)) (lt_a (lt_e4 C))))))
theorem m_law_tables : Sem0 1 8 (sp_law_tables C) (x_law_tables K C) := by
  rintro hl ds Ψ Ξ - ⟨o, h, ho, rfl, q⟩
  match hl, h with
  | some (l0, o'), h =>
    cases (Option.some.inj h : o' = o)
    refine ⟨⟨l0, _, rfl⟩, by show 6 ≤ sizeLine; decide, rfl, o, _, rfl, ho, rfl, by simp, by decide, fun d o2 hd h2 => ⟨o2, rfl, Nat.zero_le _, fun l1 => ?_⟩⟩
    obtain ⟨m, rfl, hm1, hm5⟩ := mem_sz hd
    refine ⟨⟨l0, _, rfl⟩, by show 4 ≤ sizeLine; decide, rfl, o2, _, rfl, h2, rfl, by simp, by decide, fun d o3 hd h3 => ⟨o3, rfl, ?_⟩⟩
    obtain ⟨n, rfl, hn1, hn4⟩ := mem_kd hd
    refine ⟨⟨by omega, by omega⟩, ?_⟩
    show wForL _ _ (rgD 0 (n : Int).toNat) _ _
    rw [Int.toNat_natCast]
    have loop : ∀ (es : List D) (rows : Tbl) (o : OD) (s3 s4 s5 s6 s7 : Sl), GoodB o → (∀ r ∈ rows, RowOk m r) → 1 ≤ rows.length + es.length → rows.length + es.length ≤ 8 →
        wForL (wgName 3) (lt_body C) es [.own l0 o, .val (.int (m : Nat)), .own l1 (.l (rows.map rowD)), s3, s4, s5, s6, s7] { dEnds (some (l0, o3)) Ψ Ξ with nx := fun ρ => wRet (wVar 2) ρ (dEnds (some (l0, o3)) Ψ Ξ) } := by
      intro es
      induction es with
      | nil =>
        intro rows o s3 s4 s5 s6 s7 ho hr h1 h8
        simp only [List.length_nil, Nat.add_zero] at h1 h8
        exact ⟨o, rfl, q rows o (good_rows hm1 (by omega) hr (fun z => by rw [z] at h1; simp at h1) h8) ho⟩
      | cons e es ih =>
        intro rows o s3 s4 s5 s6 s7 ho hr h1 h8
        have nxt : ∀ {P : Sl → Prop} {r : List Nat} {ρ' : Rho}, RowOk m r → St l0 l1 m (rows ++ [r]) P ρ' → wForL (wgName 3) (lt_body C) es ρ' { dEnds (some (l0, o3)) Ψ Ξ with nx := fun ρ => wRet (wVar 2) ρ (dEnds (some (l0, o3)) Ψ Ξ) } := by
          rintro P r ρ' hr1 ⟨o6, t3, st, b6, t6, t7, g1, g2, g3, -, rfl⟩
          exact ih (rows ++ [r]) o6 t3 _ _ t6 t7 g1 (fun r' hr' => (List.mem_append.mp hr').elim (hr r') fun h => by rw [List.mem_singleton.mp h]; exact hr1) (by simp only [List.length_append, List.length_cons, List.length_nil]; omega) (by simp only [List.length_append, List.length_cons, List.length_nil] at h8 ⊢; omega)
        have hr8 : rows.length < 8 := by simp only [List.length_cons] at h8; omega
        refine ⟨⟨l0, _, rfl⟩, rfl, o, _, rfl, ho, rfl, by decide, by decide, fun d o4 a1 a2 h4 => ⟨o4, rfl, ⟨l0, _, rfl⟩, rfl, o4, _, rfl, h4, rfl, by omega, by omega, fun b o5 b1 b2 h5 => ⟨o5, rfl, by show 2 ≤ sizeLine; decide, rfl, rfl, ?_⟩⟩⟩
        have s0 : St l0 l1 m rows (fun _ => True) [.own l0 o5, .val (.int (m : Nat)), .own l1 (.l (rows.map rowD)), .val e, .val (.int d), .val (.int b), s6, s7] := ⟨o5, _, d, b, s6, s7, h5, b1, b2, trivial, rfl⟩
        refine if_st s0 (app_St hm5 (e0_ok hm1) s0 hr8 fun r ρ' hr1 h1 => nxt hr1 h1) (if_st s0 (app_St hm5 (e1_ok hm1) s0 hr8 fun r ρ' hr1 h1 => nxt hr1 h1) (if_st s0 (app_St hm5 e2_ok s0 hr8 fun r ρ' hr1 h1 => nxt hr1 h1) (if_st s0 ?_ (app_St hm5 (e4_ok hm1 hm5) s0 hr8 fun r ρ' hr1 h1 => nxt hr1 h1))))
        refine ⟨⟨l0, _, rfl⟩, rfl, o5, _, rfl, h5, rfl, by omega, by omega, fun x o6 x1 x2 h6 => ⟨o6, rfl, ?_⟩⟩
        obtain ⟨v, hv, hv2⟩ := nat_of x1 x2
        rw [hv]
        have s1 : St l0 l1 m rows (Oth m) [.own l0 o6, .val (.int (m : Nat)), .own l1 (.l (rows.map rowD)), .val e, .val (.int d), .val (.int b), .val (.int (v : Nat)), s7] := ⟨o6, _, d, b, _, s7, h6, b1, b2, ⟨v, by omega, rfl⟩, rfl⟩
        exact app_St hm5 e3_ok s1 hr8 fun r ρ' hr1 h1 => nxt hr1 h1
    have hlen : (rgD 0 n).length = n := by unfold rgD; simp
    exact loop (rgD 0 n) [] o3 .un .un .un .un .un h3 (fun _ h => nomatch h) (by rw [hlen]; simp; omega) (by rw [hlen]; simp; omega)
theorem Good.get {t : Tbl} (g : Good t) {d : Nat} (h : d < t.length) : ∃ r, t[d]? = some r ∧ r.length = wd t ∧ (∀ n ∈ r, n < wd t) ∧ atI (t.map rowD) (d : Nat) = some (rowD r) := by
  refine ⟨t[d], by simp [h], ?_⟩
  obtain ⟨-, -, h3, h4⟩ := g.row t[d] (List.getElem_mem h)
  refine ⟨h3, fun n hn => by have := h4 n hn; unfold wd; omega, ?_⟩
  unfold atI ixN
  simp [h]
theorem at_row {r : List Nat} {s : Nat} (h : s < r.length) : atI (r.map fun n => D.int (n : Nat)) (s : Nat) = some (.int ((r[s]?).getD 0 : Nat)) := by
  unfold atI ixN
  simp [h]
/-- tables[deed][state] -/
theorem Good.step {t : Tbl} (g : Good t) {d s : Nat} (hd : d < t.length) (hs : s < wd t) : stepN t s d < wd t ∧ ∃ r, atI (t.map rowD) (d : Nat) = some (rowD r) ∧ atI (r.map fun n => D.int (n : Nat)) (s : Nat) = some (.int (stepN t s d : Nat)) := by
  obtain ⟨r, h1, h2, h3, h4⟩ := g.get hd
  have e : stepN t s d = (r[s]?).getD 0 := by unfold stepN; rw [h1]; rfl
  have hs' : s < r.length := by omega
  refine ⟨?_, r, h4, ?_⟩
  · rw [e]; simp only [List.getElem?_eq_getElem hs', Option.getD_some]; exact h3 _ (List.getElem_mem hs')
  · rw [e]; exact at_row hs'
theorem Good.led {t : Tbl} (g : Good t) : ∀ {ns : List Nat} {s : Nat}, (∀ n ∈ ns, n < t.length) → s < wd t → ledN t s ns < wd t
  | [], s, _, hs => hs
  | n :: ns, s, h, hs => Good.led g (ns := ns) (fun k hk => h k (List.mem_cons_of_mem _ hk)) (g.step (h n List.mem_cons_self) hs).1
theorem m_law_led : Sem0 3 4 (sp_law_led C) (x_law_led K C) := by
  rintro hl ds Ψ Ξ - ⟨h, t, s, ns, g, hs, hn, rfl, q⟩
  cases none_of h
  have loop : ∀ (ns : List Nat) (s : Nat) (a b : Sl), s < wd t → (∀ n ∈ ns, n < t.length) → Ψ (.int (ledN t s ns : Nat)) none →
      wForL (wgName 3) (wAsg 1 (wOp wIx (wOp wIx (wVar 0) (wVar 3)) (wVar 1))) (numsD ns) [.val (tbsD t), .val (.int (s : Nat)), a, b] { dEnds none Ψ Ξ with nx := fun ρ => wRet (wVar 1) ρ (dEnds none Ψ Ξ) } := by
    intro ns
    induction ns with
    | nil => intro s a b _ _ q; exact (by cases a <;> exact q)
    | cons n ns ih =>
      intro s a b hs hn q
      obtain ⟨h1, r, h2, h3⟩ := g.step (hn n List.mem_cons_self) hs
      have := ih (stepN t s n) a (.val (.int (n : Nat))) h1 (fun k hk => hn k (List.mem_cons_of_mem _ hk)) q
      exact ⟨rowD r, h2, _, h3, this⟩
  exact loop ns s _ .un hs hn q
end
end K32
set_option Elab.async false
set_option autoImplicit false
set_option linter.all false
set_option maxRecDepth 100000
set_option maxHeartbeats 3900000
namespace K32
open DL L2 PyProof.Rows PySem PySem.Spec
section
variable {K : Fg} {C : Cs}
/-- a loop by what holds before each turn -/
theorem for_inv {g : WG} {w : WS} {Δ : DE} (I : List D → Rho → Prop) (step : ∀ d ds ρ (N : Rho → Prop), I (d :: ds) ρ → (∀ ρ', I ds ρ' → N ρ') → g d ρ fun ρ1 => w ρ1 { Δ with nx := N, ct := N, bk := Δ.nx }) (done : ∀ ρ, I [] ρ → Δ.nx ρ) :
    ∀ (ds : List D) (ρ : Rho), I ds ρ → wForL g w ds ρ Δ
  | [], ρ, h => done ρ h
  | d :: ds, ρ, h => step d ds ρ (fun ρ' => wForL g w ds ρ' Δ) h fun ρ' h' => for_inv I step done ds ρ' h'
/-- a comprehension with a test -/
theorem lc_mfa {α : Type} {g : WG} {wt : WT} {we : WE} {vs : List Nat} {Φ : List D → Rho → Prop} (R : Rho → Prop) (e : α → D) (f : α → Option D) (xs0 : List α) (hl : xs0.length ≤ sizeLine)
    (step : ∀ x ∈ xs0, ∀ ρ (N : Option D → Rho → Prop), R ρ → (∀ ρ', R ρ' → N (f x) ρ') → g (e x) ρ fun ρ1 => wt ρ1 χ0 fun b ρ2 => if b = true then we ρ2 χ0 fun y ρ3 => N (some y) (wipeR ρ3 vs) else N none (wipeR ρ2 vs))
    (done : ∀ ρ', R ρ' → Φ (xs0.filterMap f) ρ') (ρ : Rho) (hR : R ρ) : wLcL g wt we vs (xs0.map e) [] ρ Φ := by
  have main : ∀ (xs : List α) (acc : List D) (ρ : Rho), (∀ x ∈ xs, x ∈ xs0) → acc.length + xs.length ≤ sizeLine → R ρ → (∀ ρ', R ρ' → Φ (acc ++ xs.filterMap f) ρ') → wLcL g wt we vs (xs.map e) acc ρ Φ := by
    intro xs
    induction xs with
    | nil => intro acc ρ _ _ hR q; have := q ρ hR; rwa [List.filterMap_nil, List.append_nil] at this
    | cons x xs ih =>
      intro acc ρ hm hz hR q
      have hz' : acc.length < sizeLine := by simp only [List.length_cons] at hz; omega
      have := step x (hm x List.mem_cons_self) ρ (fun o ρ' => match o with | some y => acc.length < sizeLine ∧ wLcL g wt we vs (xs.map e) (acc ++ [y]) ρ' Φ | none => wLcL g wt we vs (xs.map e) acc ρ' Φ) hR fun ρ' h' => by
        cases hf : f x with
        | none =>
          refine ih acc ρ' (fun z hz => hm z (List.mem_cons_of_mem _ hz)) (by simp only [List.length_cons] at hz; omega) h' fun ρ2 h2 => ?_
          have := q ρ2 h2; rwa [List.filterMap_cons_none hf] at this
        | some y =>
          refine ⟨hz', ih (acc ++ [y]) ρ' (fun z hz => hm z (List.mem_cons_of_mem _ hz)) (by simp only [List.length_append, List.length_cons, List.length_nil] at hz ⊢; omega) h' fun ρ2 h2 => ?_⟩
          have := q ρ2 h2; rw [List.filterMap_cons_some hf] at this; rwa [List.append_assoc]
      exact this
  exact main xs0 [] ρ (fun _ h => h) (by simpa using hl) hR done
theorem lc_mfc {α : Type} {g : WG} {wt : WT} {we : WE} {vs : List Nat} {Φ : List D → Rho → Prop} (ρ0 : Rho) (e : α → D) (f : α → Option D) (xs : List α) (hl : xs.length ≤ sizeLine)
    (step : ∀ x ∈ xs, ∀ (N : Option D → Rho → Prop), N (f x) ρ0 → g (e x) ρ0 fun ρ1 => wt ρ1 χ0 fun b ρ2 => if b = true then we ρ2 χ0 fun y ρ3 => N (some y) (wipeR ρ3 vs) else N none (wipeR ρ2 vs))
    (done : Φ (xs.filterMap f) ρ0) : wLcL g wt we vs (xs.map e) [] ρ0 Φ :=
  lc_mfa (fun ρ => ρ = ρ0) e f xs hl (fun x hx ρ N hR h => by subst hR; exact step x hx N (h _ rfl)) (fun ρ' h => h ▸ done) ρ0 rfl
/-- an expression's value, a test's answer -/
def Ev (w : WE) (ρ : Rho) (x : D) (ρ' : Rho) : Prop := ∀ χ Φ, Φ x ρ' → w ρ χ Φ
def Te (w : WT) (ρ : Rho) (b : Bool) (ρ' : Rho) : Prop := ∀ χ Φ, Φ b ρ' → w ρ χ Φ
section
variable {wa wb : WE} {ρ ρ1 ρ2 : Rho} {i : Nat} {d x : D} {xs : List D} {a b : Int}
theorem ev_var (h : ρ[i]? = some (.val d)) : Ev (wVar i) ρ d ρ := fun χ Φ q => by unfold wVar; rw [h]; exact q
theorem ev_c : Ev (wC d) ρ d ρ := fun χ Φ q => q
theorem ev_len (h : ρ[i]? = some (.val x)) (hx : seqD x = some xs) : Ev (wCB wLen (wCons (wVar i) wNil)) ρ (.int (xs.length : Nat)) ρ := fun χ Φ q => by
  have : wVar i ρ χ (fun v ρ1 => wNil ρ1 χ fun vs ρ2 => wLen (v :: vs) fun z => Φ z ρ2) := ev_var h χ _ (show wLen [x] fun z => Φ z ρ from len_lst x xs hx q)
  exact this
theorem te_ne (ha : Ev wa ρ (.int a) ρ1) (hb : Ev wb ρ1 (.int b) ρ2) : Te (wB (wOp (wEq true) wa wb)) ρ (!decide (a = b)) ρ2 := fun χ Φ q => ha χ _ (hb χ _ (eq_ints (Φ := fun z => match z with | .bl b => Φ b ρ2 | _ => False) q))
theorem te_eq (ha : Ev wa ρ (.int a) ρ1) (hb : Ev wb ρ1 (.int b) ρ2) : Te (wB (wOp (wEq false) wa wb)) ρ (decide (a = b)) ρ2 := fun χ Φ q => ha χ _ (hb χ _ (eqF_ints (Φ := fun z => match z with | .bl b => Φ b ρ2 | _ => False) q))
end
theorem m_is_ascending : Sem0 2 4 (sp_is_ascending C) (x_is_ascending K C) := by
  rintro hl ds Ψ Ξ - ⟨h, x, m, rfl, hp, q⟩
  cases none_of h
  refine ⟨rfl, rfl, rfl, x, rfl, hp.1, ?_⟩
  cases hx : seqD x with
  | none => unfold ascD at q; rw [hx] at q; exact q
  | some xs =>
    have q : Ψ (.bl (ascL m xs 0)) none := by unfold ascD at q; rw [hx] at q; exact q
    have hpl := hp.2 xs hx
    have go : wForL (wgName 3) (wSeq (wIfS (wOr (wNot (wB (wCallA 2 0 (sp_is_below C) (fun ds _ => ds) (wCons (wVar 3) (wCons (wVar 1) wNil)) wNil))) (wB (wOp wLt (wVar 3) (wVar 2)))) (wRet (wC (.bl false))) wNext) (wAsg 2 (wOp wAdd (wVar 3) (wC (.int 1))))) xs
        [.val x, .val (.int m), .val (.int 0), .un] { dEnds none Ψ Ξ with nx := fun ρ => Ψ (.bl true) none } := by
      refine for_inv (fun ds ρ => ∃ (v : Int) (s : Sl), ρ = [.val x, .val (.int m), .val (.int v), s] ∧ (∀ y ∈ ds, plain y) ∧ Ψ (.bl (ascL m ds v)) none) (fun d ds ρ N h hN => ?_) (fun ρ h => ?_) xs _ ⟨0, .un, rfl, hpl, q⟩
      · obtain ⟨v, s, rfl, h1, h2⟩ := h
        refine ⟨rfl, rfl, rfl, d, m, rfl, h1 d List.mem_cons_self, ?_⟩
        show if (!belowD d m) = true then _ else _
        unfold ascL at h2
        cases hb : belowD d m with
        | false =>
          have h3 : Ψ (.bl false) none := by
            cases d <;> first | exact h2 | (simp only [hb, Bool.false_and] at h2; exact h2)
          exact h3
        | true =>
          cases d with
          | int w =>
            simp only [hb, Bool.true_and] at h2
            show if decide (w < v) = true then _ else _
            by_cases hlt : w < v
            · rw [if_pos (decide_eq_true hlt)]
              rw [if_neg (by rw [decide_eq_false (by omega)]; exact Bool.false_ne_true)] at h2
              exact h2
            · rw [if_neg (by rw [decide_eq_false hlt]; exact Bool.false_ne_true)]
              rw [if_pos (decide_eq_true (by omega))] at h2
              exact (hN _ ⟨w + 1, .val (.int w), rfl, fun y hy => h1 y (List.mem_cons_of_mem _ hy), h2⟩)
          | _ => exact absurd hb (by simp [belowD])
      · obtain ⟨v, s, rfl, h1, h2⟩ := h
        exact h2
    obtain rfl | rfl := seq_cases hx <;> exact go
theorem asc_seq {x : D} {m : Int} (h : ascD x m = true) : ∃ xs, seqD x = some xs := by
  unfold ascD at h
  cases hx : seqD x with
  | none => rw [hx] at h; cases h
  | some xs => exact ⟨xs, rfl⟩
theorem m_check_starts : Sem0 2 2 (sp_check_starts C) (x_check_starts K C) := by
  rintro hl ds Ψ Ξ - ⟨h, t, x, rfl, g, q⟩
  cases none_of h
  have hw := g.head
  rcases q with ⟨rfl, q⟩ | ⟨hn, hp, q⟩
  · refine ⟨rfl, true, rfl, rfl, .int (wd t : Nat), look_st C t, ⟨by omega, by omega⟩, ?_⟩
    have e0 : D.tup (rgD 0 (Int.toNat (wd t : Nat))) = rowD (List.range (wd t)) := by rw [Int.toNat_natCast, rg_nums]; rfl
    show Ψ (D.tup (rgD 0 (Int.toNat (wd t : Nat)))) none
    rw [e0]; exact q
  · have hno : DL.isNon x = some false := by cases x <;> first | rfl | (cases hn; done) | exact absurd hp.1 (by simp [plain, tyN])
    refine ⟨rfl, false, hno, rfl, .int (wd t : Nat), look_st C t, rfl, rfl, rfl, x, (wd t : Nat), rfl, hp, ?_⟩
    show if (!ascD x (wd t : Nat)) = true then _ else _
    unfold startsOk at q
    cases ha : ascD x (wd t : Nat) with
    | false => rw [ha, Bool.false_and] at q; exact q
    | true =>
      rw [ha, Bool.true_and] at q
      obtain ⟨xs, hx⟩ := asc_seq ha
      have hlen : lenD x = xs.length := by unfold lenD; rw [hx]; rfl
      have e2 : (decide (lenD x ≠ 0)) = !decide ((xs.length : Int) = 0) := by
        rw [hlen, ← decide_not]; exact decide_eq_decide.mpr (by omega)
      rw [e2] at q
      have htup : tupD x = .tup xs := by unfold tupD; rw [hx]; rfl
      rw [htup] at q
      refine te_eq (ev_len rfl hx) ev_c _ _ ?_
      show if decide (((xs.length : Nat) : Int) = 0) = true then _ else _
      cases hd : decide ((xs.length : Int) = 0) with
      | true => rw [hd] at q; exact q
      | false =>
        rw [hd] at q
        obtain rfl | rfl := seq_cases hx <;> exact q
theorem at_cell {r : List Nat} {s : Nat} (h : s < r.length) : atI (r.map fun n => D.int (n : Nat)) (s : Nat) = some (.int (cellR r s : Nat)) := by
  unfold atI ixN cellR
  rw [if_pos (by omega), if_pos (by rw [List.length_map]; omega)]
  simp [h]
theorem ints_row (r : List Nat) : intsOf (r.map fun n => D.int (n : Nat)) = some (r.map fun (n : Nat) => (n : Int)) := by
  induction r with
  | nil => rfl
  | cons x r ih => rw [List.map_cons, intsOf, ih]; rfl
theorem mem_cast (s : Nat) (r : List Nat) : (s : Int) ∈ (r.map fun (n : Nat) => (n : Int)) ↔ s ∈ r := by
  rw [List.mem_map]
  refine ⟨fun ⟨a, h1, h2⟩ => ?_, fun h => ⟨s, h, rfl⟩⟩
  have : a = s := by omega
  exact this ▸ h1
end
end K32
set_option Elab.async false
set_option autoImplicit false
set_option linter.all false
set_option maxRecDepth 100000
set_option maxHeartbeats 3900000
namespace K32
open DL L2 PyProof.Rows PySem PySem.Spec
section
variable {K : Fg} {C : Cs}
theorem nums_nil_of {ns : List Nat} (h : [] = numsD ns) : ns = [] := by cases ns with | nil => rfl | cons a b => cases h
theorem nums_cons_of {d : D} {ds : List D} {ns : List Nat} (h : d :: ds = numsD ns) : ∃ n r, ns = n :: r ∧ d = .int (n : Nat) ∧ ds = numsD r := by
  cases ns with
  | nil => cases h
  | cons a b => injection h with h1 h2; exact ⟨a, b, rfl, h1, h2⟩
theorem nums_len (l : List Nat) : (numsD l).length = l.length := List.length_map ..
theorem rg_range (m : Nat) : rgD 0 (Int.toNat (m : Nat)) = numsD (List.range m) := by rw [Int.toNat_natCast]; exact rg_nums m
theorem cut_take {α : Type} (xs : List α) (b : Nat) (hb : b ≤ xs.length) : DL.cutD xs none (some (b : Int)) = xs.take b := by
  have h2 : HT.sIx xs.length xs.length (some (b : Int)) = b := by rw [HT.sIx_nat]; omega
  have h1 : HT.sIx xs.length 0 none = 0 := by simp [HT.sIx]
  unfold DL.cutD
  rw [h1, h2, Nat.sub_zero, List.drop_zero]
theorem cut_drop {α : Type} (xs : List α) (a : Nat) (h : a ≤ xs.length) : DL.cutD xs (some (a : Int)) none = xs.drop a := by
  have h2 : HT.sIx xs.length xs.length none = xs.length := by simp [HT.sIx]
  have h1 : HT.sIx xs.length 0 (some (a : Int)) = a := by rw [HT.sIx_nat]; omega
  unfold DL.cutD
  rw [h1, h2, List.take_of_length_le (by rw [List.length_drop]; omega)]
theorem fm_some {α β : Type} (f : α → β) : ∀ xs : List α, xs.filterMap (fun x => some (f x)) = xs.map f
  | [] => rfl
  | x :: xs => by rw [List.filterMap_cons_some (f := fun x => some (f x)) (b := f x) rfl, List.map_cons, fm_some f xs]
theorem lc_mp {α : Type} {g : WG} {we : WE} {vs : List Nat} {Φ : List D → Rho → Prop} (ρ0 : Rho) (e : α → D) (f : α → D) (xs : List α) (hl : xs.length ≤ sizeLine)
    (step : ∀ x ∈ xs, ∀ (N : D → Rho → Prop), N (f x) ρ0 → g (e x) ρ0 fun ρ1 => we ρ1 χ0 fun y ρ3 => N y (wipeR ρ3 vs)) (done : Φ (xs.map f) ρ0) : wLcL g wTrue we vs (xs.map e) [] ρ0 Φ := by
  refine lc_mfc ρ0 e (fun x => some (f x)) xs hl (fun x hx N hN => ?_) ?_
  · exact step x hx (fun y ρ => N (some y) ρ) hN
  · have : xs.filterMap (fun x => some (f x)) = xs.map f := fm_some f xs
    rw [this]; exact done
theorem below_ok {n m : Nat} (h : n < m) : belowD (.int (n : Nat)) (m : Nat) = true := by
  show (decide (0 ≤ (n : Int)) && decide ((n : Int) < (m : Nat))) = true
  rw [decide_eq_true (by omega), decide_eq_true (by omega)]; rfl
theorem m_check_deed : Sem0 2 2 (sp_check_deed C) (x_check_deed K C) := by
  rintro hl ds Ψ Ξ - ⟨h, t, d, rfl, hd, q⟩
  cases none_of h
  refine ⟨rfl, .int (t.length : Nat), look_deeds C t, rfl, rfl, rfl, .int (d : Nat), (t.length : Nat), rfl, rfl, ?_⟩
  show if (!belowD (.int (d : Nat)) (t.length : Nat)) = true then _ else _
  rw [below_ok hd]
  exact q
theorem m_state_after : Sem0 3 4 (sp_state_after C) (x_state_after K C) := by
  rintro hl ds Ψ Ξ - ⟨h, t, s, g, hs, rfl, q⟩
  cases none_of h
  refine ⟨rfl, rfl, rfl, t, _, rfl, rfl, ?_⟩
  rw [if_pos (below_ok hs)]
  refine ⟨rfl, rfl, rfl, t, .tup [], rfl, ⟨rfl, fun xs h y hy => by cases h; cases hy⟩, ?_⟩
  exact q
theorem setI_asc (ns : List Int) : (setI ns).Pairwise (· < ·) ∧ ∀ k, k ∈ setI ns ↔ k ∈ ns := by
  have hp : (setI ns).Perm (dedI ns) := List.mergeSort_perm _ _
  have hm : ∀ k, k ∈ setI ns ↔ k ∈ ns := fun k => hp.mem_iff.trans mem_dedI
  have nd : (setI ns).Nodup := hp.nodup_iff.mpr nodup_dedI
  have t : (setI ns).Pairwise (· ≤ ·) := by
    have := List.pairwise_mergeSort (le := fun a b : Int => decide (a ≤ b)) (by intro a b c h1 h2; simp at *; omega) (by intro a b; simp; omega) (dedI ns)
    exact this.imp (by intro a b h; simpa using h)
  exact ⟨t.imp₂ (fun a b h1 h2 => by omega) nd, hm⟩
theorem setI_nat (l : List Nat) : ∃ ls : List Nat, (setI (l.map fun (n : Nat) => (n : Int))).map D.int = numsD ls ∧ ls.Pairwise (· < ·) ∧ ∀ k, k ∈ ls ↔ k ∈ l := by
  obtain ⟨h1, h2⟩ := setI_asc (l.map fun (n : Nat) => (n : Int))
  generalize setI (l.map fun (n : Nat) => (n : Int)) = zs at h1 h2
  have hz : ∀ z ∈ zs, ∃ n : Nat, z = n := fun z hz => by
    obtain ⟨n, -, rfl⟩ := List.mem_map.mp ((h2 z).mp hz)
    exact ⟨n, rfl⟩
  have e : zs = (zs.map Int.toNat).map fun (n : Nat) => (n : Int) := by
    rw [List.map_map]
    refine (List.map_id' zs).symm.trans (List.map_congr_left fun z hz' => ?_)
    obtain ⟨n, rfl⟩ := hz z hz'
    rfl
  refine ⟨zs.map Int.toNat, ?_, ?_, fun k => ?_⟩
  · rw [e]
    unfold numsD
    simp only [List.map_map]
    refine List.map_congr_left fun z _ => ?_
    simp
  · rw [List.pairwise_map]
    refine List.Pairwise.imp_of_mem (fun {a b} ha hb h => ?_) h1
    obtain ⟨n, rfl⟩ := hz a ha
    obtain ⟨m, rfl⟩ := hz b hb
    simp at h ⊢; exact h
  · rw [List.mem_map]
    constructor
    · rintro ⟨z, hz1, rfl⟩
      obtain ⟨n, h3, rfl⟩ := List.mem_map.mp ((h2 z).mp hz1)
      exact h3
    · intro hk
      exact ⟨(k : Int), (h2 _).mpr (List.mem_map.mpr ⟨k, hk, rfl⟩), rfl⟩
theorem m_image : Sem0 2 3 (sp_image C) (x_image K C) := by
  rintro hl ds Ψ Ξ - ⟨h, r, ss, rfl, hs, hlen, q⟩
  cases none_of h
  show wLcL (wgName 2) wTrue (wOp wIx (wVar 0) (wVar 2)) [2] (ss.map fun n => D.int (n : Nat)) [] [.val (rowD r), .val (rowD ss), .un] _
  refine lc_mp _ _ (fun s => D.int (cellR r s : Nat)) ss (by have := big; omega) (fun s hx N hN => ?_) ?_
  · exact ⟨_, at_cell (hs s hx), hN⟩
  · obtain ⟨ls, h1, h2, h3⟩ := setI_nat (ss.map (cellR r))
    have e1 : intsOf (ss.map fun s => D.int (cellR r s : Nat)) = some ((ss.map (cellR r)).map fun (n : Nat) => (n : Int)) := by
      have := ints_row (ss.map (cellR r))
      rw [List.map_map] at this
      exact this
    refine ⟨_, e1, by simp; omega, ?_⟩
    rw [h1]
    exact q ls ⟨h2, fun x => (h3 x).trans (List.mem_map)⟩
end
end K32
set_option Elab.async false
set_option autoImplicit false
set_option linter.all false
set_option maxRecDepth 100000
set_option maxHeartbeats 3900000
namespace K32
open DL L2 PyProof.Rows PySem PySem.Spec
section
variable {K : Fg} {C : Cs}
theorem keptN_some {dn rest : Ent} {p : Nat × Nat} {s : Nat} (h : ∀ q ∈ dn, q.2 ≠ s) (hp : p.2 = s) : keptN (dn ++ p :: rest) s = p :: (dn ++ rest) := by
  have e : (dn ++ p :: rest).findIdx? (fun q => decide (q.2 = s)) = some dn.length := by
    induction dn with
    | nil => simp [List.findIdx?_cons, hp]
    | cons a l ih =>
      rw [List.cons_append, List.findIdx?_cons, decide_eq_false (h a List.mem_cons_self), ih fun q hq => h q (List.mem_cons_of_mem _ hq)]
      simp
  unfold keptN
  rw [e]
  simp
theorem keptN_none {r : Ent} {s : Nat} (h : ∀ q ∈ r, q.2 ≠ s) : keptN r s = (r.length, s) :: r := by
  have e : r.findIdx? (fun q => decide (q.2 = s)) = none := by
    induction r with
    | nil => rfl
    | cons a l ih =>
      rw [List.findIdx?_cons, decide_eq_false (h a List.mem_cons_self), ih fun q hq => h q (List.mem_cons_of_mem _ hq)]
      rfl
  unfold keptN
  rw [e]
theorem at_map {α : Type} {f : α → D} {xs : List α} {i : Nat} {x : α} (h : xs[i]? = some x) : atI (xs.map f) (i : Nat) = some (f x) := by
  obtain ⟨h1, h2⟩ := List.getElem?_eq_some_iff.mp h
  unfold atI ixN
  rw [if_pos (by omega), if_pos (by rw [List.length_map]; omega)]
  simp [h1, h2]
theorem m_kept_row : Sem0 2 5 (sp_kept_row C) (x_kept_row K C) := by
  rintro hl ds Ψ Ξ - ⟨h, r, s, rfl, hlen, q⟩
  cases none_of h
  have hb := big
  show wForL (wgTup 2 (wgCons (wgName 2) (wgCons (wgTup 2 (wgCons (wgName 3) (wgCons (wgName 4) wgNil))) wgNil))) (wIfS (wB (wOp (wEq false) (wVar 4) (wVar 1))) (wRet (wOp wAdd (wOp wAdd (wTup (wCons (wOp wIx (wVar 0) (wVar 2)) wNil)) (wSl (wVar 0) woNone (woSome (wVar 2)))) (wSl (wVar 0) (woSome (wOp wAdd (wVar 2) (wC (.int 1)))) woNone))) wNext)
    (enD (r.map entD)) [.val (rwD r), .val (.int (s : Nat)), .un, .un, .un] _
  refine for_inv (fun ds ρ => ∃ (dn rest : Ent) (a b c : Sl), ds = (((rest.map entD).zipIdx dn.length).map fun p => D.tup [.int (p.2 : Nat), p.1]) ∧ dn ++ rest = r ∧ (∀ q ∈ dn, q.2 ≠ s) ∧ ρ = [.val (rwD r), .val (.int (s : Nat)), a, b, c]) (fun d ds ρ N h hN => ?_) (fun ρ h => ?_) _ _ ⟨[], r, .un, .un, .un, rfl, rfl, (fun _ h => nomatch h), rfl⟩
  · obtain ⟨dn, rest, a, b, c, h1, h2, h3, rfl⟩ := h
    cases rest with
    | nil => cases h1
    | cons p rest =>
      rw [List.map_cons, List.zipIdx_cons, List.map_cons] at h1
      injection h1 with h4 h5
      subst h4 h5
      refine ⟨rfl, rfl, rfl, rfl, ?_⟩
      refine te_eq (a := (p.2 : Nat)) (b := (s : Nat)) (ρ1 := [.val (rwD r), .val (.int (s : Nat)), .val (.int (dn.length : Nat)), .val (.int (p.1 : Nat)), .val (.int (p.2 : Nat))]) (ev_var rfl) (ev_var rfl) _ _ ?_
      by_cases hp : p.2 = s
      · rw [decide_eq_true (by omega)]
        have hr : r[dn.length]? = some p := by rw [← h2]; simp
        have hl : dn.length < r.length := (List.getElem?_eq_some_iff.mp hr).1
        have e1 := cut_take (r.map entD) dn.length (by rw [List.length_map]; omega)
        have e2 := cut_drop (r.map entD) (dn.length + 1) (by rw [List.length_map]; omega)
        have e3 : ((dn.length + 1 : Nat) : Int) = (dn.length : Int) + 1 := by omega
        rw [e3] at e2
        have key : wAdd (.tup [entD p]) (.tup (DL.cutD (r.map entD) none (some (dn.length : Int)))) fun z => wAdd z (.tup (DL.cutD (r.map entD) (some ((dn.length : Int) + 1)) none)) fun z => Ψ z none := by
          rw [e1, e2]
          refine ⟨by simp; omega, by simp; omega, ?_⟩
          have e4 : [entD p] ++ (r.map entD).take dn.length ++ (r.map entD).drop (dn.length + 1) = (keptN r s).map entD := by
            have e5 : r.take dn.length = dn := by rw [← h2]; exact List.take_left' rfl
            have e6 : r.drop (dn.length + 1) = rest := by
              rw [← h2, show dn ++ p :: rest = (dn ++ [p]) ++ rest by simp]
              exact List.drop_left' (by simp)
            rw [← List.map_take, ← List.map_drop, e5, e6, ← h2, keptN_some h3 hp]
            simp
          rw [e4]
          exact q
        exact ⟨_, at_map hr, (by show 1 ≤ sizeLine; decide), key⟩
      · rw [decide_eq_false (by omega)]
        refine hN _ ⟨dn ++ [p], rest, _, _, _, ?_, by rw [List.append_assoc]; exact h2, fun q hq => ?_, rfl⟩
        · rw [List.length_append]; rfl
        · rcases List.mem_append.mp hq with z | z
          · exact h3 q z
          · rw [List.mem_singleton.mp z]; exact hp
  · obtain ⟨dn, rest, a, b, c, h1, h2, h3, rfl⟩ := h
    cases rest with
    | cons p rest => rw [List.map_cons, List.zipIdx_cons, List.map_cons] at h1; cases h1
    | nil =>
      rw [List.append_nil] at h2
      subst h2
      refine ⟨by show 2 ≤ sizeLine; decide, by show 1 ≤ sizeLine; decide, by show [D.tup _].length + (dn.map entD).length ≤ sizeLine; simp; omega, ?_⟩
      rw [keptN_none h3] at q
      have e : D.tup [.int ((dn.map entD).length : Nat), .int (s : Nat)] = entD (dn.length, s) := by rw [List.length_map]; rfl
      show Ψ (.tup ([D.tup [.int ((dn.map entD).length : Nat), .int (s : Nat)]] ++ dn.map entD)) none
      rw [e]
      exact q
theorem m_kept_rows : Sem0 2 4 (sp_kept_rows C) (x_kept_rows K C) := by
  rintro hl ds Ψ Ξ - ⟨h, x, rs, ps, rfl, hx, hlen, hr, q⟩
  cases none_of h
  have hb := big
  have key : wLcL (wgSeq 2 (wgCons (wgName 2) (wgCons (wgName 3) wgNil))) wTrue (wIf (wB (wOp (wInI false) (wVar 2) (wVar 1))) (wCallA 2 0 (sp_kept_row C) (fun ds _ => ds) (wCons (wVar 3) (wCons (wVar 2) wNil)) wNil) (wVar 3)) [2, 3]
      (enD (rs.map rwD)) [] [.val x, .val (rowD ps), .un, .un] fun ys ρ => wTupOf [.lst ys] fun z => Ψ z none := by
    have e : enD (rs.map rwD) = rs.zipIdx.map fun p => D.tup [.int (p.2 : Nat), rwD p.1] := by
      unfold enD
      rw [List.zipIdx_map, List.map_map]
      rfl
    rw [e]
    refine lc_mp _ _ (fun p => rwD (if p.2 ∈ ps then keptN p.1 p.2 else p.1)) _ (by rw [List.length_zipIdx]; omega) (fun p hp N hN => ?_) ?_
    · refine ⟨rfl, rfl, _, ints_row ps, ?_⟩
      show if decide ((p.2 : Int) ∈ ps.map fun (n : Nat) => (n : Int)) = true then _ else _
      have hm := mem_cast p.2 ps
      by_cases h1 : p.2 ∈ ps
      · rw [decide_eq_true (hm.mpr h1)]
        rw [if_pos h1] at hN
        refine ⟨rfl, rfl, rfl, p.1, p.2, rfl, hr _ ?_, hN⟩
        obtain ⟨a, b⟩ := p
        have := List.mem_zipIdx hp
        exact this.2.2 ▸ List.getElem_mem _
      · rw [decide_eq_false fun z => h1 (hm.mp z)]
        rw [if_neg h1] at hN
        exact hN
    · have e2 : (rs.zipIdx.map fun p => rwD (if p.2 ∈ ps then keptN p.1 p.2 else p.1)) = (keptR rs ps).map rwD := by
        unfold keptR
        rw [List.map_map]
        rfl
      rw [e2]
      exact q
  obtain rfl | rfl := seq_cases hx <;> exact key
theorem m_first_rows : Sem0 2 2 (sp_first_rows C) (x_first_rows K C) := by
  rintro hl ds Ψ Ξ - ⟨h, t, ss, g, rfl, q⟩
  cases none_of h
  have hw := g.head
  have hb := big
  refine ⟨by show 0 ≤ sizeLine; omega, by show 1 ≤ sizeLine; omega, rfl, .int (wd t : Nat), look_st C t, by omega, by omega, ?_, rfl, rfl, rfl, _, List.replicate (wd t) [], ss, rfl, ?_, ?_, ?_, q⟩
  · show [D.tup []].length * (Int.toNat (wd t : Nat)) ≤ sizeLine
    rw [Int.toNat_natCast]; simp; omega
  · show some (List.replicate (Int.toNat (wd t : Nat)) [D.tup []]).flatten = _
    rw [Int.toNat_natCast, List.map_replicate]
    congr 1
    induction wd t with
    | zero => rfl
    | succ n ih => rw [List.replicate_succ, List.flatten_cons, ih, List.replicate_succ]; rfl
  · rw [List.length_replicate]; omega
  · intro r hr
    rw [List.eq_of_mem_replicate hr]; simp
theorem m_led_rows : Sem0 2 5 (sp_led_rows C) (x_led_rows K C) := by
  rintro hl ds Ψ Ξ - ⟨h, tb, rs, rfl, ok, q⟩
  cases none_of h
  have hb := big
  have hlen := ok.len
  show wLcL (wgName 2) wTrue _ [2] (rs.map rwD) [] [.val (rowD tb), .val (rwsD rs), .un, .un, .un] _
  refine lc_mp _ _ (fun r => rwD (r.map fun p => (p.1, cellR tb p.2))) _ (by omega) (fun r hr N hN => ?_) ?_
  · obtain ⟨h1, h2⟩ := ok.row r hr
    show wLcL (wgSeq 2 (wgCons (wgName 3) (wgCons (wgName 4) wgNil))) wTrue _ [3, 4] (r.map entD) [] [.val (rowD tb), .val (rwsD rs), .val (rwD r), .un, .un] _
    refine lc_mp _ _ (fun p => entD (p.1, cellR tb p.2)) _ (by omega) (fun p hp N2 hN2 => ?_) ?_
    · exact ⟨rfl, rfl, _, at_cell (h2 p hp), (by show 2 ≤ sizeLine; decide), hN2⟩
    · have e : (r.map fun p => entD (p.1, cellR tb p.2)) = (r.map fun p => (p.1, cellR tb p.2)).map entD := by rw [List.map_map]; rfl
      rw [e]
      exact hN
  · have e : (rs.map fun r => rwD (r.map fun p => (p.1, cellR tb p.2))) = (ledR tb rs).map rwD := by unfold ledR; rw [List.map_map]; rfl
    rw [e]
    exact q
theorem m_led_note : Sem0 3 4 (sp_led_note C) (x_led_note K C) := by
  rintro hl ds Ψ Ξ - ⟨h, tb, ps, rs, rfl, hp, hpl, ok, q⟩
  cases none_of h
  refine ⟨rfl, rfl, rfl, tb, ps, rfl, hp, hpl, fun ls hls => ?_⟩
  refine ⟨rfl, rfl, rfl, tb, rs, rfl, ok, rfl, rfl, rfl, _, ledR tb rs, ls, rfl, rfl, ?_, ?_, (by show 2 ≤ sizeLine; decide), q ls hls⟩
  · unfold ledR; rw [List.length_map]; exact ok.len
  · intro r hr
    obtain ⟨r', h1, rfl⟩ := List.mem_map.mp hr
    rw [List.length_map]; exact (ok.row r' h1).1
end
end K32
set_option Elab.async false
set_option autoImplicit false
set_option linter.all false
set_option maxRecDepth 100000
set_option maxHeartbeats 3900000
namespace K32
open DL L2 PyProof.Rows PySem PySem.Spec
section
variable {K : Fg} {C : Cs}
theorem nodup_sub {α : Type} [BEq α] [LawfulBEq α] : ∀ {l m : List α}, l.Nodup → (∀ x ∈ l, x ∈ m) → l.length ≤ m.length
  | [], _, _, _ => Nat.zero_le _
  | x :: l, m, nd, h => by
    obtain ⟨h1, h2⟩ := List.nodup_cons.mp nd
    have hx : x ∈ m := h x List.mem_cons_self
    have := nodup_sub (l := l) (m := m.erase x) h2 fun y hy => (List.mem_erase_of_ne (fun z => h1 (by rw [← z]; exact hy))).mpr (h y (List.mem_cons_of_mem _ hy))
    rw [List.length_erase_of_mem hx] at this
    have := List.length_pos_of_mem hx
    rw [List.length_cons]
    omega
theorem asc_of {m : Nat} : ∀ (ss : List Nat) (v : Int), ss.Pairwise (· < ·) → (∀ s ∈ ss, s < m ∧ v ≤ (s : Nat)) → ascL (m : Int) (numsD ss) v = true
  | [], _, _, _ => rfl
  | s :: ss, v, hp, h => by
    show ascL (m : Int) (.int (s : Nat) :: numsD ss) v = true
    unfold ascL
    obtain ⟨h1, h2⟩ := h s List.mem_cons_self
    obtain ⟨a1, a2⟩ := List.pairwise_cons.mp hp
    have hb : (belowD (.int (s : Nat)) (m : Int) && decide (v ≤ (s : Nat))) = true := by
      rw [Bool.and_eq_true, decide_eq_true_eq]
      refine ⟨?_, h2⟩
      unfold belowD
      rw [Bool.and_eq_true, decide_eq_true_eq, decide_eq_true_eq]
      omega
    simp only [hb, if_true]
    exact asc_of ss _ a2 fun x hx => ⟨(h x (List.mem_cons_of_mem _ hx)).1, by have := a1 x hx; omega⟩
theorem StG.ok {m : Nat} {ss : List Nat} (h : StG m ss) {y : D} (hy : seqD y = some (numsD ss)) : startsOk m y = true := by
  unfold startsOk ascD lenD
  rw [hy]
  simp only [Option.getD_some, nums_len]
  rw [asc_of ss 0 h.pw fun s hs => ⟨h.lt s hs, by omega⟩, Bool.true_and, decide_eq_true_eq]
  exact fun z => h.ne (List.length_eq_zero_iff.mp z)
theorem asc_len {m : Nat} {ss : List Nat} (h : ss.Pairwise (· < ·)) (hl : ∀ s ∈ ss, s < m) : ss.length ≤ m := by
  have := nodup_sub (l := ss) (m := List.range m) (h.imp fun h => Nat.ne_of_lt h) fun x hx => List.mem_range.mpr (hl x hx)
  simpa using this
theorem StG.len {m : Nat} {ss : List Nat} (h : StG m ss) : ss.length ≤ m := asc_len h.pw h.lt
theorem m_LogNote_init : Sem0 3 3 (sp_LogNote_init C) (x_LogNote_init K C) := by
  rintro hl ds Ψ Ξ - ⟨h, t, ss, g, hs, rfl, q⟩
  match hl, h with
  | some (l, o), h =>
    cases (Option.some.inj h : o = .i C.LogNote [] [])
    have hp : plain2 (.lst (numsD ss)) := ⟨rfl, fun xs h y hy => by cases h; obtain ⟨n, _, rfl⟩ := List.mem_map.mp hy; rfl⟩
    refine ⟨⟨_, _, rfl⟩, rfl, rfl, rfl, t, .lst (numsD ss), rfl, g, .inr ⟨rfl, hp, ?_⟩⟩
    rw [if_pos (hs.ok rfl)]
    refine ⟨rfl, List.not_mem_nil, by decide, ⟨_, _, rfl⟩, rfl, by decide, by decide, ⟨_, _, rfl⟩, rfl, by decide, by decide, ⟨_, _, rfl⟩, ?_⟩
    exact ⟨rfl, rowD ss, rfl, rfl, rfl, rfl, t, ss, g, rfl, rfl, by decide, by decide, _, rfl, q⟩
end
end K32
set_option Elab.async false
set_option autoImplicit false
set_option linter.all false
set_option maxRecDepth 100000
set_option maxHeartbeats 3900000
namespace K32
open DL L2 PyProof.Rows PySem PySem.Spec
section
variable {K : Fg} {C : Cs}
theorem m_LogNote_put : Sem0 2 2 (sp_LogNote_put C) (x_LogNote_put K C) := by
  rintro hl ds Ψ Ξ - ⟨t, ps, rs, a, d, tb, h, g, hps, ok, rfl, htb, q⟩
  match hl, h with
  | some (l, o), h =>
    cases (Option.some.inj h : o = noteO C t ps rs a)
    obtain ⟨hd, -⟩ := List.getElem?_eq_some_iff.mp htb
    have hlen : tb.length = wd t := (g.row tb (List.mem_of_getElem? htb)).2.2.1
    have hw := g.head
    refine ⟨rfl, mach C t, rfl, rfl, rfl, rfl, t, d, rfl, hd, ?_⟩
    refine ⟨rfl, mach C t, rfl, rfl, .tup (t.map rowD), look_tb C t, rowD tb, at_map htb, rfl, rowD ps, rfl, rfl, rwsD rs, rfl, rfl, rfl, rfl, tb, ps, rs, rfl, (by rw [hlen]; exact hps.lt), (by have := hps.len; omega), (by rw [hlen]; exact ok), fun ls hls => ?_⟩
    refine ⟨rfl, rfl, (by show (4 : Nat) < 900; decide), rfl, (by show (4 : Nat) < 900; decide), rfl, ?_⟩
    refine ⟨rfl, (by show (4 : Nat) < 900; decide), a, rfl, rfl, (by show (4 : Nat) < 900; decide), ?_⟩
    exact ⟨rfl, .int (a + 1), rfl, _, rfl, q ls hls⟩
theorem m_LogNote_mark : Sem0 2 2 (sp_LogNote_mark C) (x_LogNote_mark K C) := by
  rintro hl ds Ψ Ξ - ⟨h, t, ps, rs, a, s, m, p, r, g, hs, hps, hr, rfl, q⟩
  cases none_of h
  refine ⟨rfl, mach C t, rfl, rfl, rfl, rfl, t, _, rfl, rfl, ?_⟩
  rw [if_pos (below_ok hs)]
  refine ⟨rfl, rowD ps, rfl, _, ints_row ps, ?_⟩
  show if (!decide ((s : Int) ∈ ps.map fun (n : Nat) => (n : Int))) = true then _ else _
  rw [decide_eq_true ((mem_cast s ps).mpr hps)]
  refine ⟨rfl, rwsD rs, rfl, _, at_map hr, entD (m, p), ?_, .int (m : Nat), ?_, q⟩
  · exact at_map (f := entD) (xs := (m, p) :: r) (i := 0) rfl
  · show atI [D.int (m : Nat), .int (p : Nat)] 0 = _
    exact (at2 _ _).1
theorem fm_filter (r : Ent) (m : Nat) : r.filterMap (fun e => if e.1 = m then some (D.int (e.2 : Nat)) else none) = (r.filter fun e => decide (e.1 = m)).map fun e => D.int (e.2 : Nat) := by
  induction r with
  | nil => rfl
  | cons e r ih =>
    by_cases h : e.1 = m
    · rw [List.filterMap_cons_some (by rw [if_pos h]), List.filter_cons_of_pos (by simp [h]), List.map_cons, ih]
    · rw [List.filterMap_cons_none (by rw [if_neg h]), List.filter_cons_of_neg (by simp [h]), ih]
theorem m_LogNote_read : Sem0 4 8 (sp_LogNote_read C) (x_LogNote_read K C) := by
  rintro hl ds Ψ Ξ - ⟨h, t, ps, rs, a, s, m, p, r, rest, g, hs, hr, hrl, hm, hp, hf, rfl, q⟩
  cases none_of h
  have hb := big
  refine ⟨rfl, mach C t, rfl, rfl, rfl, rfl, t, _, rfl, rfl, ?_⟩
  rw [if_pos (below_ok hs)]
  refine ⟨rfl, rwsD rs, rfl, _, at_map hr, ?_⟩
  refine ⟨rfl, rfl, rfl, .int (m : Nat), ((r.map entD).length : Nat), rfl, rfl, ?_⟩
  show if (!belowD (.int (m : Nat)) ((r.map entD).length : Nat)) = true then _ else _
  rw [below_ok (by rw [List.length_map]; exact hm)]
  show wLcL (wgSeq 2 (wgCons (wgName 6) (wgCons (wgName 7) wgNil))) (wB (wOp (wEq false) (wVar 6) (wVar 2))) (wVar 7) [6, 7] (r.map entD) [] [.val (noteD C t ps rs a), .val (.int (s : Nat)), .val (.int (m : Nat)), .val (.tup []), .val (rwD r), .un, .un, .un] _
  refine lc_mfc _ _ (fun e => if e.1 = m then some (D.int (e.2 : Nat)) else none) _ (by omega) (fun e he N hN => ?_) ?_
  · refine ⟨rfl, rfl, ?_⟩
    refine te_eq (a := (e.1 : Nat)) (b := (m : Nat)) (ρ1 := [.val (noteD C t ps rs a), .val (.int (s : Nat)), .val (.int (m : Nat)), .val (.tup []), .val (rwD r), .un, .val (.int (e.1 : Nat)), .val (.int (e.2 : Nat))]) (ev_var rfl) (ev_var rfl) _ _ ?_
    by_cases h1 : e.1 = m
    · rw [if_pos h1] at hN
      rw [decide_eq_true (by omega)]
      exact hN
    · rw [if_neg h1] at hN
      rw [decide_eq_false (by omega)]
      exact hN
  · rw [fm_filter, hf]
    exact ⟨rfl, mach C t, rfl, .int (p : Nat), at_map (f := fun e : Nat × Nat => D.int (e.2 : Nat)) (xs := (m, p) :: rest) (i := 0) rfl, rfl, rfl, rfl, t, p, g, hp, rfl, q⟩
end
end K32
set_option Elab.async false
set_option autoImplicit false
set_option linter.all false
set_option maxRecDepth 100000
set_option maxHeartbeats 3900000
namespace K32
open DL L2 PyProof.Rows PySem PySem.Spec
section
variable {K : Fg} {C : Cs} {Δ : DE}
theorem nel {ns : List Nat} {Φ : D → Prop} (q : Φ (.bl (!decide (ns = [])))) : wEq true (.lst (numsD ns)) (.lst []) Φ := by
  have py : pyOf (.lst (numsD ns)) = some (.list (ns.map fun n => .int (n : Nat))) := by
    have : ∀ r : List Nat, pyOfL (r.map fun n => D.int (n : Nat)) = some (r.map fun n => .int (n : Nat)) := fun r => by
      induction r with
      | nil => rfl
      | cons n r ih => simp [pyOfL, pyOf, ih]
    simp [numsD, pyOf, this]
  have sh : SeqAt.shaped (.list (ns.map fun n => PyData.int (n : Nat))) = true := by
    have := (shaped_row ns).1
    simpa [SeqAt.shaped, PyData.depth, PyData.canLay0] using this
  refine ⟨_, .list [], py, rfl, sh, by decide +kernel, ?_⟩
  have e : PyData.eqv (.list (ns.map fun n => PyData.int (n : Nat))) (.list []) = decide (ns = []) := by
    cases ns with
    | nil => decide +kernel
    | cons n ns => simp [PyData.eqv, PyData.eqvAll]
  rw [if_pos rfl, e]; exact q
theorem te_nel {ρ : Rho} {i : Nat} {ns : List Nat} (h : ρ[i]? = some (.val (.lst (numsD ns)))) : Te (wB (wOp (wEq true) (wVar i) (wLst wNil))) ρ (!decide (ns = [])) ρ := fun χ Φ q => by
  show wVar i ρ χ (fun x ρ1 => wLst wNil ρ1 χ fun y ρ2 => wEq true x y fun z => match z with | D.bl b => Φ b ρ2 | _ => False)
  refine ev_var h χ _ ⟨Nat.zero_le _, ?_⟩
  exact nel (Φ := fun z => match z with | D.bl b => Φ b ρ | _ => False) q
theorem te_if {wt : WT} {w u : WS} {ρ ρ' : Rho} {b : Bool} (h : Te wt ρ b ρ') (q : if b = true then w ρ' Δ else u ρ' Δ) : wIfS wt w u ρ Δ := h _ _ q
theorem te_and {a b : WT} {ρ ρ' : Rho} {x : Bool} (h : Te a ρ true ρ) (h2 : Te b ρ x ρ') : Te (wAnd a b) ρ x ρ' := fun χ Φ q => h χ _ (show if true = true then _ else _ from by rw [if_pos rfl]; exact h2 χ Φ q)
theorem te_andF {a b : WT} {ρ ρ' : Rho} (h : Te a ρ false ρ') : Te (wAnd a b) ρ false ρ' := fun χ Φ q => h χ _ (show if false = true then _ else _ from by rw [if_neg Bool.false_ne_true]; exact q)
theorem te_orF {a b : WT} {ρ ρ' : Rho} {x : Bool} (h : Te a ρ false ρ) (h2 : Te b ρ x ρ') : Te (wOr a b) ρ x ρ' := fun χ Φ q => h χ _ (show if false = true then _ else _ from by rw [if_neg Bool.false_ne_true]; exact h2 χ Φ q)
theorem neNil {F : D → Prop} (q : F (.bl false)) : wEq true (.lst []) (.lst []) F := eq_same (x := .lst []) (p := .list []) rfl (by decide +kernel) q
theorem ten_eq {w : WE} {ρ : Rho} {P : Int → Rho → Prop} (h : ∀ χ Φ, (∀ v ρ', P v ρ' → Φ (.int v) ρ') → w ρ χ Φ) (c : Int) (χ : XC) (Φ : Bool → Rho → Prop) (q : ∀ v ρ', P v ρ' → Φ (decide (v = c)) ρ') : wB (wOp (wEq false) w (wC (.int c))) ρ χ Φ :=
  h χ _ fun v ρ' hp => eqF_ints (a := v) (b := c) (Φ := fun z => match z with | .bl b => Φ b ρ' | _ => False) (q v ρ' hp)
abbrev sR (l : Addr) (m : Nat) (s2 : Sl) (o : OD) : Rho := [.own l o, .val (.int (m : Nat)), s2, .un]
theorem comp_s {l : Addr} {m : Nat} {s2 : Sl} {Φ : List D → Rho → Prop} : ∀ (xs acc : List Nat) (o : OD), GoodB o → acc.length + xs.length ≤ 1000 →
    (∀ ys o', GoodB o' → ys.Sublist xs → Φ (numsD (acc ++ ys)) (sR l m s2 o')) →
    wLcL (wgName 3) (wB (wOp (wEq false) (wCallB 0 1 (sp_law_take C) (wCons (wC (.int 2)) wNil)) (wC (.int 0)))) (wVar 3) [3] (numsD xs) (numsD acc) (sR l m s2 o) Φ
  | [], acc, o, ho, _, q => by have := q [] o ho (List.Sublist.refl _); rw [List.append_nil] at this; exact this
  | x :: xs, acc, o, ho, hz, q => by
    have hb := big
    have hz' : acc.length + (xs.length + 1) ≤ 1000 := hz
    refine ten_eq (P := fun _ ρ' => ∃ o', GoodB o' ∧ ρ' = [.own l o', .val (.int (m : Nat)), s2, .val (.int (x : Nat))]) (fun χ Φ h => ?_) 0 χ0 _ ?_
    · exact ⟨⟨l, o, rfl⟩, rfl, o, 2, rfl, ho, rfl, by decide, by decide, fun d o' d0 d1 h' => ⟨o', rfl, h _ _ ⟨o', h', rfl⟩⟩⟩
    · rintro v ρ' ⟨o', h', rfl⟩
      cases decide (v = 0) with
      | false => exact comp_s xs acc o' h' (by omega) fun ys o2 h2 hs => q ys o2 h2 (List.Sublist.cons _ hs)
      | true =>
        have e2 : numsD acc ++ [D.int (x : Nat)] = numsD (acc ++ [x]) := by unfold numsD; rw [List.map_append]; rfl
        refine ⟨by rw [nums_len]; omega, ?_⟩
        rw [e2]
        exact comp_s xs (acc ++ [x]) o' h' (by simp only [List.length_append, List.length_cons, List.length_nil]; omega) fun ys o2 h2 hs => by
          have := q (x :: ys) o2 h2 (hs.cons₂ x)
          rw [List.append_assoc]
          exact this
theorem range_st {m : Nat} (h : 1 ≤ m) : StG m (List.range m) := ⟨fun z => by have := congrArg List.length z; simp at this; omega, List.pairwise_lt_range, fun s hs => List.mem_range.mp hs⟩
theorem m_law_starts : Sem0 2 4 (sp_law_starts C) (x_law_starts K C) := by
  rintro hl ds Ψ Ξ - ⟨o, m, h, ho, rfl, m1, m2, q⟩
  match hl, h with
  | some (l, o'), h =>
    cases (Option.some.inj h : o' = o)
    have hr : rgD 0 (Int.toNat (m : Nat)) = numsD (List.range m) := rg_range m
    refine ⟨⟨l, _, rfl⟩, rfl, o, 3, rfl, ho, rfl, by decide, by decide, fun d o2 d0 d1 h2 => ⟨o2, rfl, ?_⟩⟩
    show if decide ((0 : Int) < d) = true then _ else _
    cases hd : decide ((0 : Int) < d) with
    | true =>
      rw [if_pos rfl]
      refine ⟨⟨by omega, by omega⟩, o2, rfl, ?_⟩
      rw [hr]
      exact q _ o2 (range_st m1) h2
    | false =>
      rw [if_neg (by decide)]
      refine ⟨⟨by omega, by omega⟩, ?_⟩
      rw [hr]
      refine comp_s (l := l) (m := m) (s2 := .un) (List.range m) [] o2 h2 (by simp; omega) fun ys o3 h3 hs => ?_
      have key : wRet (wIf (wB (wOp (wEq true) (wVar 2) (wLst wNil))) (wVar 2) (wLst (wCons (wCallB 0 1 (sp_law_take C) (wCons (wVar 1) wNil)) wNil))) [.own l o3, .val (.int (m : Nat)), .val (.lst (numsD ys)), .un] (dEnds (some (l, o)) Ψ Ξ) := by
        dsimp only [wRet, wIf]
        refine te_nel (ρ := [.own l o3, .val (.int (m : Nat)), .val (.lst (numsD ys)), .un]) (i := 2) (ns := ys) rfl _ _ ?_
        by_cases e : ys = []
        · rw [decide_eq_true e]
          refine ⟨⟨l, _, rfl⟩, rfl, o3, m, rfl, h3, rfl, by omega, by omega, fun d o4 d0 d1 h4 => ⟨o4, rfl, by show 1 ≤ sizeLine; decide, o4, rfl, ?_⟩⟩
          obtain ⟨v, hv, hv2⟩ := nat_of d0 d1
          rw [hv]
          exact q [v] o4 ⟨by simp, by simp, fun s hs => by rw [List.mem_singleton.mp hs]; omega⟩ h4
        · rw [decide_eq_false e]
          exact ⟨o3, rfl, q ys o3 ⟨e, List.Pairwise.sublist hs List.pairwise_lt_range, fun s hs' => List.mem_range.mp (hs.subset hs')⟩ h3⟩
      exact key
end
end K32
set_option Elab.async false
set_option autoImplicit false
set_option linter.all false
set_option maxRecDepth 100000
set_option maxHeartbeats 3900000
namespace K32
open DL L2 PyProof.Rows PySem PySem.Spec
section
variable {K : Fg} {C : Cs} {t : Tbl} {ss log ps : List Nat} {rs : List Ent} {r : Ent}
theorem led_split (t : Tbl) (s : Nat) (log : List Nat) (k : Nat) : ledN t s log = ledN t (ledN t s (log.take k)) (log.drop k) := by
  unfold ledN
  rw [← List.foldl_append, List.take_append_drop]
theorem RowI.le (h : RowI t ss log r) : r.length ≤ ss.length := by
  obtain ⟨f, h1, h2⟩ := h.rep
  have nd : (r.map fun p => f p.1).Nodup := by
    rw [List.Nodup, List.pairwise_map]
    have := h.nd
    rw [List.Nodup, List.pairwise_map] at this
    exact this.imp_of_mem fun ha hb hne z => hne (h2 _ ha _ hb z)
  have := nodup_sub (m := ss) nd fun x hx => by
    obtain ⟨p, hp, rfl⟩ := List.mem_map.mp hx
    exact (h1 p hp).1
  rwa [List.length_map] at this
theorem filt_one {m p : Nat} : ∀ {r : Ent}, (r.map (·.1)).Nodup → (m, p) ∈ r → r.filter (fun e => decide (e.1 = m)) = [(m, p)]
  | [], _, h => nomatch h
  | e :: r, nd, h => by
    rw [List.map_cons, List.nodup_cons] at nd
    rcases List.mem_cons.mp h with z | z
    · subst z
      rw [List.filter_cons_of_pos (by simp)]
      congr 1
      rw [List.filter_eq_nil_iff]
      intro e he hd
      exact nd.1 (List.mem_map.mpr ⟨e, he, of_decide_eq_true hd⟩)
    · rw [List.filter_cons_of_neg, filt_one nd.2 z]
      intro hd
      exact nd.1 (List.mem_map.mpr ⟨(m, p), z, (of_decide_eq_true hd).symm⟩)
theorem RowI.uniq (h : RowI t ss log r) {m p p' : Nat} (h1 : (m, p) ∈ r) (h2 : (m, p') ∈ r) : p = p' := by
  have e := filt_one h.nd h1
  have e' := filt_one h.nd h2
  rw [e] at e'
  injection e' with e'
  injection e'
theorem RowI.lt' (g : Good t) (st : StG (wd t) ss) (lg : ∀ n ∈ log, n < t.length) (h : RowI t ss log r) {p : Nat × Nat} (hp : p ∈ r) : p.2 < wd t := by
  obtain ⟨f, h1, h2⟩ := h.rep
  obtain ⟨a, b⟩ := h1 p hp
  rw [← b]
  exact g.led lg (st.lt _ a)
theorem NoteI.rows (g : Good t) (h : NoteI t ss log ps rs) : RowsOk (wd t) rs := by
  have hw := g.head
  refine ⟨by have := h.len; omega, fun r hr => ⟨?_, fun p hp => (h.row r hr).lt' g h.st h.lgt hp⟩⟩
  have := (h.row r hr).le
  have := h.st.len
  omega
theorem nm_read : ("read" : Str) ∉ (["possible", "machine", "age", "rows"] : List Str) := by decide
theorem nm_mark : ("mark" : Str) ∉ (["possible", "machine", "age", "rows"] : List Str) := by decide
theorem nm_put : ("put" : Str) ∉ (["possible", "machine", "age", "rows"] : List Str) := by decide
/-- note.read(state, mark) of a copy -/
theorem read_ok (g : Good t) (hn : NoteI t ss log ps rs) {c : Cpy} (hc : CpyI t log rs c) {a : Int} {Ψ : D → Option OD → Prop} {Ξ : Addr → Str → D → Prop} (q : Ψ (.int (ledN t c.1 (log.drop c.2.2) : Nat)) none) :
    sp_LogNote_read C none [noteD C t ps rs a, .int (c.1 : Nat), .int (c.2.1 : Nat), .tup []] Ψ Ξ := by
  obtain ⟨h1, h2, r, h3, h4⟩ := hc
  have hr := List.mem_of_getElem? h3
  have hi := hn.row r hr
  exact ⟨rfl, t, ps, rs, a, c.1, c.2.1, _, r, [], g, h1, h3, ((hn.rows g).row r hr).1, hi.lt (c.2.1, ledN t c.1 (log.drop c.2.2)) h4, hi.lt' g hn.st hn.lgt h4, filt_one hi.nd h4, rfl, q⟩
theorem cut_n (ns : List Nat) (a : Nat) (h : a ≤ ns.length) : DL.cutD (numsD ns) none (some (a : Int)) = numsD (ns.take a) := by
  rw [cut_take _ a (by rw [nums_len]; exact h)]
  unfold numsD
  rw [List.map_take]
theorem cut_d (ns : List Nat) (a : Nat) (h : a ≤ ns.length) : DL.cutD (numsD ns) (some (a : Int)) none = numsD (ns.drop a) := by
  rw [cut_drop _ a (by rw [nums_len]; exact h)]
  unfold numsD
  rw [List.map_drop]
abbrev cR (C : Cs) (t : Tbl) (ps : List Nat) (rs : List Ent) (a : Int) (ss log : List Nat) (cs : List Cpy) (s5 s6 s7 s8 s9 : Sl) : Rho := [.val (noteD C t ps rs a), .val (tbsD t), .val (.lst (numsD ss)), .val (rowD log), .val (.lst (cs.map cpyD)), s5, s6, s7, s8, s9]
theorem m_law_copies_right : Sem0 5 10 (sp_law_copies_right C) (x_law_copies_right K C) := by
  rintro hl ds Ψ Ξ - ⟨h, t, ss, log, ps, rs, a, cs, g, hn, hcs, rfl, q⟩
  cases none_of h
  refine for_inv (fun ds ρ => ∃ (rest : List Cpy) (s5 s6 s7 s8 s9 : Sl), ds = rest.map cpyD ∧ (∀ c ∈ rest, c ∈ cs) ∧ ρ = cR C t ps rs a ss log cs s5 s6 s7 s8 s9) (fun d ds ρ N h hN => ?_) (fun ρ h => ?_) _ _ ⟨cs, .un, .un, .un, .un, .un, rfl, (fun _ h => h), rfl⟩
  · obtain ⟨rest, s5, s6, s7, s8, s9, h1, h2, rfl⟩ := h
    cases rest with
    | nil => cases h1
    | cons c rest =>
      rw [List.map_cons] at h1
      injection h1 with h3 h4
      subst h3 h4
      have hc := hcs c (h2 c List.mem_cons_self)
      have hc0 := hc
      obtain ⟨c1, c2, -⟩ := hc0
      refine ⟨rfl, rfl, ?_⟩
      refine ⟨rfl, nm_read, rfl, read_ok g hn hc ?_⟩
      refine for_inv (fun ds ρ => ∃ (sr : List Nat) (s9 : Sl), ds = numsD sr ∧ (∀ s ∈ sr, s ∈ ss) ∧ ρ = cR C t ps rs a ss log cs (.val (.int (c.1 : Nat))) (.val (.int (c.2.1 : Nat))) (.val (.int (c.2.2 : Nat))) (.val (.int (ledN t c.1 (log.drop c.2.2) : Nat))) s9) (fun d ds ρ N2 h hN2 => ?_) (fun ρ h => ?_) _ _ ⟨ss, s9, rfl, (fun _ h => h), rfl⟩
      · obtain ⟨sr, s9, k1, k2, rfl⟩ := h
        obtain ⟨s, sr, rfl, rfl, rfl⟩ := nums_cons_of k1
        have hs : s < wd t := hn.st.lt s (k2 s List.mem_cons_self)
        have nxt : N2 (cR C t ps rs a ss log cs (.val (.int (c.1 : Nat))) (.val (.int (c.2.1 : Nat))) (.val (.int (c.2.2 : Nat))) (.val (.int (ledN t c.1 (log.drop c.2.2) : Nat))) (.val (.int (s : Nat)))) := hN2 _ ⟨sr, _, rfl, (fun x hx => k2 x (List.mem_cons_of_mem _ hx)), rfl⟩
        have e1 : Ev (wCallA 3 0 (sp_law_led C) (fun ds _ => ds) (wCons (wVar 1) (wCons (wVar 9) (wCons (wSl (wVar 3) woNone (woSome (wVar 7))) wNil))) wNil) (cR C t ps rs a ss log cs (.val (.int (c.1 : Nat))) (.val (.int (c.2.1 : Nat))) (.val (.int (c.2.2 : Nat))) (.val (.int (ledN t c.1 (log.drop c.2.2) : Nat))) (.val (.int (s : Nat)))) (.int (ledN t s (log.take c.2.2) : Nat)) _ := fun χ Φ q =>
          ⟨rfl, rfl, rfl, t, s, log.take c.2.2, g, hs, (fun n hn' => hn.lgt n (List.mem_of_mem_take hn')), (show [tbsD t, D.int (s : Nat), D.tup (DL.cutD (numsD log) none (some (c.2.2 : Int)))] = _ by rw [cut_n log _ c2]; rfl), q⟩
        have e2 : Ev (wCallA 3 0 (sp_law_led C) (fun ds _ => ds) (wCons (wVar 1) (wCons (wVar 9) (wCons (wVar 3) wNil))) wNil) (cR C t ps rs a ss log cs (.val (.int (c.1 : Nat))) (.val (.int (c.2.1 : Nat))) (.val (.int (c.2.2 : Nat))) (.val (.int (ledN t c.1 (log.drop c.2.2) : Nat))) (.val (.int (s : Nat)))) (.int (ledN t s log : Nat)) _ := fun χ Φ q =>
          ⟨rfl, rfl, rfl, t, s, log, g, hs, hn.lgt, rfl, q⟩
        by_cases hq : ledN t s (log.take c.2.2) = c.1
        · have hsame : ledN t s log = ledN t c.1 (log.drop c.2.2) := by rw [led_split t s log c.2.2, hq]
          refine te_if (te_and (x := false) ?_ ?_) nxt
          · have := te_eq (b := (c.1 : Nat)) e1 (ev_var (i := 5) (d := .int (c.1 : Nat)) rfl)
            rwa [decide_eq_true (by omega)] at this
          · have := te_ne (b := (ledN t c.1 (log.drop c.2.2) : Nat)) e2 (ev_var (i := 8) (d := .int (ledN t c.1 (log.drop c.2.2) : Nat)) rfl)
            rwa [decide_eq_true (by omega)] at this
        · refine te_if (te_andF ?_) nxt
          have := te_eq (b := (c.1 : Nat)) e1 (ev_var (i := 5) (d := .int (c.1 : Nat)) rfl)
          rwa [decide_eq_false (by omega)] at this
      · obtain ⟨sr, s9, k1, k2, rfl⟩ := h
        exact hN _ ⟨rest, _, _, _, _, s9, rfl, (fun x hx => h2 x (List.mem_cons_of_mem _ hx)), rfl⟩
  · obtain ⟨rest, s5, s6, s7, s8, s9, h1, h2, rfl⟩ := h
    exact q
end
end K32
set_option Elab.async false
set_option autoImplicit false
set_option linter.all false
set_option maxRecDepth 100000
set_option maxHeartbeats 3900000
namespace K32
open DL L2 PyProof.Rows PySem PySem.Spec
section
variable {t : Tbl} {ss log ps ls tb : List Nat} {rs : List Ent} {r : Ent} {d : Nat}
theorem keptN_or (r : Ent) (s : Nat) : (∃ dn rest p, r = dn ++ p :: rest ∧ p.2 = s ∧ keptN r s = p :: (dn ++ rest)) ∨ ((∀ q ∈ r, q.2 ≠ s) ∧ keptN r s = (r.length, s) :: r) := by
  by_cases h : ∀ q ∈ r, q.2 ≠ s
  · exact .inr ⟨h, keptN_none h⟩
  · have ⟨dn, p, rest, h1, h2, h3⟩ : ∃ dn p rest, r = dn ++ p :: rest ∧ (∀ q ∈ dn, q.2 ≠ s) ∧ p.2 = s := by
      induction r with
      | nil => exact absurd (fun q hq => nomatch hq) h
      | cons e r ih =>
        by_cases he : e.2 = s
        · exact ⟨[], e, r, rfl, (fun q hq => nomatch hq), he⟩
        · have : ¬ ∀ q ∈ r, q.2 ≠ s := fun z => h fun q hq => (List.mem_cons.mp hq).elim (fun e' => e' ▸ he) (z q)
          obtain ⟨dn, p, rest, a, b, c⟩ := ih this
          exact ⟨e :: dn, p, rest, by rw [a]; rfl, fun q hq => (List.mem_cons.mp hq).elim (fun e' => e' ▸ he) (b q), c⟩
    exact .inl ⟨dn, rest, p, h1, h3, h1 ▸ keptN_some h2 h3⟩
theorem keptN_mem (r : Ent) (s : Nat) {p : Nat × Nat} (h : p ∈ r) : p ∈ keptN r s := by
  rcases keptN_or r s with ⟨dn, rest, e, h1, h2, h3⟩ | ⟨h1, h2⟩
  · rw [h3]
    rw [h1] at h
    simp only [List.mem_append, List.mem_cons] at h ⊢
    rcases h with z | z | z
    · exact .inr (.inl z)
    · exact .inl z
    · exact .inr (.inr z)
  · rw [h2]; exact List.mem_cons_of_mem _ h
theorem RowI.kept (h : RowI t ss log r) {s : Nat} (hs : ∃ x ∈ ss, ledN t x log = s) : RowI t ss log (keptN r s) := by
  rcases keptN_or r s with ⟨dn, rest, e, h1, h2, h3⟩ | ⟨h1, h2⟩
  · rw [h3]
    have hp : (e :: (dn ++ rest)).Perm r := by rw [h1]; exact List.perm_middle.symm
    obtain ⟨f, a, b⟩ := h.rep
    refine ⟨(hp.map _).nodup_iff.mpr h.nd, fun p hp' => by rw [hp.length_eq]; exact h.lt p (hp.mem_iff.mp hp'), f, fun p hp' => a p (hp.mem_iff.mp hp'), fun p hp' q hq' => b p (hp.mem_iff.mp hp') q (hp.mem_iff.mp hq')⟩
  · rw [h2]
    obtain ⟨f, a, b⟩ := h.rep
    obtain ⟨x, x1, x2⟩ := hs
    refine ⟨?_, fun p hp => ?_, fun m => if m = r.length then x else f m, fun p hp => ?_, fun p hp q hq z => ?_⟩
    · rw [List.map_cons, List.nodup_cons]
      refine ⟨fun z => ?_, h.nd⟩
      obtain ⟨p, hp, e⟩ := List.mem_map.mp z
      have := h.lt p hp
      simp only at e
      omega
    · rw [List.length_cons]
      rcases List.mem_cons.mp hp with rfl | hp
      · exact Nat.lt_succ_self _
      · have := h.lt p hp; omega
    · rcases List.mem_cons.mp hp with rfl | hp
      · simp only [if_true]; exact ⟨x1, x2⟩
      · have := h.lt p hp
        simp only [if_neg (show ¬ p.1 = r.length by omega)]
        exact a p hp
    · rcases List.mem_cons.mp hp with rfl | hp <;> rcases List.mem_cons.mp hq with rfl | hq
      · rfl
      · have := h.lt q hq
        simp only [if_true, if_neg (show ¬ q.1 = r.length by omega)] at z
        exact absurd ((z ▸ (a q hq).2 : ledN t x log = q.2).symm.trans x2) (h1 q hq)
      · have := h.lt p hp
        simp only [if_true, if_neg (show ¬ p.1 = r.length by omega)] at z
        exact absurd ((z ▸ (a p hp).2 : ledN t x log = p.2).symm.trans x2) (h1 p hp)
      · have := h.lt p hp
        have := h.lt q hq
        simp only [if_neg (show ¬ p.1 = r.length by omega), if_neg (show ¬ q.1 = r.length by omega)] at z
        exact b p hp q hq z
theorem keptR_at (i : Nat) : (keptR rs ps)[i]? = (rs[i]?).map fun r => if i ∈ ps then keptN r i else r := by
  unfold keptR
  rw [List.getElem?_map, List.getElem?_zipIdx]
  cases rs[i]? with
  | none => rfl
  | some r => simp
theorem kept_I (st : StG (wd t) ss) (lg : ∀ n ∈ log, n < t.length) (sp : StG (wd t) ps) (pm : ∀ x, x ∈ ps ↔ ∃ s ∈ ss, ledN t s log = x) (hl : rs.length = wd t) (hr : ∀ r ∈ rs, RowI t ss log r) : NoteI t ss log ps (keptR rs ps) := by
  refine ⟨st, lg, sp, pm, by unfold keptR; rw [List.length_map, List.length_zipIdx]; exact hl, fun r h => ?_, fun s hs => ?_⟩
  · obtain ⟨i, hi⟩ := List.mem_iff_getElem?.mp h
    rw [keptR_at] at hi
    obtain ⟨r0, h1, h2⟩ := Option.map_eq_some_iff.mp hi
    have h0 := hr r0 (List.mem_of_getElem? h1)
    by_cases hp : i ∈ ps
    · rw [if_pos hp] at h2
      rw [← h2]
      exact h0.kept ((pm i).mp hp)
    · rw [if_neg hp] at h2
      rw [← h2]; exact h0
  · have hlt := sp.lt s hs
    obtain ⟨r0, h1⟩ : ∃ r0, rs[s]? = some r0 := ⟨rs[s]'(by omega), List.getElem?_eq_getElem (by omega)⟩
    rw [keptR_at, h1]
    simp only [Option.map_some, if_pos hs]
    rcases keptN_or r0 s with ⟨dn, rest, p, a, b, c⟩ | ⟨a, b⟩
    · rw [c]
      exact ⟨p.1, dn ++ rest, by rw [← b]⟩
    · rw [b]; exact ⟨_, _, rfl⟩
theorem led_snoc (htb : t[d]? = some tb) (x : Nat) (log : List Nat) : ledN t x (log ++ [d]) = cellR tb (ledN t x log) := by
  unfold ledN
  rw [List.foldl_append]
  show stepN t _ d = _
  unfold stepN cellR
  rw [htb]
  rfl
theorem RowI.led (htb : t[d]? = some tb) (h : RowI t ss log r) : RowI t ss (log ++ [d]) (r.map fun p => (p.1, cellR tb p.2)) := by
  obtain ⟨f, a, b⟩ := h.rep
  refine ⟨?_, fun p hp => ?_, f, fun p hp => ?_, fun p hp q hq z => ?_⟩
  · rw [List.map_map]; exact h.nd
  · obtain ⟨q, hq, rfl⟩ := List.mem_map.mp hp
    rw [List.length_map]; exact h.lt q hq
  · obtain ⟨q, hq, rfl⟩ := List.mem_map.mp hp
    obtain ⟨a1, a2⟩ := a q hq
    exact ⟨a1, by rw [led_snoc htb, a2]⟩
  · obtain ⟨p', hp', rfl⟩ := List.mem_map.mp hp
    obtain ⟨q', hq', rfl⟩ := List.mem_map.mp hq
    exact b p' hp' q' hq' z
/-- a deed more -/
theorem NoteI.put (g : Good t) (h : NoteI t ss log ps rs) (htb : t[d]? = some tb) (hi : ImgOf tb ps ls) : NoteI t ss (log ++ [d]) ls (keptR (ledR tb rs) ls) := by
  obtain ⟨hd, -⟩ := List.getElem?_eq_some_iff.mp htb
  have hlen := g.row tb (List.mem_of_getElem? htb)
  have pm : ∀ x, x ∈ ls ↔ ∃ s ∈ ss, ledN t s (log ++ [d]) = x := fun x => by
    rw [hi.mem]
    constructor
    · rintro ⟨s, hs, rfl⟩
      obtain ⟨y, hy, rfl⟩ := (h.pm s).mp hs
      exact ⟨y, hy, led_snoc htb y log⟩
    · rintro ⟨y, hy, rfl⟩
      exact ⟨_, (h.pm _).mpr ⟨y, hy, rfl⟩, (led_snoc htb y log).symm⟩
  have lg : ∀ n ∈ log ++ [d], n < t.length := fun n hn => by
    rcases List.mem_append.mp hn with z | z
    · exact h.lgt n z
    · rw [List.mem_singleton.mp z]; exact hd
  have st : StG (wd t) ls := by
    refine ⟨fun z => ?_, hi.asc, fun s hs => ?_⟩
    · obtain ⟨y, hy⟩ := List.exists_mem_of_ne_nil _ h.pst.ne
      have := (hi.mem (cellR tb y)).mpr ⟨y, hy, rfl⟩
      rw [z] at this
      cases this
    · obtain ⟨y, hy, rfl⟩ := (pm s).mp hs
      exact g.led lg (h.st.lt y hy)
  refine kept_I h.st lg st pm (by unfold ledR; rw [List.length_map]; exact h.len) fun r hr => ?_
  obtain ⟨r', h1, rfl⟩ := List.mem_map.mp hr
  exact (h.row r' h1).led htb
theorem NoteI.first (g : Good t) (st : StG (wd t) ss) : NoteI t ss [] ss (firstN t ss) := by
  refine kept_I st (fun _ h => nomatch h) st (fun x => ⟨fun h => ⟨x, h, rfl⟩, fun ⟨s, h1, h2⟩ => h2 ▸ h1⟩) (List.length_replicate ..) fun r hr => ?_
  rw [List.eq_of_mem_replicate hr]
  exact ⟨List.nodup_nil, (fun _ h => nomatch h), id, (fun _ h => nomatch h), (fun _ h => nomatch h)⟩
theorem CpyI.put {c : Cpy} (h : CpyI t log rs c) (htb : t[d]? = some tb) : CpyI t (log ++ [d]) (keptR (ledR tb rs) ls) c := by
  obtain ⟨h1, h2, r, h3, h4⟩ := h
  have h5 : (c.2.1, cellR tb (ledN t c.1 (log.drop c.2.2))) ∈ r.map fun p => (p.1, cellR tb p.2) := List.mem_map.mpr ⟨_, h4, rfl⟩
  have e : ledN t c.1 ((log ++ [d]).drop c.2.2) = cellR tb (ledN t c.1 (log.drop c.2.2)) := by
    rw [List.drop_append_of_le_length h2]; exact led_snoc htb _ _
  refine ⟨h1, by rw [List.length_append]; omega, _, by rw [keptR_at, ledR, List.getElem?_map, h3]; rfl, ?_⟩
  rw [e]
  split
  · exact keptN_mem _ _ h5
  · exact h5
theorem CpyI.new (h : NoteI t ss log ps rs) {s m : Nat} {r : Ent} (hs : s ∈ ps) (hr : rs[s]? = some ((m, s) :: r)) : CpyI t log rs (s, m, log.length) :=
  ⟨h.pst.lt s hs, Nat.le_refl _, _, hr, by
    show (m, ledN t s (log.drop log.length)) ∈ _
    rw [List.drop_length]
    exact List.mem_cons_self⟩
/-- two copies with the same state and mark have gone the same way -/
theorem CpyI.uniq (h : NoteI t ss log ps rs) {c c' : Cpy} (h1 : CpyI t log rs c) (h2 : CpyI t log rs c') (e1 : c.1 = c'.1) (e2 : c.2.1 = c'.2.1) : ledN t c.1 (log.drop c.2.2) = ledN t c'.1 (log.drop c'.2.2) := by
  obtain ⟨-, -, r, a1, a2⟩ := h1
  obtain ⟨-, -, r', b1, b2⟩ := h2
  rw [e1, b1] at a1
  cases a1
  rw [e2] at a2
  exact (h.row r (List.mem_of_getElem? b1)).uniq a2 b2
end
end K32
set_option Elab.async false
set_option autoImplicit false
set_option linter.all false
set_option maxRecDepth 100000
set_option maxHeartbeats 3900000
namespace K32
open DL L2 PyProof.Rows PySem PySem.Spec
abbrev la_0 (K : Fg) (C : Cs) : WS := (wAsgO 1 (woCall 2 (so_law_box C) (wCons (wVar 0) (wCons (wC (.int 0)) wNil))))
abbrev la_1 (K : Fg) (C : Cs) : WS := (wAsg 2 (wCallB 1 0 (sp_law_tables C) wNil))
abbrev la_2 (K : Fg) (C : Cs) : WS := (wAsgG (wgTup 2 (wgCons (wgName 3) (wgCons (wgName 4) wgNil))) (wTup (wCons (wCB wLen (wCons (wOp wIx (wVar 2) (wC (.int 0))) wNil)) (wCons (wCallB 1 1 (sp_law_starts C) (wCons (wCB wLen (wCons (wOp wIx (wVar 2) (wC (.int 0))) wNil)) wNil)) wNil))))
abbrev la_3 (K : Fg) (C : Cs) : WS := (wParM3 5 6 7 (mOwn (woMake C.LogNote 1 1 (sp_LogNote_init C) (kf_1_0 D.non) (wCons (wMake C.Machine 1 0 (sp_Machine_init C) (fun ds _ => ds) (wCons (wVar 2) wNil) wNil) wNil) (wCons (wVar 4) wNil)) (mVal (wTup wNil) (mOwn (woLst wNil) mNil))))
abbrev li_0 (K : Fg) (C : Cs) : WS := (wAsgO 1 (woCall 2 (so_law_box C) (wCons (wVar 0) (wCons (wVar 8) wNil))))
abbrev lii_0 (K : Fg) (C : Cs) : WS := (wAsg 10 (wCallB 1 1 (sp_law_pick C) (wCons (wCB wLstOf (wCons (wFldO C.LogNote "possible" 5) wNil)) wNil)))
abbrev lii_1 (K : Fg) (C : Cs) : WS := (wApp 7 (wTup (wCons (wVar 10) (wCons (wLend (wMethV C.LogNote "mark" 1 (sp_LogNote_mark C) [] (wVar 5) (wCons (wVar 10) wNil))) (wCons (wCB wLen (wCons (wVar 6) wNil)) wNil)))))
abbrev li_1_b (K : Fg) (C : Cs) : WS := (wSeq (lii_0 K C) (lii_1 K C))
abbrev li_1 (K : Fg) (C : Cs) : WS := (wFor (wiRg1 (wCons (wCallB 1 1 (sp_law_take C) (wCons (wC (.int 4)) wNil)) wNil)) (wgName 9) (li_1_b K C))
abbrev li_2 (K : Fg) (C : Cs) : WS := (wIfS (wAnd (wLendT (wB (wOp (wEq true) (wVar 7) (wLst wNil)))) (wB (wOp (wEq false) (wCallB 1 1 (sp_law_take C) (wCons (wC (.int 3)) wNil)) (wC (.int 0))))) (wDrop (wPopO 7 (wCallB 1 1 (sp_law_take C) (wCons (wLenO 7) wNil)))) wNext)
abbrev li_3 (K : Fg) (C : Cs) : WS := (wIfS (wNot (wB (wLend (wCallA 5 0 (sp_law_copies_right C) (fun ds _ => ds) (wCons (wVar 5) (wCons (wVar 2) (wCons (wVar 4) (wCons (wVar 6) (wCons (wVar 7) wNil))))) wNil)))) (wRet (wC (.bl false))) wNext)
abbrev li_4 (K : Fg) (C : Cs) : WS := (wIfS (wB (wOp (wEq true) (wLc (wiSeq (wFldO C.LogNote "rows" 5)) (wgName 16) (wB (wOp wGt (wCB wLen (wCons (wVar 16) wNil)) (wCB wLen (wCons (wVar 4) wNil)))) (wVar 16) [16]) (wLst wNil))) (wRet (wC (.bl false))) wNext)
abbrev li_5 (K : Fg) (C : Cs) : WS := (wAsg 11 (wCallB 1 1 (sp_law_take C) (wCons (wCB wLen (wCons (wVar 2) wNil)) wNil)))
abbrev li_6 (K : Fg) (C : Cs) : WS := (wDrop (wMeth 5 C.LogNote "put" 1 (sp_LogNote_put C) (wCons (wVar 11) wNil)))
abbrev li_7 (K : Fg) (C : Cs) : WS := (wAsg 6 (wOp wAdd (wVar 6) (wTup (wCons (wVar 11) wNil))))
abbrev la_4_b (K : Fg) (C : Cs) : WS := (wSeq (li_0 K C) (wSeq (li_1 K C) (wSeq (li_2 K C) (wSeq (li_3 K C) (wSeq (li_4 K C) (wSeq (li_5 K C) (wSeq (li_6 K C) (li_7 K C))))))))
abbrev la_4 (K : Fg) (C : Cs) : WS := (wFor (wiRg2 (wCons (wC (.int 1)) (wCons (wCB wMax2 (wCons (wC (.int 12)) (wCons (wCB wMin2 (wCons (wCB wLen (wCons (wVar 0) wNil)) (wCons (wC (.int 40)) wNil))) wNil))) wNil))) (wgName 8) (la_4_b K C))
abbrev la_5 (K : Fg) (C : Cs) : WS := (wAsgO 12 woDicT)
abbrev lj_0 (K : Fg) (C : Cs) : WS := (wAsg 15 (wCallA 3 0 (sp_law_led C) (fun ds _ => ds) (wCons (wVar 2) (wCons (wVar 10) (wCons (wSl (wVar 6) (woSome (wVar 14)) woNone) wNil))) wNil))
abbrev lj_1 (K : Fg) (C : Cs) : WS := (wIfS (wOr (wB (wOp (wEq true) (wGetT 12 (wTup (wCons (wVar 10) (wCons (wVar 13) wNil))) (wVar 15)) (wVar 15))) (wB (wOp (wEq true) (wLend (wMethV C.LogNote "read" 2 (sp_LogNote_read C) [.tup []] (wVar 5) (wCons (wVar 10) (wCons (wVar 13) wNil)))) (wVar 15)))) (wRet (wC (.bl false))) wNext)
abbrev lj_2 (K : Fg) (C : Cs) : WS := (wPutT 12 (wTup (wCons (wVar 10) (wCons (wVar 13) wNil))) (wVar 15))
abbrev la_6_b (K : Fg) (C : Cs) : WS := (wSeq (lj_0 K C) (wSeq (lj_1 K C) (lj_2 K C)))
abbrev la_6 (K : Fg) (C : Cs) : WS := (wFor (wiSeq (wVar 7)) (wgTup 3 (wgCons (wgName 10) (wgCons (wgName 13) (wgCons (wgName 14) wgNil)))) (la_6_b K C))
abbrev la_7 (K : Fg) (C : Cs) : WS := (wRet (wC (.bl true)))
abbrev law_w (K : Fg) (C : Cs) : WS := (wSeq (la_0 K C) (wSeq (la_1 K C) (wSeq (la_2 K C) (wSeq (la_3 K C) (wSeq (la_4 K C) (wSeq (la_5 K C) (wSeq (la_6 K C) (la_7 K C))))))))
abbrev lR (C : Cs) (sc : List Int) (l : Addr) (o : OD) (t : Tbl) (s3 : Sl) (ss : List Nat) (n : Addr) (ps : List Nat) (rs : List Ent) (a : Int) (log : List Nat) (m : Addr) (cs : List Cpy) (s8 s9 s10 s11 s12 s13 s14 s15 : Sl) : Rho :=
  [.val (.scr sc), .own l o, .val (tbsD t), s3, .val (.lst (numsD ss)), .own n (noteO C t ps rs a), .val (rowD log), .own m (.l (cs.map cpyD)), s8, s9, s10, s11, s12, s13, s14, s15, .un]
structure Inv (t : Tbl) (ss log ps : List Nat) (rs : List Ent) (cs : List Cpy) : Prop where
  g : Good t
  ni : NoteI t ss log ps rs
  cp : ∀ c ∈ cs, CpyI t log rs c
section
variable {K : Fg} {C : Cs} {Δ : DE} {sc : List Int} {l n m : Addr} {o : OD} {t : Tbl} {ss log ps : List Nat} {rs : List Ent} {a : Int} {cs : List Cpy} {s3 s8 s9 s10 s11 s12 s13 s14 s15 : Sl}
theorem b_box {k : Int} (hl : sc.length < 1000) (h0 : 0 ≤ k) (h1 : k < 1000) (q : ∀ o' l', GoodB o' → Δ.nx (lR C sc l' o' t s3 ss n ps rs a log m cs (.val (.int k)) s9 s10 s11 s12 s13 s14 s15)) :
    li_0 K C (lR C sc l o t s3 ss n ps rs a log m cs (.val (.int k)) s9 s10 s11 s12 s13 s14 s15) Δ :=
  ⟨rfl, sc, k, rfl, h0, h1, hl, fun o ho l => q o l ho⟩
theorem b_mark (I : Inv t ss log ps rs cs) (hc : cs.length < 1000) (ho : GoodB o) (q : ∀ o' c s10, GoodB o' → CpyI t log rs c → Δ.nx (lR C sc l o' t s3 ss n ps rs a log m (cs ++ [c]) s8 s9 s10 s11 s12 s13 s14 s15)) :
    li_1_b K C (lR C sc l o t s3 ss n ps rs a log m cs s8 s9 s10 s11 s12 s13 s14 s15) Δ := by
  have hb := big
  have hw := I.g.head
  have hpl := I.ni.pst.len
  refine ⟨⟨l, o, rfl⟩, rfl, rowD ps, rfl, rfl, o, numsD ps, rfl, ho, rfl, ?_, by rw [nums_len]; omega, fun d o' hd ho' => ⟨o', rfl, ?_⟩⟩
  · intro z
    have := congrArg List.length z
    rw [nums_len] at this
    exact I.ni.pst.ne (List.length_eq_zero_iff.mp this)
  · obtain ⟨s, hs, rfl⟩ := List.mem_map.mp hd
    obtain ⟨mk, r, hr⟩ := I.ni.front s hs
    have hlt := I.ni.pst.lt s hs
    have e : D.tup [.int (s : Nat), .int (mk : Nat), .int ((numsD log).length : Nat)] = cpyD (s, mk, log.length) := by rw [nums_len]; rfl
    have key : Δ.nx (lR C sc l o' t s3 ss n ps rs a log m (cs ++ [(s, mk, log.length)]) s8 s9 (.val (.int (s : Nat))) s11 s12 s13 s14 s15) := q o' _ _ ho' (CpyI.new I.ni hs hr)
    have key2 : Δ.nx [.val (.scr sc), .own l o', .val (tbsD t), s3, .val (.lst (numsD ss)), .own n (noteO C t ps rs a), .val (rowD log), .own m (.l (cs.map cpyD ++ [D.tup [.int (s : Nat), .int (mk : Nat), .int ((numsD log).length : Nat)]])), s8, s9, .val (.int (s : Nat)), s11, s12, s13, s14, s15, .un] := by
      rw [e]
      have e2 : cs.map cpyD ++ [cpyD (s, mk, log.length)] = (cs ++ [(s, mk, log.length)]).map cpyD := by rw [List.map_append]; rfl
      rw [e2]
      exact key
    refine ⟨⟨m, _, rfl⟩, rfl, nm_mark, rfl, rfl, t, ps, rs, a, s, mk, s, r, I.g, hlt, hs, hr, rfl, rfl, trivial, ?_⟩
    exact ⟨by show 3 ≤ sizeLine; decide, by rw [List.length_map]; omega, key2⟩
theorem b_marks (I : Inv t ss log ps rs cs) (hc : cs.length < 900) (ho : GoodB o) (q : ∀ o' cs' s9 s10, GoodB o' → Inv t ss log ps rs cs' → cs'.length ≤ cs.length + 3 → Δ.nx (lR C sc l o' t s3 ss n ps rs a log m cs' s8 s9 s10 s11 s12 s13 s14 s15)) :
    li_1 K C (lR C sc l o t s3 ss n ps rs a log m cs s8 s9 s10 s11 s12 s13 s14 s15) Δ := by
  refine ⟨⟨l, o, rfl⟩, rfl, o, 4, rfl, ho, rfl, by decide, by decide, fun d o' d0 d1 ho' => ⟨o', rfl, ⟨by omega, by omega⟩, ?_⟩⟩
  have hlen : (rgD 0 d.toNat).length = d.toNat := by unfold rgD; simp
  refine for_inv (fun ds ρ => ∃ (o : OD) (cs' : List Cpy) (s9 s10 : Sl), GoodB o ∧ Inv t ss log ps rs cs' ∧ cs'.length + ds.length ≤ cs.length + 3 ∧ ρ = lR C sc l o t s3 ss n ps rs a log m cs' s8 s9 s10 s11 s12 s13 s14 s15) (fun d ds ρ N h hN => ?_) (fun ρ h => ?_) _ _ ⟨o', cs, s9, s10, ho', I, by rw [hlen]; omega, rfl⟩
  · obtain ⟨o, cs', s9, s10, h1, h2, h3, rfl⟩ := h
    rw [List.length_cons] at h3
    refine b_mark (s9 := .val d) h2 (by omega) h1 fun o' c s10 ho' hc' => hN _ ⟨o', cs' ++ [c], _, s10, ho', ⟨h2.g, h2.ni, fun x hx => ?_⟩, by simp only [List.length_append, List.length_cons, List.length_nil]; omega, rfl⟩
    rcases List.mem_append.mp hx with z | z
    · exact h2.cp x z
    · rw [List.mem_singleton.mp z]; exact hc'
  · obtain ⟨o, cs', s9, s10, h1, h2, h3, rfl⟩ := h
    exact q o cs' s9 s10 h1 h2 (by omega)
theorem cpy_py (c : Cpy) : pyOf (cpyD c) = some (.tuple [.int (c.1 : Nat), .int (c.2.1 : Nat), .int (c.2.2 : Nat)]) := by simp [cpyD, pyOf, pyOfL]
theorem cpys_py : ∀ cs : List Cpy, pyOfL (cs.map cpyD) = some (cs.map fun c => .tuple [.int (c.1 : Nat), .int (c.2.1 : Nat), .int (c.2.2 : Nat)])
  | [] => rfl
  | c :: cs => by rw [List.map_cons, pyOfL, cpy_py, cpys_py cs]; rfl
end
end K32
set_option Elab.async false
set_option autoImplicit false
set_option linter.all false
set_option maxRecDepth 100000
set_option maxHeartbeats 3900000
namespace K32
open DL L2 PyProof.Rows PySem PySem.Spec
theorem shaped_lrows (t : Tbl) : SeqAt.shaped (.list (t.map fun r => .tuple (r.map fun n => .int (n : Nat)))) = true := by
  have a : ∀ t : Tbl, PyData.canLayAll0 (t.map fun r => .tuple (r.map fun n => .int (n : Nat))) = true := fun t => by induction t with
    | nil => rfl
    | cons r t ih =>
      have := (Bool.and_eq_true_iff.mp (shaped_row r).1).1
      simp only [List.map_cons, PyData.canLayAll0, this, ih, Bool.and_self]
  have b : ∀ t : Tbl, PyData.depthAll (t.map fun r => .tuple (r.map fun n => .int (n : Nat))) ≤ 1 := fun t => by induction t with
    | nil => exact Nat.zero_le _
    | cons r t ih =>
      have := (shaped_row r).2
      (simp only [List.map_cons, PyData.depthAll])
      omega
  have hb := b t
  refine Bool.and_eq_true_iff.mpr ⟨a t, decide_eq_true ?_⟩
  simp only [PyData.depth]
  omega
theorem nelT {t : Tbl} {Φ : D → Prop} (q : Φ (.bl (!decide (t = [])))) : wEq true (.lst (t.map rowD)) (.lst []) Φ := by
  have py : pyOf (.lst (t.map rowD)) = some (.list (t.map fun r => .tuple (r.map fun n => .int (n : Nat)))) := by
    have : ∀ t : Tbl, pyOfL (t.map rowD) = some (t.map fun r => .tuple (r.map fun n => .int (n : Nat))) := fun t => by
      induction t with
      | nil => rfl
      | cons r t ih => rw [List.map_cons, pyOfL, py_row, ih]; rfl
    simp [pyOf, this]
  refine ⟨_, .list [], py, rfl, shaped_lrows t, by decide +kernel, ?_⟩
  have e : PyData.eqv (.list (t.map fun r => .tuple (r.map fun n => PyData.int (n : Nat)))) (.list []) = decide (t = []) := by
    cases t with
    | nil => decide +kernel
    | cons r t => simp [PyData.eqv, PyData.eqvAll]
  rw [if_pos rfl, e]; exact q
theorem nelC {cs : List Cpy} {Φ : D → Prop} (q : Φ (.bl (!decide (cs = [])))) : wEq true (.lst (cs.map cpyD)) (.lst []) Φ := by
  have e : cs.map cpyD = (cs.map fun c => [c.1, c.2.1, c.2.2]).map rowD := by rw [List.map_map]; rfl
  rw [e]
  refine nelT ?_
  have e2 : decide ((cs.map fun c : Cpy => [c.1, c.2.1, c.2.2]) = []) = decide (cs = []) := by
    cases cs <;> simp
  rw [e2]
  exact q
theorem seq_ix {d : Int} {n : Nat} (h0 : 0 ≤ d) (h1 : d < (n : Nat)) : seqIndex? d n = some d.toNat := by
  unfold seqIndex?
  have h2 : ¬ d < 0 := by omega
  simp [h2, h0, h1]
theorem er_map {α β : Type} (f : α → β) : ∀ (xs : List α) (i : Nat), (xs.map f).eraseIdx i = (xs.eraseIdx i).map f
  | [], _ => rfl
  | x :: xs, 0 => rfl
  | x :: xs, i + 1 => by rw [List.map_cons, List.eraseIdx_cons_succ, er_map f xs i, List.eraseIdx_cons_succ, List.map_cons]
section
variable {K : Fg} {C : Cs} {Δ : DE} {sc : List Int} {l n m : Addr} {o : OD} {t : Tbl} {ss log ps : List Nat} {rs : List Ent} {a : Int} {cs : List Cpy} {s3 s8 s9 s10 s11 s12 s13 s14 s15 : Sl}
theorem b_pop (I : Inv t ss log ps rs cs) (hc : cs.length < 900) (ho : GoodB o) (q : ∀ o' cs', GoodB o' → Inv t ss log ps rs cs' → cs'.length ≤ cs.length → Δ.nx (lR C sc l o' t s3 ss n ps rs a log m cs' s8 s9 s10 s11 s12 s13 s14 s15)) :
    li_2 K C (lR C sc l o t s3 ss n ps rs a log m cs s8 s9 s10 s11 s12 s13 s14 s15) Δ := by
  have hb := big
  have h0 : wLendT (wB (wOp (wEq true) (wVar 7) (wLst wNil))) (lR C sc l o t s3 ss n ps rs a log m cs s8 s9 s10 s11 s12 s13 s14 s15) Δ.xc fun b ρ1 => if b = true then (wB (wOp (wEq false) (wCallB 1 1 (sp_law_take C) (wCons (wC (.int 3)) wNil)) (wC (.int 0)))) ρ1 Δ.xc (fun b ρ2 => if b = true then (wDrop (wPopO 7 (wCallB 1 1 (sp_law_take C) (wCons (wLenO 7) wNil)))) ρ2 Δ else wNext ρ2 Δ) else if false = true then (wDrop (wPopO 7 (wCallB 1 1 (sp_law_take C) (wCons (wLenO 7) wNil)))) ρ1 Δ else wNext ρ1 Δ := by
    refine ⟨Nat.zero_le _, nelC (Φ := fun z => match z with | .bl b => _ | _ => False) ⟨rfl, ?_⟩⟩
    by_cases e : cs = []
    · rw [decide_eq_true e]
      exact q o cs ho I (Nat.le_refl _)
    · rw [decide_eq_false e]
      refine ten_eq (P := fun _ ρ' => ∃ o', GoodB o' ∧ ρ' = lR C sc l o' t s3 ss n ps rs a log m cs s8 s9 s10 s11 s12 s13 s14 s15) (fun χ Φ h => ?_) 0 _ _ ?_
      · exact ⟨⟨l, o, rfl⟩, rfl, o, 3, rfl, ho, rfl, by decide, by decide, fun d o' d0 d1 h' => ⟨o', rfl, h _ _ ⟨o', h', rfl⟩⟩⟩
      · rintro v ρ' ⟨o', h', rfl⟩
        cases decide (v = 0) with
        | false => exact q o' cs h' I (Nat.le_refl _)
        | true =>
          have hpos : 0 < cs.length := List.length_pos_iff.mpr e
          have hl : (cs.map cpyD).length = cs.length := List.length_map ..
          refine ⟨⟨m, _, rfl⟩, ⟨l, o', rfl⟩, rfl, o', ((cs.map cpyD).length : Nat), rfl, h', rfl, by rw [hl]; omega, by rw [hl]; omega, fun d o2 d0 d1 h2 => ⟨o2, rfl, ?_⟩⟩
          have hd : d.toNat < cs.length := by omega
          refine ⟨by omega, by omega, d.toNat, cpyD cs[d.toNat], seq_ix d0 d1, by rw [List.getElem?_map, List.getElem?_eq_getElem hd]; rfl, ?_⟩
          have e3 : (cs.map cpyD).eraseIdx d.toNat = (cs.eraseIdx d.toNat).map cpyD := er_map _ _ _
          have key : Δ.nx (lR C sc l o2 t s3 ss n ps rs a log m (cs.eraseIdx d.toNat) s8 s9 s10 s11 s12 s13 s14 s15) := q o2 _ h2 ⟨I.g, I.ni, fun c hc' => I.cp c (List.mem_of_mem_eraseIdx hc')⟩ (by rw [List.length_eraseIdx]; split <;> omega)
          show Δ.nx [.val (.scr sc), .own l o2, .val (tbsD t), s3, .val (.lst (numsD ss)), .own n (noteO C t ps rs a), .val (rowD log), .own m (.l ((cs.map cpyD).eraseIdx d.toNat)), s8, s9, s10, s11, s12, s13, s14, s15, .un]
          rw [e3]
          exact key
  exact h0
theorem b_right (I : Inv t ss log ps rs cs) (q : Δ.nx (lR C sc l o t s3 ss n ps rs a log m cs s8 s9 s10 s11 s12 s13 s14 s15)) :
    li_3 K C (lR C sc l o t s3 ss n ps rs a log m cs s8 s9 s10 s11 s12 s13 s14 s15) Δ :=
  ⟨rfl, rfl, rfl, t, ss, log, ps, rs, a, cs, I.g, I.ni, I.cp, rfl, rfl, trivial, q⟩
theorem fm_none {α : Type} : ∀ xs : List α, xs.filterMap (fun _ => (none : Option D)) = []
  | [] => rfl
  | x :: xs => by rw [List.filterMap_cons_none rfl]; exact fm_none xs
theorem b_rows (I : Inv t ss log ps rs cs) (q : Δ.nx (lR C sc l o t s3 ss n ps rs a log m cs s8 s9 s10 s11 s12 s13 s14 s15)) :
    li_4 K C (lR C sc l o t s3 ss n ps rs a log m cs s8 s9 s10 s11 s12 s13 s14 s15) Δ := by
  have hb := big
  have hw := I.g.head
  have hl := I.ni.len
  refine ⟨rfl, rwsD rs, rfl, ?_⟩
  show wLcL (wgName 16) (wB (wOp wGt (wCB wLen (wCons (wVar 16) wNil)) (wCB wLen (wCons (wVar 4) wNil)))) (wVar 16) [16] (rs.map rwD) [] (lR C sc l o t s3 ss n ps rs a log m cs s8 s9 s10 s11 s12 s13 s14 s15) _
  refine lc_mfc _ _ (fun _ => none) _ (by omega) (fun r hr N hN => ?_) ?_
  · show if decide (((numsD ss).length : Int) < ((r.map entD).length : Nat)) = true then _ else _
    have := (I.ni.row r hr).le
    rw [decide_eq_false (by rw [nums_len, List.length_map]; omega)]
    exact hN
  · rw [fm_none]
    exact ⟨Nat.zero_le _, neNil q⟩
theorem b_deed (I : Inv t ss log ps rs cs) (ho : GoodB o) (q : ∀ o' (d : Nat), GoodB o' → d < t.length → Δ.nx (lR C sc l o' t s3 ss n ps rs a log m cs s8 s9 s10 (.val (.int (d : Nat))) s12 s13 s14 s15)) :
    li_5 K C (lR C sc l o t s3 ss n ps rs a log m cs s8 s9 s10 s11 s12 s13 s14 s15) Δ := by
  have h8 := I.g.le
  have hne : 0 < t.length := List.length_pos_iff.mpr I.g.ne
  have hl : (t.map rowD).length = t.length := List.length_map ..
  refine ⟨⟨l, o, rfl⟩, rfl, o, ((t.map rowD).length : Nat), rfl, ho, rfl, by rw [hl]; omega, by rw [hl]; omega, fun d o' d0 d1 h' => ⟨o', rfl, ?_⟩⟩
  obtain ⟨v, hv, hv2⟩ := nat_of d0 d1
  rw [hv]
  exact q o' v h' (by rw [hl] at hv2; omega)
theorem b_put {d : Nat} (I : Inv t ss log ps rs cs) (hd : d < t.length) (q : ∀ ls rs', Inv t ss (log ++ [d]) ls rs' cs → Δ.nx (lR C sc l o t s3 ss n ls rs' (a + 1) log m cs s8 s9 s10 (.val (.int (d : Nat))) s12 s13 s14 s15)) :
    li_6 K C (lR C sc l o t s3 ss n ps rs a log m cs s8 s9 s10 (.val (.int (d : Nat))) s12 s13 s14 s15) Δ := by
  have htb : t[d]? = some t[d] := List.getElem?_eq_getElem hd
  refine ⟨⟨n, _, _, rfl, nm_put⟩, rfl, t, ps, rs, a, d, _, rfl, I.g, I.ni.pst, I.ni.rows I.g, rfl, htb, fun ls hls => ⟨_, rfl, ?_⟩⟩
  exact q ls _ ⟨I.g, I.ni.put I.g htb hls, fun c hc => (I.cp c hc).put htb⟩
theorem b_log {d : Nat} (hl : log.length < 1000) (q : Δ.nx (lR C sc l o t s3 ss n ps rs a (log ++ [d]) m cs s8 s9 s10 (.val (.int (d : Nat))) s12 s13 s14 s15)) :
    li_7 K C (lR C sc l o t s3 ss n ps rs a log m cs s8 s9 s10 (.val (.int (d : Nat))) s12 s13 s14 s15) Δ := by
  have hb := big
  refine ⟨by show 1 ≤ sizeLine; decide, by show (numsD log).length + 1 ≤ sizeLine; rw [nums_len]; omega, ?_⟩
  show Δ.nx [.val (.scr sc), .own l o, .val (tbsD t), s3, .val (.lst (numsD ss)), .own n (noteO C t ps rs a), .val (.tup (numsD log ++ [D.int (d : Nat)])), .own m (.l (cs.map cpyD)), s8, s9, s10, .val (.int (d : Nat)), s12, s13, s14, s15, .un]
  have e : D.tup (numsD log ++ [D.int (d : Nat)]) = rowD (log ++ [d]) := by unfold rowD numsD; rw [List.map_append]; rfl
  rw [e]
  exact q
end
end K32
set_option Elab.async false
set_option autoImplicit false
set_option linter.all false
set_option maxRecDepth 100000
set_option maxHeartbeats 3900000
namespace K32
open DL L2 PyProof.Rows PySem PySem.Spec
section
variable {κ : Type} [DecidableEq κ]
theorem rep_len : ∀ {ks : List κ} {ds : List D} {k : κ} {d : D}, ks.length = ds.length → (repD ks ds k d).length = ks.length
  | [], [], _, _, _ => rfl
  | x :: ks, e :: ds, k, d, h => by
    unfold repD
    rw [List.length_cons, List.length_cons, rep_len (by simpa using h)]
theorem look_rep : ∀ {ks : List κ} {ds : List D} {k k' : κ} {d x : D}, lookK ks (repD ks ds k d) k' = some x → (k' = k ∧ x = d) ∨ lookK ks ds k' = some x
  | [], ds, k, k', d, x, h => by cases ds <;> cases h
  | y :: ks, [], k, k', d, x, h => by cases h
  | y :: ks, e :: ds, k, k', d, x, h => by
    unfold repD lookK at h
    unfold lookK
    by_cases h1 : y = k'
    · rw [if_pos h1] at h ⊢
      by_cases h2 : y = k
      · rw [if_pos h2] at h
        cases h
        exact .inl ⟨h1.symm.trans h2, rfl⟩
      · rw [if_neg h2] at h
        exact .inr h
    · rw [if_neg h1] at h ⊢
      exact look_rep h
theorem look_app : ∀ {ks : List κ} {ds : List D} {k k' : κ} {d x : D}, ks.length = ds.length → lookK (ks ++ [k]) (ds ++ [d]) k' = some x → (k' = k ∧ x = d) ∨ lookK ks ds k' = some x
  | [], [], k, k', d, x, _, h => by
    simp only [List.nil_append, lookK] at h
    by_cases h1 : k = k'
    · rw [if_pos h1] at h; cases h; exact .inl ⟨h1.symm, rfl⟩
    · rw [if_neg h1] at h; cases h
  | y :: ks, e :: ds, k, k', d, x, hl, h => by
    rw [List.cons_append, List.cons_append] at h
    unfold lookK at h ⊢
    by_cases h1 : y = k'
    · rw [if_pos h1] at h ⊢; exact .inr h
    · rw [if_neg h1] at h ⊢
      exact look_app (by simpa using hl) h
theorem look_put {ks : List κ} {ds : List D} {k k' : κ} {d x : D} (hl : ks.length = ds.length) (h : lookK (putDk ks k) (putDv ks ds k d) k' = some x) : (k' = k ∧ x = d) ∨ lookK ks ds k' = some x := by
  unfold putDk putDv at h
  by_cases hk : k ∈ ks
  · rw [if_pos hk, if_pos hk] at h; exact look_rep h
  · rw [if_neg hk, if_neg hk] at h; exact look_app hl h
theorem put_len {ks : List κ} {ds : List D} {k : κ} {d : D} (hl : ks.length = ds.length) : (putDk ks k).length = (putDv ks ds k d).length ∧ (putDk ks k).length ≤ ks.length + 1 := by
  unfold putDk putDv
  by_cases hk : k ∈ ks
  · rw [if_pos hk, if_pos hk]; exact ⟨(rep_len hl).symm, Nat.le_succ _⟩
  · rw [if_neg hk, if_neg hk, List.length_append, List.length_append]; exact ⟨by simp [hl], Nat.le_refl _⟩
end
abbrev E (t : Tbl) (log : List Nat) (c : Cpy) : Nat := ledN t c.1 (log.drop c.2.2)
def kyC (c : Cpy) : List Key := [.inl (c.1 : Nat), .inl (c.2.1 : Nat)]
structure EndI (t : Tbl) (log : List Nat) (cs : List Cpy) (ks : List (List Key)) (ds : List D) : Prop where
  len : ks.length = ds.length
  at' : ∀ k d, lookK ks ds k = some d → ∃ c ∈ cs, k = kyC c ∧ d = .int (E t log c : Nat)
abbrev fR (C : Cs) (sc : List Int) (l : Addr) (o : OD) (t : Tbl) (s3 : Sl) (ss : List Nat) (n : Addr) (ps : List Nat) (rs : List Ent) (a : Int) (log : List Nat) (cs : List Cpy) (s8 s9 s10 s11 : Sl) (e : Addr) (ks : List (List Key)) (ds : List D) (s13 s14 s15 : Sl) : Rho :=
  [.val (.scr sc), .own l o, .val (tbsD t), s3, .val (.lst (numsD ss)), .own n (noteO C t ps rs a), .val (rowD log), .val (.lst (cs.map cpyD)), s8, s9, s10, s11, .own e (.t ks ds), s13, s14, s15, .un]
section
variable {K : Fg} {C : Cs} {Δ : DE} {sc : List Int} {l n m e : Addr} {o : OD} {t : Tbl} {ss log ps : List Nat} {rs : List Ent} {a : Int} {cs : List Cpy} {ks : List (List Key)} {ds : List D} {s3 s8 s9 s10 s11 s12 s13 s14 s15 : Sl}
theorem kyC_inj {c c' : Cpy} (h : kyC c = kyC c') : c.1 = c'.1 ∧ c.2.1 = c'.2.1 := by
  unfold kyC at h
  injection h with h1 h2
  injection h2 with h2 _
  injection h1 with h1
  injection h2 with h2
  exact ⟨by omega, by omega⟩
theorem end_get (I : Inv t ss log ps rs cs) (J : EndI t log cs ks ds) {c : Cpy} (hc : c ∈ cs) : (lookK ks ds (kyC c)).getD (.int (E t log c : Nat)) = .int (E t log c : Nat) := by
  cases h : lookK ks ds (kyC c) with
  | none => rfl
  | some d =>
    obtain ⟨c', h1, h2, rfl⟩ := J.at' _ _ h
    obtain ⟨e1, e2⟩ := kyC_inj h2
    have := CpyI.uniq I.ni (I.cp c hc) (I.cp c' h1) e1 e2
    show D.int _ = D.int _
    unfold E
    rw [this]
theorem b_end (I : Inv t ss log ps rs cs) (J : EndI t log cs ks ds) (hks : ks.length < 1000) {c : Cpy} (hc : c ∈ cs) (q : ∀ ks' ds' s15, EndI t log cs ks' ds' → ks'.length ≤ ks.length + 1 → Δ.nx (fR C sc l o t s3 ss n ps rs a log cs s8 s9 (.val (.int (c.1 : Nat))) s11 e ks' ds' (.val (.int (c.2.1 : Nat))) (.val (.int (c.2.2 : Nat))) s15)) :
    la_6_b K C (fR C sc l o t s3 ss n ps rs a log cs s8 s9 (.val (.int (c.1 : Nat))) s11 e ks ds (.val (.int (c.2.1 : Nat))) (.val (.int (c.2.2 : Nat))) s15) Δ := by
  have hb := big
  have hcp := I.cp c hc
  have hcp0 := hcp
  obtain ⟨c1, c2, -⟩ := hcp0
  refine seqI (w := lj_0 K C) ⟨rfl, rfl, rfl, t, c.1, log.drop c.2.2, I.g, c1, (fun n hn' => I.ni.lgt n (List.mem_of_mem_drop hn')), (show [tbsD t, D.int (c.1 : Nat), D.tup (DL.cutD (numsD log) (some (c.2.2 : Int)) none)] = _ by rw [cut_d log _ c2]; rfl), ?_⟩
  refine seqI (w := lj_1 K C) ?_
  · have e1 : Ev (wGetT 12 (wTup (wCons (wVar 10) (wCons (wVar 13) wNil))) (wVar 15)) (fR C sc l o t s3 ss n ps rs a log cs s8 s9 (.val (.int (c.1 : Nat))) s11 e ks ds (.val (.int (c.2.1 : Nat))) (.val (.int (c.2.2 : Nat))) (.val (.int (E t log c : Nat)))) (.int (E t log c : Nat)) _ := fun χ Φ q =>
      ⟨⟨e, ks, ds, rfl⟩, (by show 2 ≤ sizeLine; decide), kyC c, (by simp [kyC]), rfl, (by rw [end_get I J hc]; exact q)⟩
    have e2 : Ev (wLend (wMethV C.LogNote "read" 2 (sp_LogNote_read C) [.tup []] (wVar 5) (wCons (wVar 10) (wCons (wVar 13) wNil)))) (fR C sc l o t s3 ss n ps rs a log cs s8 s9 (.val (.int (c.1 : Nat))) s11 e ks ds (.val (.int (c.2.1 : Nat))) (.val (.int (c.2.2 : Nat))) (.val (.int (E t log c : Nat)))) (.int (E t log c : Nat)) _ := fun χ Φ q =>
      ⟨rfl, nm_read, rfl, read_ok I.g I.ni hcp ⟨rfl, trivial, q⟩⟩
    have f1 := te_ne (b := (E t log c : Nat)) e1 (ev_var (i := 15) (d := .int (E t log c : Nat)) rfl)
    rw [decide_eq_true rfl] at f1
    have f2 := te_ne (b := (E t log c : Nat)) e2 (ev_var (i := 15) (d := .int (E t log c : Nat)) rfl)
    rw [decide_eq_true rfl] at f2
    refine te_if (te_orF f1 f2) ?_
    · have nx := q
      obtain ⟨p1, p2⟩ := put_len (k := kyC c) (d := D.int (E t log c : Nat)) J.len
      refine ⟨⟨e, ks, ds, rfl⟩, (by show 2 ≤ sizeLine; decide), kyC c, (by simp [kyC]), rfl, (by omega), ?_⟩
      refine q _ _ _ ⟨p1, fun k d hk => ?_⟩ p2
      rcases look_put J.len hk with ⟨rfl, rfl⟩ | h
      · exact ⟨c, hc, rfl, rfl⟩
      · exact J.at' k d h
theorem b_ends (I : Inv t ss log ps rs cs) (hcs : cs.length < 900) (q : ∀ ρ, Δ.nx ρ) :
    la_6 K C (lR C sc l o t s3 ss n ps rs a log m cs s8 s9 s10 s11 (.own e (.t [] [])) s13 s14 s15) Δ := by
  refine for_inv (fun dd ρ => ∃ (rest : List Cpy) (ks : List (List Key)) (ds : List D) (s10 s13 s14 s15 : Sl), dd = rest.map cpyD ∧ (∀ c ∈ rest, c ∈ cs) ∧ EndI t log cs ks ds ∧ ks.length + rest.length ≤ cs.length ∧ ρ = fR C sc l o t s3 ss n ps rs a log cs s8 s9 s10 s11 e ks ds s13 s14 s15) (fun d dd ρ N h hN => ?_) (fun ρ h => q ρ) _ _ ⟨cs, [], [], s10, s13, s14, s15, rfl, (fun _ h => h), ⟨rfl, fun k d h => by cases h⟩, by simp, rfl⟩
  obtain ⟨rest, ks, ds, s10, s13, s14, s15, h1, h2, h3, h4, rfl⟩ := h
  cases rest with
  | nil => cases h1
  | cons c rest =>
    rw [List.map_cons] at h1
    injection h1 with h5 h6
    subst h5 h6
    rw [List.length_cons] at h4
    refine ⟨rfl, rfl, ?_⟩
    exact b_end I h3 (by omega) (h2 c List.mem_cons_self) fun ks' ds' s15 J hl => hN _ ⟨rest, ks', ds', _, _, _, s15, rfl, (fun x hx => h2 x (List.mem_cons_of_mem _ hx)), J, by omega, rfl⟩
/-- one turn -/
theorem turn_ok {k : Int} (I : Inv t ss log ps rs cs) (hsc : sc.length < 1000) (h0 : 0 ≤ k) (h1 : k < 1000) (hc : cs.length < 890) (hlog : log.length < 1000) (q : ∀ l o ls rs' d cs' s9 s10 s11, Inv t ss (log ++ [d]) ls rs' cs' → cs'.length ≤ cs.length + 3 → Δ.nx (lR C sc l o t s3 ss n ls rs' (a + 1) (log ++ [d]) m cs' (.val (.int k)) s9 s10 s11 s12 s13 s14 s15)) :
    la_4_b K C (lR C sc l o t s3 ss n ps rs a log m cs (.val (.int k)) s9 s10 s11 s12 s13 s14 s15) Δ := by
  refine seqI (w := li_0 K C) (b_box hsc h0 h1 fun o l ho => ?_)
  refine seqI (w := li_1 K C) (b_marks I (by omega) ho fun o cs1 s9 s10 ho I1 hl1 => ?_)
  refine seqI (w := li_2 K C) (b_pop I1 (by omega) ho fun o cs2 ho I2 hl2 => ?_)
  refine seqI (w := li_3 K C) (b_right I2 ?_)
  refine seqI (w := li_4 K C) (b_rows I2 ?_)
  refine seqI (w := li_5 K C) (b_deed I2 ho fun o d ho hd => ?_)
  refine seqI (w := li_6 K C) (b_put I2 hd fun ls rs' I3 => ?_)
  exact b_log (K := K) hlog (q _ _ _ _ _ _ _ _ _ I3 (by omega))
theorem b_turns (I : Inv t ss [] ps rs []) (hsc : sc.length ≤ 63) (q : ∀ l o ls rs' a log cs s8 s9 s10 s11, Inv t ss log ls rs' cs → cs.length < 900 → Δ.nx (lR C sc l o t s3 ss n ls rs' a log m cs s8 s9 s10 s11 s12 s13 s14 s15)) :
    la_4 K C (lR C sc l o t s3 ss n ps rs a [] m [] s8 s9 s10 s11 s12 s13 s14 s15) Δ := by
  have hN : ∃ N : Nat, N ≤ 39 ∧ (if (if (40 : Int) < (sc.length : Nat) then (40 : Int) else (sc.length : Nat)) > 12 then (if (40 : Int) < (sc.length : Nat) then (40 : Int) else (sc.length : Nat)) else 12) = (N : Nat) + 1 := by
    refine ⟨((if (if (40 : Int) < (sc.length : Nat) then (40 : Int) else (sc.length : Nat)) > 12 then (if (40 : Int) < (sc.length : Nat) then (40 : Int) else (sc.length : Nat)) else 12) - 1).toNat, ?_, ?_⟩ <;> split <;> split <;> omega
  obtain ⟨N, hN, e⟩ := hN
  have key : wForL (wgName 8) (la_4_b K C) (rgD 1 ((N : Nat) + 1 - 1 : Int).toNat) (lR C sc l o t s3 ss n ps rs a [] m [] s8 s9 s10 s11 s12 s13 s14 s15) Δ := by
    have e2 : ((N : Nat) + 1 - 1 : Int).toNat = N := by omega
    rw [e2]
    have hlen : (rgD 1 N).length = N := by unfold rgD; simp
    refine for_inv (fun ds ρ => ∃ (l : Addr) (o : OD) (ps : List Nat) (rs : List Ent) (a : Int) (log : List Nat) (cs : List Cpy) (s8 s9 s10 s11 : Sl), (∀ e ∈ ds, ∃ k : Int, e = .int k ∧ 0 ≤ k ∧ k < 1000) ∧ log.length + ds.length ≤ 39 ∧ cs.length + 3 * ds.length ≤ 117 ∧ Inv t ss log ps rs cs ∧ ρ = lR C sc l o t s3 ss n ps rs a log m cs s8 s9 s10 s11 s12 s13 s14 s15) (fun d ds ρ N h hN => ?_) (fun ρ h => ?_) _ _
      ⟨l, o, ps, rs, a, [], [], s8, s9, s10, s11, fun e he => ?_, by rw [hlen]; simpa using hN, by rw [hlen]; simp; omega, I, rfl⟩
    · obtain ⟨l, o, ps, rs, a, log, cs, s8, s9, s10, s11, h1, h2, h3, I, rfl⟩ := h
      obtain ⟨k, rfl, k0, k1⟩ := h1 d List.mem_cons_self
      rw [List.length_cons] at h2 h3
      exact turn_ok I (by omega) k0 k1 (by omega) (by omega) fun l o ls rs' d cs' s9 s10 s11 I' hl => hN _ ⟨l, o, ls, rs', a + 1, log ++ [d], cs', _, s9, s10, s11, (fun e he => h1 e (List.mem_cons_of_mem _ he)), by rw [List.length_append, List.length_singleton]; omega, by omega, I', rfl⟩
    · obtain ⟨l, o, ps, rs, a, log, cs, s8, s9, s10, s11, h1, h2, h3, I, rfl⟩ := h
      exact q l o ps rs a log cs s8 s9 s10 s11 I (by omega)
    · obtain ⟨i, hi, rfl⟩ := List.mem_map.mp he
      have hi := List.mem_range.mp hi
      exact ⟨_, rfl, by omega, by omega⟩
  refine ⟨⟨by omega, by omega, ?_, ?_⟩, ?_⟩
  · rw [e]; omega
  · rw [e]; omega
  · rw [e]; exact key
theorem r_4 (I : Inv t ss [] ps rs []) (hsc : sc.length ≤ 63) (q : ∀ ρ, la_7 K C ρ Δ) : (wSeq (la_4 K C) (wSeq (la_5 K C) (wSeq (la_6 K C) (la_7 K C)))) (lR C sc l o t s3 ss n ps rs a [] m [] s8 s9 s10 s11 s12 s13 s14 s15) Δ := by
  refine seqI (w := la_4 K C) (b_turns I hsc fun l o ls rs' a log cs s8 s9 s10 s11 I hc => ?_)
  refine seqI (w := la_5 K C) (fun e => ?_)
  exact seqI (w := la_6 K C) (b_ends (C := C) I hc fun ρ => q ρ)
theorem r_3 (g : Good t) (st : StG (wd t) ss) (hsc : sc.length ≤ 63) (q : ∀ ρ, la_7 K C ρ Δ) : (wSeq (la_3 K C) (wSeq (la_4 K C) (wSeq (la_5 K C) (wSeq (la_6 K C) (la_7 K C))))) [.val (.scr sc), .own l o, .val (tbsD t), s3, .val (.lst (numsD ss)), .un, .un, .un, s8, s9, s10, s11, s12, s13, s14, s15, .un] Δ := by
  refine seqI (w := la_3 K C) ?_
  refine ⟨rfl, rfl, mk_good g rfl ⟨rfl, _, _, rfl, rfl, rfl, rfl, t, ss, g, st, rfl, rfl, _, _, rfl, fun n => ?_⟩⟩
  refine ⟨Nat.zero_le _, Nat.zero_le _, fun m => ?_⟩
  exact r_4 (l := l) (o := o) (n := n) (m := m) (s3 := s3) (a := 0) ⟨g, NoteI.first g st, fun _ h => nomatch h⟩ hsc q
theorem r_2 (g : Good t) (h2 : GoodB o) (hsc : sc.length ≤ 63) (q : ∀ ρ, la_7 K C ρ Δ) : (wSeq (la_2 K C) (wSeq (la_3 K C) (wSeq (la_4 K C) (wSeq (la_5 K C) (wSeq (la_6 K C) (la_7 K C)))))) [.val (.scr sc), .own l o, .val (tbsD t), .un, .un, .un, .un, .un, .un, .un, .un, .un, .un, .un, .un, .un, .un] Δ := by
  have hw := g.head
  have h0 : atI (t.map rowD) 0 = some (rowD (t.headD [])) := by
    cases t with
    | nil => exact absurd rfl g.ne
    | cons r t => exact at_map (f := rowD) (xs := r :: t) (i := 0) rfl
  have hl0 : ((t.headD []).map fun n => D.int (n : Nat)).length = wd t := List.length_map ..
  refine seqI (w := la_2 K C) ?_
  refine ⟨_, h0, ⟨l, _, rfl⟩, _, h0, rfl, o, ((t.headD []).map fun n => D.int (n : Nat)).length, rfl, h2, rfl, by rw [hl0]; omega, by rw [hl0]; omega, fun ss o3 st h3 => ⟨o3, rfl, by show 2 ≤ sizeLine; decide, rfl, rfl, ?_⟩⟩
  rw [hl0] at st
  exact r_3 g st hsc q
theorem m_law : Sem0 1 17 (sp_law C) (x_law K C) := by
  rintro hl ds Ψ Ξ - ⟨h, sc, rfl, hlen, q⟩
  cases none_of h
  refine seqI (w := la_0 K C) ⟨rfl, sc, 0, rfl, by omega, by omega, by omega, fun o ho l => ?_⟩
  refine seqI (w := la_1 K C) ⟨⟨l, _, rfl⟩, rfl, o, rfl, ho, rfl, fun t o2 g h2 => ⟨o2, rfl, ?_⟩⟩
  exact r_2 (K := K) g h2 hlen fun ρ => q
end
end K32
set_option Elab.async false
set_option autoImplicit false
set_option linter.all false
set_option maxRecDepth 100000
set_option maxHeartbeats 3900000
namespace K32
open DL L2 PyProof.Rows PySem PySem.Spec
structure Defs (K : Fg) (mg : Str → Option Value) (C : Cs) : Prop where
  F_is_integer : FunD K "is_integer" "is_integer" (defArgs (top 9)) (defBody (top 9)) (defScope (top 9)) [] [] C.f_is_integer C.d_is_integer
  F_is_below : FunD K "is_below" "is_below" (defArgs (top 10)) (defBody (top 10)) (defScope (top 10)) [] [] C.f_is_below C.d_is_below
  F_is_sequence : FunD K "is_sequence" "is_sequence" (defArgs (top 11)) (defBody (top 11)) (defScope (top 11)) [] [] C.f_is_sequence C.d_is_sequence
  F_is_ascending : FunD K "is_ascending" "is_ascending" (defArgs (top 12)) (defBody (top 12)) (defScope (top 12)) [] [] C.f_is_ascending C.d_is_ascending
  F_fault_place : FunD K "fault_place" "fault_place" (defArgs (top 13)) (defBody (top 13)) (defScope (top 13)) [] [] C.f_fault_place C.d_fault_place
  F_is_table : FunD K "is_table" "is_table" (defArgs (top 18)) (defBody (top 18)) (defScope (top 18)) [] [] C.f_is_table C.d_is_table
  F_check_tables : FunD K "check_tables" "check_tables" (defArgs (top 19)) (defBody (top 19)) (defScope (top 19)) [] [] C.f_check_tables C.d_check_tables
  F_Machine_init : FunD K "__init__" "Machine.__init__" (defArgs (inClass (top 20) 0)) (defBody (inClass (top 20) 0)) (defScope (inClass (top 20) 0)) [] [] C.f_Machine_init C.d_Machine_init
  F_check_state : FunD K "check_state" "check_state" (defArgs (top 21)) (defBody (top 21)) (defScope (top 21)) [] [] C.f_check_state C.d_check_state
  F_check_deed : FunD K "check_deed" "check_deed" (defArgs (top 22)) (defBody (top 22)) (defScope (top 22)) [] [] C.f_check_deed C.d_check_deed
  F_log_fault : FunD K "log_fault" "log_fault" (defArgs (top 23)) (defBody (top 23)) (defScope (top 23)) [] [] C.f_log_fault C.d_log_fault
  F_check_log : FunD K "check_log" "check_log" (defArgs (top 24)) (defBody (top 24)) (defScope (top 24)) [] [] C.f_check_log C.d_check_log
  F_check_starts : FunD K "check_starts" "check_starts" (defArgs (top 25)) (defBody (top 25)) (defScope (top 25)) [] [] C.f_check_starts C.d_check_starts
  F_state_after : FunD K "state_after" "state_after" (defArgs (top 26)) (defBody (top 26)) (defScope (top 26)) [] [] C.f_state_after C.d_state_after
  F_image : FunD K "image" "image" (defArgs (top 27)) (defBody (top 27)) (defScope (top 27)) [] [] C.f_image C.d_image
  F_kept_row : FunD K "kept_row" "kept_row" (defArgs (top 29)) (defBody (top 29)) (defScope (top 29)) [] [] C.f_kept_row C.d_kept_row
  F_kept_rows : FunD K "kept_rows" "kept_rows" (defArgs (top 30)) (defBody (top 30)) (defScope (top 30)) [] [] C.f_kept_rows C.d_kept_rows
  F_first_rows : FunD K "first_rows" "first_rows" (defArgs (top 31)) (defBody (top 31)) (defScope (top 31)) [] [] C.f_first_rows C.d_first_rows
  F_led_rows : FunD K "led_rows" "led_rows" (defArgs (top 32)) (defBody (top 32)) (defScope (top 32)) [] [] C.f_led_rows C.d_led_rows
  F_led_note : FunD K "led_note" "led_note" (defArgs (top 33)) (defBody (top 33)) (defScope (top 33)) [] [] C.f_led_note C.d_led_note
  F_LogNote_init : FunD K "__init__" "LogNote.__init__" (defArgs (inClass (top 34) 0)) (defBody (inClass (top 34) 0)) (defScope (inClass (top 34) 0)) [] [("starts", .non)] C.f_LogNote_init C.d_LogNote_init
  F_LogNote_put : FunD K "put" "LogNote.put" (defArgs (inClass (top 34) 2)) (defBody (inClass (top 34) 2)) (defScope (inClass (top 34) 2)) [] [] C.f_LogNote_put C.d_LogNote_put
  F_LogNote_mark : FunD K "mark" "LogNote.mark" (defArgs (inClass (top 34) 3)) (defBody (inClass (top 34) 3)) (defScope (inClass (top 34) 3)) [] [] C.f_LogNote_mark C.d_LogNote_mark
  F_LogNote_read : FunD K "read" "LogNote.read" (defArgs (inClass (top 34) 4)) (defBody (inClass (top 34) 4)) (defScope (inClass (top 34) 4)) [V.ref C.dt_LogNote_read] [] C.f_LogNote_read C.d_LogNote_read
  F_law_box : FunD K "_law_box" "_law_box" (defArgs (top 36)) (defBody (top 36)) (defScope (top 36)) [] [] C.f_law_box C.d_law_box
  F_law_take : FunD K "_law_take" "_law_take" (defArgs (top 37)) (defBody (top 37)) (defScope (top 37)) [] [] C.f_law_take C.d_law_take
  F_law_pick : FunD K "_law_pick" "_law_pick" (defArgs (top 38)) (defBody (top 38)) (defScope (top 38)) [] [] C.f_law_pick C.d_law_pick
  F_law_tables : FunD K "_law_tables" "_law_tables" (defArgs (top 39)) (defBody (top 39)) (defScope (top 39)) [] [] C.f_law_tables C.d_law_tables
  F_law_led : FunD K "_law_led" "_law_led" (defArgs (top 40)) (defBody (top 40)) (defScope (top 40)) [] [] C.f_law_led C.d_law_led
  F_law_starts : FunD K "_law_starts" "_law_starts" (defArgs (top 41)) (defBody (top 41)) (defScope (top 41)) [] [] C.f_law_starts C.d_law_starts
  F_law_copies_right : FunD K "_law_copies_right" "_law_copies_right" (defArgs (top 42)) (defBody (top 42)) (defScope (top 42)) [] [] C.f_law_copies_right C.d_law_copies_right
  F_law : FunD K "law" "law" (defArgs (top 43)) (defBody (top 43)) (defScope (top 43)) [] [] C.f_law C.d_law
  K_LogNote_mark : KBn K C.d_LogNote_mark ["self", "state"] 2 [] (fun us _ => us) (fun us _ => us)
  K_LogNote_put : KBn K C.d_LogNote_put ["self", "deed"] 2 [] (fun us _ => us) (fun us _ => us)
  K_Machine_init : KBn K C.d_Machine_init ["self", "tables"] 2 [] (fun us _ => us) (fun us _ => us)
  U_check_deed : Dn K mg "check_deed" C.f_check_deed C.d_check_deed ["machine", "value"] 2
  U_check_log : Dn K mg "check_log" C.f_check_log C.d_check_log ["machine", "value"] 2
  U_check_starts : Dn K mg "check_starts" C.f_check_starts C.d_check_starts ["machine", "value"] 2
  U_check_state : Dn K mg "check_state" C.f_check_state C.d_check_state ["machine", "value"] 2
  U_check_tables : Dn K mg "check_tables" C.f_check_tables C.d_check_tables ["value"] 1
  U_fault_place : Dn K mg "fault_place" C.f_fault_place C.d_fault_place ["value", "many"] 2
  U_first_rows : Dn K mg "first_rows" C.f_first_rows C.d_first_rows ["machine", "starts"] 2
  U_image : Dn K mg "image" C.f_image C.d_image ["table", "states"] 2
  U_is_ascending : Dn K mg "is_ascending" C.f_is_ascending C.d_is_ascending ["value", "many"] 2
  U_is_below : Dn K mg "is_below" C.f_is_below C.d_is_below ["value", "many"] 2
  U_is_integer : Dn K mg "is_integer" C.f_is_integer C.d_is_integer ["value"] 1
  U_is_sequence : Dn K mg "is_sequence" C.f_is_sequence C.d_is_sequence ["value"] 1
  U_is_table : Dn K mg "is_table" C.f_is_table C.d_is_table ["value"] 1
  U_kept_row : Dn K mg "kept_row" C.f_kept_row C.d_kept_row ["row", "state"] 2
  U_kept_rows : Dn K mg "kept_rows" C.f_kept_rows C.d_kept_rows ["rows", "possible"] 2
  U_law_box : Dn K mg "_law_box" C.f_law_box C.d_law_box ["script", "k"] 2
  U_law_copies_right : Dn K mg "_law_copies_right" C.f_law_copies_right C.d_law_copies_right ["note", "tables", "starts", "log", "copies"] 5
  U_law_led : Dn K mg "_law_led" C.f_law_led C.d_law_led ["tables", "state", "log"] 3
  U_law_pick : Dn K mg "_law_pick" C.f_law_pick C.d_law_pick ["box", "some"] 2
  U_law_starts : Dn K mg "_law_starts" C.f_law_starts C.d_law_starts ["box", "many"] 2
  U_law_tables : Dn K mg "_law_tables" C.f_law_tables C.d_law_tables ["box"] 1
  U_law_take : Dn K mg "_law_take" C.f_law_take C.d_law_take ["box", "many"] 2
  U_led_note : Dn K mg "led_note" C.f_led_note C.d_led_note ["table", "possible", "rows"] 3
  U_led_rows : Dn K mg "led_rows" C.f_led_rows C.d_led_rows ["table", "rows"] 2
  U_log_fault : Dn K mg "log_fault" C.f_log_fault C.d_log_fault ["machine", "value"] 2
  U_state_after : Dn K mg "state_after" C.f_state_after C.d_state_after ["machine", "state", "log"] 3
  kd_LogNote_read : ∃ ds, Vals [V.ref C.dt_LogNote_read] ds ∧ Binds K C.d_LogNote_read ["self", "state", "mark", "later"] ds
  kx_LogNote_init_2_0 : KBn K C.d_LogNote_init ["self", "machine", "starts"] 2 ["starts"] (kf_2_0 Value.none) (kf_2_0 V.non)
section
variable {P : Program} {w : World} {K : Fg} {mg : Str → Option Value} {base : Heap} {t : List (Addr × Str)} {C : Cs}
theorem ok_is_integer (T : Txt P w K mg base t C) (D : Defs K mg C) : FnG P w K mg base 2 C.f_is_integer C.d_is_integer ["value"] (lSp K t 1 (sp_is_integer C)) :=
  defG D.F_is_integer sc_is_integer rfl (fun cdv A outer s H E hcv c => dv_is_integer T cdv A outer s H E c) (fun hl ds Ψ Ξ h1 h2 => m_is_integer hl ds Ψ Ξ h1 h2)
theorem ok_is_below (T : Txt P w K mg base t C) (D : Defs K mg C) : FnG P w K mg base 3 C.f_is_below C.d_is_below ["value", "many"] (lSp K t 2 (sp_is_below C)) :=
  defG D.F_is_below sc_is_below rfl (fun cdv A outer s H E hcv c => dv_is_below T (ok_is_integer T D) D.U_is_integer cdv A outer s H E c) (fun hl ds Ψ Ξ h1 h2 => m_is_below hl ds Ψ Ξ h1 h2)
theorem ok_is_sequence (T : Txt P w K mg base t C) (D : Defs K mg C) : FnG P w K mg base 2 C.f_is_sequence C.d_is_sequence ["value"] (lSp K t 1 (sp_is_sequence C)) :=
  defG D.F_is_sequence sc_is_sequence rfl (fun cdv A outer s H E hcv c => dv_is_sequence T cdv A outer s H E c) (fun hl ds Ψ Ξ h1 h2 => m_is_sequence hl ds Ψ Ξ h1 h2)
theorem ok_is_ascending (T : Txt P w K mg base t C) (D : Defs K mg C) : FnG P w K mg base 4 C.f_is_ascending C.d_is_ascending ["value", "many"] (lSp K t 2 (sp_is_ascending C)) :=
  defG D.F_is_ascending sc_is_ascending rfl (fun cdv A outer s H E hcv c => dv_is_ascending T (ok_is_below T D) D.U_is_below (ok_is_sequence T D) D.U_is_sequence cdv A outer s H E c) (fun hl ds Ψ Ξ h1 h2 => m_is_ascending hl ds Ψ Ξ h1 h2)
theorem ok_fault_place (T : Txt P w K mg base t C) (D : Defs K mg C) : FnG P w K mg base 4 C.f_fault_place C.d_fault_place ["value", "many"] (lSp K t 2 (sp_fault_place C)) :=
  defG D.F_fault_place sc_fault_place rfl (fun cdv A outer s H E hcv c => dv_fault_place T (ok_is_below T D) D.U_is_below cdv A outer s H E c) (fun hl ds Ψ Ξ h1 h2 => m_fault_place hl ds Ψ Ξ h1 h2)
theorem ok_is_table (T : Txt P w K mg base t C) (D : Defs K mg C) : FnG P w K mg base 5 C.f_is_table C.d_is_table ["value"] (lSp K t 1 (sp_is_table C)) :=
  defG D.F_is_table sc_is_table rfl (fun cdv A outer s H E hcv c => dv_is_table T (ok_fault_place T D) D.U_fault_place (ok_is_sequence T D) D.U_is_sequence cdv A outer s H E c) (fun hl ds Ψ Ξ h1 h2 => m_is_table hl ds Ψ Ξ h1 h2)
theorem ok_check_tables (T : Txt P w K mg base t C) (D : Defs K mg C) : FnG P w K mg base 6 C.f_check_tables C.d_check_tables ["value"] (lSp K t 1 (sp_check_tables C)) :=
  defG D.F_check_tables sc_check_tables rfl (fun cdv A outer s H E hcv c => dv_check_tables T (ok_is_sequence T D) D.U_is_sequence (ok_is_table T D) D.U_is_table cdv A outer s H E c) (fun hl ds Ψ Ξ h1 h2 => m_check_tables hl ds Ψ Ξ h1 h2)
theorem ok_Machine_init (T : Txt P w K mg base t C) (D : Defs K mg C) : FnG P w K mg base 7 C.f_Machine_init C.d_Machine_init ["self", "tables"] (lSp K t 2 (sp_Machine_init C)) :=
  defG D.F_Machine_init sc_Machine_init rfl (fun cdv A outer s H E hcv c => dv_Machine_init T (ok_check_tables T D) D.U_check_tables cdv A outer s H E c) (fun hl ds Ψ Ξ h1 h2 => m_Machine_init hl ds Ψ Ξ h1 h2)
theorem ok_check_state (T : Txt P w K mg base t C) (D : Defs K mg C) : FnG P w K mg base 4 C.f_check_state C.d_check_state ["machine", "value"] (lSp K t 2 (sp_check_state C)) :=
  defG D.F_check_state sc_check_state rfl (fun cdv A outer s H E hcv c => dv_check_state T (ok_is_below T D) D.U_is_below cdv A outer s H E c) (fun hl ds Ψ Ξ h1 h2 => m_check_state hl ds Ψ Ξ h1 h2)
theorem ok_check_deed (T : Txt P w K mg base t C) (D : Defs K mg C) : FnG P w K mg base 4 C.f_check_deed C.d_check_deed ["machine", "value"] (lSp K t 2 (sp_check_deed C)) :=
  defG D.F_check_deed sc_check_deed rfl (fun cdv A outer s H E hcv c => dv_check_deed T (ok_is_below T D) D.U_is_below cdv A outer s H E c) (fun hl ds Ψ Ξ h1 h2 => m_check_deed hl ds Ψ Ξ h1 h2)
theorem ok_log_fault (T : Txt P w K mg base t C) (D : Defs K mg C) : FnG P w K mg base 5 C.f_log_fault C.d_log_fault ["machine", "value"] (lSp K t 2 (sp_log_fault C)) :=
  defG D.F_log_fault sc_log_fault rfl (fun cdv A outer s H E hcv c => dv_log_fault T (ok_fault_place T D) D.U_fault_place (ok_is_sequence T D) D.U_is_sequence cdv A outer s H E c) (fun hl ds Ψ Ξ h1 h2 => m_log_fault hl ds Ψ Ξ h1 h2)
theorem ok_check_log (T : Txt P w K mg base t C) (D : Defs K mg C) : FnG P w K mg base 6 C.f_check_log C.d_check_log ["machine", "value"] (lSp K t 2 (sp_check_log C)) :=
  defG D.F_check_log sc_check_log rfl (fun cdv A outer s H E hcv c => dv_check_log T (ok_log_fault T D) D.U_log_fault cdv A outer s H E c) (fun hl ds Ψ Ξ h1 h2 => m_check_log hl ds Ψ Ξ h1 h2)
theorem ok_check_starts (T : Txt P w K mg base t C) (D : Defs K mg C) : FnG P w K mg base 5 C.f_check_starts C.d_check_starts ["machine", "value"] (lSp K t 2 (sp_check_starts C)) :=
  defG D.F_check_starts sc_check_starts rfl (fun cdv A outer s H E hcv c => dv_check_starts T (ok_is_ascending T D) D.U_is_ascending cdv A outer s H E c) (fun hl ds Ψ Ξ h1 h2 => m_check_starts hl ds Ψ Ξ h1 h2)
theorem ok_state_after (T : Txt P w K mg base t C) (D : Defs K mg C) : FnG P w K mg base 7 C.f_state_after C.d_state_after ["machine", "state", "log"] (lSp K t 3 (sp_state_after C)) :=
  defG D.F_state_after sc_state_after rfl (fun cdv A outer s H E hcv c => dv_state_after T (ok_check_log T D) D.U_check_log (ok_check_state T D) D.U_check_state cdv A outer s H E c) (fun hl ds Ψ Ξ h1 h2 => m_state_after hl ds Ψ Ξ h1 h2)
theorem ok_image (T : Txt P w K mg base t C) (D : Defs K mg C) : FnG P w K mg base 2 C.f_image C.d_image ["table", "states"] (lSp K t 2 (sp_image C)) :=
  defG D.F_image sc_image rfl (fun cdv A outer s H E hcv c => dv_image T cdv A outer s H E c) (fun hl ds Ψ Ξ h1 h2 => m_image hl ds Ψ Ξ h1 h2)
theorem ok_kept_row (T : Txt P w K mg base t C) (D : Defs K mg C) : FnG P w K mg base 2 C.f_kept_row C.d_kept_row ["row", "state"] (lSp K t 2 (sp_kept_row C)) :=
  defG D.F_kept_row sc_kept_row rfl (fun cdv A outer s H E hcv c => dv_kept_row T cdv A outer s H E c) (fun hl ds Ψ Ξ h1 h2 => m_kept_row hl ds Ψ Ξ h1 h2)
theorem ok_kept_rows (T : Txt P w K mg base t C) (D : Defs K mg C) : FnG P w K mg base 3 C.f_kept_rows C.d_kept_rows ["rows", "possible"] (lSp K t 2 (sp_kept_rows C)) :=
  defG D.F_kept_rows sc_kept_rows rfl (fun cdv A outer s H E hcv c => dv_kept_rows T (ok_kept_row T D) D.U_kept_row cdv A outer s H E c) (fun hl ds Ψ Ξ h1 h2 => m_kept_rows hl ds Ψ Ξ h1 h2)
theorem ok_first_rows (T : Txt P w K mg base t C) (D : Defs K mg C) : FnG P w K mg base 4 C.f_first_rows C.d_first_rows ["machine", "starts"] (lSp K t 2 (sp_first_rows C)) :=
  defG D.F_first_rows sc_first_rows rfl (fun cdv A outer s H E hcv c => dv_first_rows T (ok_kept_rows T D) D.U_kept_rows cdv A outer s H E c) (fun hl ds Ψ Ξ h1 h2 => m_first_rows hl ds Ψ Ξ h1 h2)
theorem ok_led_rows (T : Txt P w K mg base t C) (D : Defs K mg C) : FnG P w K mg base 2 C.f_led_rows C.d_led_rows ["table", "rows"] (lSp K t 2 (sp_led_rows C)) :=
  defG D.F_led_rows sc_led_rows rfl (fun cdv A outer s H E hcv c => dv_led_rows T cdv A outer s H E c) (fun hl ds Ψ Ξ h1 h2 => m_led_rows hl ds Ψ Ξ h1 h2)
theorem ok_led_note (T : Txt P w K mg base t C) (D : Defs K mg C) : FnG P w K mg base 4 C.f_led_note C.d_led_note ["table", "possible", "rows"] (lSp K t 3 (sp_led_note C)) :=
  defG D.F_led_note sc_led_note rfl (fun cdv A outer s H E hcv c => dv_led_note T (ok_image T D) D.U_image (ok_kept_rows T D) D.U_kept_rows (ok_led_rows T D) D.U_led_rows cdv A outer s H E c) (fun hl ds Ψ Ξ h1 h2 => m_led_note hl ds Ψ Ξ h1 h2)
theorem ok_LogNote_init (T : Txt P w K mg base t C) (D : Defs K mg C) : FnG P w K mg base 6 C.f_LogNote_init C.d_LogNote_init ["self", "machine", "starts"] (lSp K t 3 (sp_LogNote_init C)) :=
  defG D.F_LogNote_init sc_LogNote_init rfl (fun cdv A outer s H E hcv c => dv_LogNote_init T (ok_check_starts T D) D.U_check_starts (ok_first_rows T D) D.U_first_rows cdv A outer s H E c) (fun hl ds Ψ Ξ h1 h2 => m_LogNote_init hl ds Ψ Ξ h1 h2)
theorem ok_LogNote_put (T : Txt P w K mg base t C) (D : Defs K mg C) : FnG P w K mg base 5 C.f_LogNote_put C.d_LogNote_put ["self", "deed"] (lSp K t 2 (sp_LogNote_put C)) :=
  defG D.F_LogNote_put sc_LogNote_put rfl (fun cdv A outer s H E hcv c => dv_LogNote_put T (ok_check_deed T D) D.U_check_deed (ok_led_note T D) D.U_led_note cdv A outer s H E c) (fun hl ds Ψ Ξ h1 h2 => m_LogNote_put hl ds Ψ Ξ h1 h2)
theorem ok_LogNote_mark (T : Txt P w K mg base t C) (D : Defs K mg C) : FnG P w K mg base 5 C.f_LogNote_mark C.d_LogNote_mark ["self", "state"] (lSp K t 2 (sp_LogNote_mark C)) :=
  defG D.F_LogNote_mark sc_LogNote_mark rfl (fun cdv A outer s H E hcv c => dv_LogNote_mark T (ok_check_state T D) D.U_check_state cdv A outer s H E c) (fun hl ds Ψ Ξ h1 h2 => m_LogNote_mark hl ds Ψ Ξ h1 h2)
theorem ok_LogNote_read (T : Txt P w K mg base t C) (D : Defs K mg C) : FnG P w K mg base 8 C.f_LogNote_read C.d_LogNote_read ["self", "state", "mark", "later"] (lSp K t 4 (sp_LogNote_read C)) :=
  defG D.F_LogNote_read sc_LogNote_read rfl (fun cdv A outer s H E hcv c => dv_LogNote_read T (ok_check_state T D) D.U_check_state (ok_is_below T D) D.U_is_below (ok_state_after T D) D.U_state_after cdv A outer s H E c) (fun hl ds Ψ Ξ h1 h2 => m_LogNote_read hl ds Ψ Ξ h1 h2)
theorem ok_law_box (T : Txt P w K mg base t C) (D : Defs K mg C) : FnG P w K mg base 2 C.f_law_box C.d_law_box ["script", "k"] (lSpO K t 2 (so_law_box C)) :=
  defO D.F_law_box sc_law_box rfl (fun cdv A outer s H E hcv c => dv_law_box T cdv A outer s H E c) (fun ds Ψ h1 h2 => m_law_box ds Ψ h1 h2)
theorem ok_law_take (T : Txt P w K mg base t C) (D : Defs K mg C) : FnG P w K mg base 2 C.f_law_take C.d_law_take ["box", "many"] (lSp K t 2 (sp_law_take C)) :=
  defG D.F_law_take sc_law_take rfl (fun cdv A outer s H E hcv c => dv_law_take T cdv A outer s H E c) (fun hl ds Ψ Ξ h1 h2 => m_law_take hl ds Ψ Ξ h1 h2)
theorem ok_law_pick (T : Txt P w K mg base t C) (D : Defs K mg C) : FnG P w K mg base 3 C.f_law_pick C.d_law_pick ["box", "some"] (lSp K t 2 (sp_law_pick C)) :=
  defG D.F_law_pick sc_law_pick rfl (fun cdv A outer s H E hcv c => dv_law_pick T (ok_law_take T D) D.U_law_take cdv A outer s H E c) (fun hl ds Ψ Ξ h1 h2 => m_law_pick hl ds Ψ Ξ h1 h2)
theorem ok_law_tables (T : Txt P w K mg base t C) (D : Defs K mg C) : FnG P w K mg base 4 C.f_law_tables C.d_law_tables ["box"] (lSp K t 1 (sp_law_tables C)) :=
  defG D.F_law_tables sc_law_tables rfl (fun cdv A outer s H E hcv c => dv_law_tables T (ok_law_pick T D) D.U_law_pick (ok_law_take T D) D.U_law_take cdv A outer s H E c) (fun hl ds Ψ Ξ h1 h2 => m_law_tables hl ds Ψ Ξ h1 h2)
theorem ok_law_led (T : Txt P w K mg base t C) (D : Defs K mg C) : FnG P w K mg base 2 C.f_law_led C.d_law_led ["tables", "state", "log"] (lSp K t 3 (sp_law_led C)) :=
  defG D.F_law_led sc_law_led rfl (fun cdv A outer s H E hcv c => dv_law_led T cdv A outer s H E c) (fun hl ds Ψ Ξ h1 h2 => m_law_led hl ds Ψ Ξ h1 h2)
theorem ok_law_starts (T : Txt P w K mg base t C) (D : Defs K mg C) : FnG P w K mg base 3 C.f_law_starts C.d_law_starts ["box", "many"] (lSp K t 2 (sp_law_starts C)) :=
  defG D.F_law_starts sc_law_starts rfl (fun cdv A outer s H E hcv c => dv_law_starts T (ok_law_take T D) D.U_law_take cdv A outer s H E c) (fun hl ds Ψ Ξ h1 h2 => m_law_starts hl ds Ψ Ξ h1 h2)
theorem ok_law_copies_right (T : Txt P w K mg base t C) (D : Defs K mg C) : FnG P w K mg base 10 C.f_law_copies_right C.d_law_copies_right ["note", "tables", "starts", "log", "copies"] (lSp K t 5 (sp_law_copies_right C)) :=
  defG D.F_law_copies_right sc_law_copies_right rfl (fun cdv A outer s H E hcv c => dv_law_copies_right T D.kd_LogNote_read (ok_LogNote_read T D) (ok_law_led T D) D.U_law_led cdv A outer s H E c) (fun hl ds Ψ Ξ h1 h2 => m_law_copies_right hl ds Ψ Ξ h1 h2)
theorem ok_law (T : Txt P w K mg base t C) (D : Defs K mg C) : FnG P w K mg base 11 C.f_law C.d_law ["script"] (lSp K t 1 (sp_law C)) :=
  defG D.F_law sc_law rfl (fun cdv A outer s H E hcv c => dv_law T D.kd_LogNote_read (ok_LogNote_init T D) (ok_LogNote_mark T D) D.K_LogNote_mark (ok_LogNote_put T D) D.K_LogNote_put (ok_LogNote_read T D) (ok_Machine_init T D) D.K_Machine_init D.kx_LogNote_init_2_0 (ok_law_box T D) D.U_law_box (ok_law_copies_right T D) D.U_law_copies_right (ok_law_led T D) D.U_law_led (ok_law_pick T D) D.U_law_pick (ok_law_starts T D) D.U_law_starts (ok_law_tables T D) D.U_law_tables (ok_law_take T D) D.U_law_take cdv A outer s H E c) (fun hl ds Ψ Ξ h1 h2 => m_law hl ds Ψ Ξ h1 h2)
end
end K32
set_option Elab.async false
set_option linter.all false
set_option maxRecDepth 100000
set_option maxHeartbeats 3900000
namespace K32
open DL L2 PyProof.Rows PySem PySem.Spec
theorem fund {K : Fg} {x qual : Str} {st : Stmt} {f : Addr} {oc : Value} {od an : Option Addr} {osl : Array (Option Value)} {kV doc pm cdv ct : Value}
    (l : K.lookup f = some ⟨oc, od, .func (PySem.W.fnOf x qual (defArgs st) (defBody st) (defScope st) .none kV doc pm an cdv ct), osl⟩) (c : PySem.W.codeIn K cdv qual = true) (k : PySem.W.keepIn K (.ref f) = true) :
    FunD K x qual (defArgs st) (defBody st) (defScope st) [] [] f (PySem.W.fnOf x qual (defArgs st) (defBody st) (defScope st) .none kV doc pm an cdv ct) :=
  ⟨⟨oc, od, .none, kV, doc, pm, an, cdv, ct, osl, rfl, l, c, .inl ⟨rfl, rfl⟩, .inl rfl⟩, k⟩
theorem fundK {K : Fg} {x qual : Str} {st : Stmt} {f D : Addr} {qs : List (Str × V)} {oc : Value} {od an : Option Addr} {osl : Array (Option Value)} {doc pm cdv ct : Value}
    (l : K.lookup f = some ⟨oc, od, .func (PySem.W.fnOf x qual (defArgs st) (defBody st) (defScope st) .none (.ref D) doc pm an cdv ct), osl⟩) (c : PySem.W.codeIn K cdv qual = true) (k : PySem.W.keepIn K (.ref f) = true) (hn : ∀ r ∈ qs, r.2 = .non ∧ PySem.W.nsIn K D r.1 = some (some .none)) :
    FunD K x qual (defArgs st) (defBody st) (defScope st) [] qs f (PySem.W.fnOf x qual (defArgs st) (defBody st) (defScope st) .none (.ref D) doc pm an cdv ct) :=
  ⟨⟨oc, od, .none, .ref D, doc, pm, an, cdv, ct, osl, rfl, l, c, .inl ⟨rfl, rfl⟩, .inr ⟨D, rfl, fun r hr => ⟨.none, (hn r hr).2, by rw [(hn r hr).1]; rfl⟩⟩⟩, k⟩
theorem kr_2_0 : ∀ {vs : List V} {us : List Value} {zs : List V} {ws : List Value}, Vals vs us → Vals zs ws → Vals (kf_2_0 V.non vs zs) (kf_2_0 Value.none us ws) := by
  intro vs us zs ws r q
  by_cases h : vs.length = 2 ∧ zs.length = 1
  · obtain ⟨h1, h2⟩ := h
    match vs, us, zs, ws, r, q, h1, h2 with
    | [_, _], _, [_], _, .cons r0 (.cons r1 (.nil)), .cons q0 (.nil), _, _ => exact .cons r0 (.cons r1 (.cons q0 (.nil)))
  · have e1 := r.length
    have e2 := q.length
    have a1 : ∀ (xs : List V) (ys : List V), ¬ (xs.length = 2 ∧ ys.length = 1) → kf_2_0 V.non xs ys = xs := fun xs ys h => by
      unfold kf_2_0; split
      · exact absurd ⟨rfl, rfl⟩ h
      · rfl
    have a2 : ∀ (xs : List Value) (ys : List Value), ¬ (xs.length = 2 ∧ ys.length = 1) → kf_2_0 Value.none xs ys = xs := fun xs ys h => by
      unfold kf_2_0; split
      · exact absurd ⟨rfl, rfl⟩ h
      · rfl
    rw [a1 _ _ h, a2 _ _ (by rw [← e1, ← e2]; exact h)]
    exact r
theorem kr_1_0 : ∀ {vs : List V} {us : List Value} {zs : List V} {ws : List Value}, Vals vs us → Vals zs ws → Vals (kf_1_0 V.non vs zs) (kf_1_0 Value.none us ws) := by
  intro vs us zs ws r q
  by_cases h : vs.length = 1 ∧ zs.length = 1
  · obtain ⟨h1, h2⟩ := h
    match vs, us, zs, ws, r, q, h1, h2 with
    | [_], _, [_], _, .cons r0 (.nil), .cons q0 (.nil), _, _ => exact .cons r0 (.cons q0 (.nil))
  · have e1 := r.length
    have e2 := q.length
    have a1 : ∀ (xs : List V) (ys : List V), ¬ (xs.length = 1 ∧ ys.length = 1) → kf_1_0 V.non xs ys = xs := fun xs ys h => by
      unfold kf_1_0; split
      · exact absurd ⟨rfl, rfl⟩ h
      · rfl
    have a2 : ∀ (xs : List Value) (ys : List Value), ¬ (xs.length = 1 ∧ ys.length = 1) → kf_1_0 Value.none xs ys = xs := fun xs ys h => by
      unfold kf_1_0; split
      · exact absurd ⟨rfl, rfl⟩ h
      · rfl
    rw [a1 _ _ h, a2 _ _ (by rw [← e1, ← e2]; exact h)]
    exact r
theorem fundD {K : Fg} {x qual : Str} {st : Stmt} {f T e : Addr} {oc qc : Value} {od an qo : Option Addr} {osl qs : Array (Option Value)} {n : Nat} {kV doc pm cdv ct : Value}
    (l : K.lookup f = some ⟨oc, od, .func (PySem.W.fnOf x qual (defArgs st) (defBody st) (defScope st) (.ref T) kV doc pm an cdv ct), osl⟩) (c : PySem.W.codeIn K cdv qual = true) (k : PySem.W.keepIn K (.ref f) = true) (q : K.lookup T = some ⟨qc, qo, .seq #[.ref e] n, qs⟩) :
    FunD K x qual (defArgs st) (defBody st) (defScope st) [V.ref e] [] f (PySem.W.fnOf x qual (defArgs st) (defBody st) (defScope st) (.ref T) kV doc pm an cdv ct) :=
  ⟨⟨oc, od, .ref T, kV, doc, pm, an, cdv, ct, osl, rfl, l, c, .inr ⟨by simp, T, _, [.ref e], n, rfl, q, rfl, .cons rfl .nil⟩, .inl rfl⟩, k⟩
set_option autoImplicit true in
theorem all_mk {P : Program} {w : World} {K : Fg} {mg : Str → Option Value} {h : Heap} (X : K.In h) (G : h.Ns mainGlobals mg) (hfa : mg "law" = some (.ref fa))
    (a_AgeError : PySem.W.nsIn K mainGlobals "AgeError" = some (some (.ref A_AgeError)))
    (a_BadMachine : PySem.W.nsIn K mainGlobals "BadMachine" = some (some (.ref A_BadMachine)))
    (a_BadLog : PySem.W.nsIn K mainGlobals "BadLog" = some (some (.ref A_BadLog)))
    (a_BadCopy : PySem.W.nsIn K mainGlobals "BadCopy" = some (some (.ref A_BadCopy)))
    (a_Refused : PySem.W.nsIn K mainGlobals "Refused" = some (some (.ref A_Refused)))
    (a_NoState : PySem.W.nsIn K mainGlobals "NoState" = some (some (.ref A_NoState)))
    (a_NoDeed : PySem.W.nsIn K mainGlobals "NoDeed" = some (some (.ref A_NoDeed)))
    (a_Machine : PySem.W.nsIn K mainGlobals "Machine" = some (some (.ref A_Machine)))
    (a_LogNote : PySem.W.nsIn K mainGlobals "LogNote" = some (some (.ref A_LogNote)))
    (a_MOST_TABLES : PySem.W.nsIn K mainGlobals "MOST_TABLES" = some (some (.int 8 t_MOST_TABLES)))
    (a_MOST_STATES : PySem.W.nsIn K mainGlobals "MOST_STATES" = some (some (.int 12 t_MOST_STATES)))
    (a_MOST_DEEDS : PySem.W.nsIn K mainGlobals "MOST_DEEDS" = some (some (.int 10000 t_MOST_DEEDS)))
    (a_fi_BadMachine : PySem.W.findIn K (.ref A_BadMachine) "__init__" = some (some (.ref f_fi_BadMachine)))
    (l_fi_BadMachine : K.lookup f_fi_BadMachine = some ⟨oc_fi_BadMachine, od_fi_BadMachine, .func (PySem.W.fnOf "__init__" "BadMachine.__init__" (defArgs (inClass (top 2) 0)) (defBody (inClass (top 2) 0)) (defScope (inClass (top 2) 0)) .none kV_fi_BadMachine dc_fi_BadMachine pm_fi_BadMachine an_fi_BadMachine cd_fi_BadMachine ct_fi_BadMachine), sl_fi_BadMachine⟩)
    (c_fi_BadMachine : PySem.W.codeIn K cd_fi_BadMachine "BadMachine.__init__" = true)
    (k_fi_BadMachine : PySem.W.keepIn K (.ref f_fi_BadMachine) = true)
    (ti_BadMachine : PySem.W.typeIn K (.ref f_fi_BadMachine) = some (.type "function"))
    (cls_BadMachine : K.lookup A_BadMachine = some (excClassObj nm_BadMachine q_BadMachine A_BadMachine N_BadMachine bs_BadMachine bm_BadMachine true sn_BadMachine sub_BadMachine ab_BadMachine col_BadMachine dd_BadMachine k0_BadMachine k1_BadMachine k2_BadMachine k3_BadMachine k5_BadMachine "ValueError.__new__"))
    (rv_BadMachine : PySem.HandSPX.refsVE bm_BadMachine = true)
    (sa_BadMachine : PySem.W.findIn K (.ref A_BadMachine) "__setattr__" = some (some (.builtin "object.__setattr__")))
    (ex_BadMachine : PySem.W.subIn K (.ref A_BadMachine) (.type "BaseException") = some true)
    (ty_BadMachine : PySem.W.typeIn K (.ref A_BadMachine) = some (.type "type"))
    (kc_BadMachine : PySem.W.keepIn K (.ref A_BadMachine) = true)
    (no_BadMachine : PySem.W.findIn K (.ref A_BadMachine) "at" = some none)
    (ga_BadMachine : PySem.W.findIn K (.ref A_BadMachine) "__getattribute__" = some (some (.builtin "BaseException.__getattribute__")))
    (gg_BadMachine : PySem.W.findIn K (.ref A_BadMachine) "__getattr__" = some none)
    (hd_BadMachine : PySem.W.hasDictIn K A_BadMachine = true)
    (ha_BadMachine : PySem.W.findIn K (.ref A_BadMachine) "__class__" = some (some (.builtin "object.__class__")))
    (hm_BadMachine : PySem.W.mroIn K A_BadMachine (.type "object") = some true)
    (a_fi_BadLog : PySem.W.findIn K (.ref A_BadLog) "__init__" = some (some (.ref f_fi_BadLog)))
    (l_fi_BadLog : K.lookup f_fi_BadLog = some ⟨oc_fi_BadLog, od_fi_BadLog, .func (PySem.W.fnOf "__init__" "BadLog.__init__" (defArgs (inClass (top 3) 0)) (defBody (inClass (top 3) 0)) (defScope (inClass (top 3) 0)) .none kV_fi_BadLog dc_fi_BadLog pm_fi_BadLog an_fi_BadLog cd_fi_BadLog ct_fi_BadLog), sl_fi_BadLog⟩)
    (c_fi_BadLog : PySem.W.codeIn K cd_fi_BadLog "BadLog.__init__" = true)
    (k_fi_BadLog : PySem.W.keepIn K (.ref f_fi_BadLog) = true)
    (ti_BadLog : PySem.W.typeIn K (.ref f_fi_BadLog) = some (.type "function"))
    (cls_BadLog : K.lookup A_BadLog = some (excClassObj nm_BadLog q_BadLog A_BadLog N_BadLog bs_BadLog bm_BadLog true sn_BadLog sub_BadLog ab_BadLog col_BadLog dd_BadLog k0_BadLog k1_BadLog k2_BadLog k3_BadLog k5_BadLog "ValueError.__new__"))
    (rv_BadLog : PySem.HandSPX.refsVE bm_BadLog = true)
    (sa_BadLog : PySem.W.findIn K (.ref A_BadLog) "__setattr__" = some (some (.builtin "object.__setattr__")))
    (ex_BadLog : PySem.W.subIn K (.ref A_BadLog) (.type "BaseException") = some true)
    (ty_BadLog : PySem.W.typeIn K (.ref A_BadLog) = some (.type "type"))
    (kc_BadLog : PySem.W.keepIn K (.ref A_BadLog) = true)
    (no_BadLog : PySem.W.findIn K (.ref A_BadLog) "at" = some none)
    (ga_BadLog : PySem.W.findIn K (.ref A_BadLog) "__getattribute__" = some (some (.builtin "BaseException.__getattribute__")))
    (gg_BadLog : PySem.W.findIn K (.ref A_BadLog) "__getattr__" = some none)
    (hd_BadLog : PySem.W.hasDictIn K A_BadLog = true)
    (ha_BadLog : PySem.W.findIn K (.ref A_BadLog) "__class__" = some (some (.builtin "object.__class__")))
    (hm_BadLog : PySem.W.mroIn K A_BadLog (.type "object") = some true)
    (a_fi_BadCopy : PySem.W.findIn K (.ref A_BadCopy) "__init__" = some (some (.ref f_fi_BadCopy)))
    (l_fi_BadCopy : K.lookup f_fi_BadCopy = some ⟨oc_fi_BadCopy, od_fi_BadCopy, .func (PySem.W.fnOf "__init__" "BadCopy.__init__" (defArgs (inClass (top 4) 0)) (defBody (inClass (top 4) 0)) (defScope (inClass (top 4) 0)) .none kV_fi_BadCopy dc_fi_BadCopy pm_fi_BadCopy an_fi_BadCopy cd_fi_BadCopy ct_fi_BadCopy), sl_fi_BadCopy⟩)
    (c_fi_BadCopy : PySem.W.codeIn K cd_fi_BadCopy "BadCopy.__init__" = true)
    (k_fi_BadCopy : PySem.W.keepIn K (.ref f_fi_BadCopy) = true)
    (ti_BadCopy : PySem.W.typeIn K (.ref f_fi_BadCopy) = some (.type "function"))
    (cls_BadCopy : K.lookup A_BadCopy = some (excClassObj nm_BadCopy q_BadCopy A_BadCopy N_BadCopy bs_BadCopy bm_BadCopy true sn_BadCopy sub_BadCopy ab_BadCopy col_BadCopy dd_BadCopy k0_BadCopy k1_BadCopy k2_BadCopy k3_BadCopy k5_BadCopy "ValueError.__new__"))
    (rv_BadCopy : PySem.HandSPX.refsVE bm_BadCopy = true)
    (sa_BadCopy : PySem.W.findIn K (.ref A_BadCopy) "__setattr__" = some (some (.builtin "object.__setattr__")))
    (ex_BadCopy : PySem.W.subIn K (.ref A_BadCopy) (.type "BaseException") = some true)
    (ty_BadCopy : PySem.W.typeIn K (.ref A_BadCopy) = some (.type "type"))
    (kc_BadCopy : PySem.W.keepIn K (.ref A_BadCopy) = true)
    (no_BadCopy : PySem.W.findIn K (.ref A_BadCopy) "at" = some none)
    (ga_BadCopy : PySem.W.findIn K (.ref A_BadCopy) "__getattribute__" = some (some (.builtin "BaseException.__getattribute__")))
    (gg_BadCopy : PySem.W.findIn K (.ref A_BadCopy) "__getattr__" = some none)
    (hd_BadCopy : PySem.W.hasDictIn K A_BadCopy = true)
    (ha_BadCopy : PySem.W.findIn K (.ref A_BadCopy) "__class__" = some (some (.builtin "object.__class__")))
    (hm_BadCopy : PySem.W.mroIn K A_BadCopy (.type "object") = some true)
    (a_fi_Refused : PySem.W.findIn K (.ref A_Refused) "__init__" = some (some (.ref f_fi_Refused)))
    (l_fi_Refused : K.lookup f_fi_Refused = some ⟨oc_fi_Refused, od_fi_Refused, .func (PySem.W.fnOf "__init__" "Refused.__init__" (defArgs (inClass (top 5) 0)) (defBody (inClass (top 5) 0)) (defScope (inClass (top 5) 0)) .none kV_fi_Refused dc_fi_Refused pm_fi_Refused an_fi_Refused cd_fi_Refused ct_fi_Refused), sl_fi_Refused⟩)
    (c_fi_Refused : PySem.W.codeIn K cd_fi_Refused "Refused.__init__" = true)
    (k_fi_Refused : PySem.W.keepIn K (.ref f_fi_Refused) = true)
    (ti_Refused : PySem.W.typeIn K (.ref f_fi_Refused) = some (.type "function"))
    (cls_Refused : K.lookup A_Refused = some (excClassObj nm_Refused q_Refused A_Refused N_Refused bs_Refused bm_Refused true sn_Refused sub_Refused ab_Refused col_Refused dd_Refused k0_Refused k1_Refused k2_Refused k3_Refused k5_Refused "ValueError.__new__"))
    (rv_Refused : PySem.HandSPX.refsVE bm_Refused = true)
    (sa_Refused : PySem.W.findIn K (.ref A_Refused) "__setattr__" = some (some (.builtin "object.__setattr__")))
    (ex_Refused : PySem.W.subIn K (.ref A_Refused) (.type "BaseException") = some true)
    (ty_Refused : PySem.W.typeIn K (.ref A_Refused) = some (.type "type"))
    (kc_Refused : PySem.W.keepIn K (.ref A_Refused) = true)
    (no_Refused : PySem.W.findIn K (.ref A_Refused) "at" = some none)
    (ga_Refused : PySem.W.findIn K (.ref A_Refused) "__getattribute__" = some (some (.builtin "BaseException.__getattribute__")))
    (gg_Refused : PySem.W.findIn K (.ref A_Refused) "__getattr__" = some none)
    (hd_Refused : PySem.W.hasDictIn K A_Refused = true)
    (ha_Refused : PySem.W.findIn K (.ref A_Refused) "__class__" = some (some (.builtin "object.__class__")))
    (hm_Refused : PySem.W.mroIn K A_Refused (.type "object") = some true)
    (a_fi_NoState : PySem.W.findIn K (.ref A_NoState) "__init__" = some (some (.ref f_fi_NoState)))
    (l_fi_NoState : K.lookup f_fi_NoState = some ⟨oc_fi_NoState, od_fi_NoState, .func (PySem.W.fnOf "__init__" "NoState.__init__" (defArgs (inClass (top 6) 0)) (defBody (inClass (top 6) 0)) (defScope (inClass (top 6) 0)) .none kV_fi_NoState dc_fi_NoState pm_fi_NoState an_fi_NoState cd_fi_NoState ct_fi_NoState), sl_fi_NoState⟩)
    (c_fi_NoState : PySem.W.codeIn K cd_fi_NoState "NoState.__init__" = true)
    (k_fi_NoState : PySem.W.keepIn K (.ref f_fi_NoState) = true)
    (ti_NoState : PySem.W.typeIn K (.ref f_fi_NoState) = some (.type "function"))
    (cls_NoState : K.lookup A_NoState = some (excClassObj nm_NoState q_NoState A_NoState N_NoState bs_NoState DLK.keTail true sn_NoState sub_NoState ab_NoState col_NoState dd_NoState k0_NoState k1_NoState k2_NoState k3_NoState k5_NoState "LookupError.__new__"))
    (sa_NoState : PySem.W.findIn K (.ref A_NoState) "__setattr__" = some (some (.builtin "object.__setattr__")))
    (ex_NoState : PySem.W.subIn K (.ref A_NoState) (.type "BaseException") = some true)
    (ty_NoState : PySem.W.typeIn K (.ref A_NoState) = some (.type "type"))
    (kc_NoState : PySem.W.keepIn K (.ref A_NoState) = true)
    (no_NoState : PySem.W.findIn K (.ref A_NoState) "state" = some none)
    (ga_NoState : PySem.W.findIn K (.ref A_NoState) "__getattribute__" = some (some (.builtin "BaseException.__getattribute__")))
    (gg_NoState : PySem.W.findIn K (.ref A_NoState) "__getattr__" = some none)
    (hd_NoState : PySem.W.hasDictIn K A_NoState = true)
    (ha_NoState : PySem.W.findIn K (.ref A_NoState) "__class__" = some (some (.builtin "object.__class__")))
    (hm_NoState : PySem.W.mroIn K A_NoState (.type "object") = some true)
    (a_fi_NoDeed : PySem.W.findIn K (.ref A_NoDeed) "__init__" = some (some (.ref f_fi_NoDeed)))
    (l_fi_NoDeed : K.lookup f_fi_NoDeed = some ⟨oc_fi_NoDeed, od_fi_NoDeed, .func (PySem.W.fnOf "__init__" "NoDeed.__init__" (defArgs (inClass (top 7) 0)) (defBody (inClass (top 7) 0)) (defScope (inClass (top 7) 0)) .none kV_fi_NoDeed dc_fi_NoDeed pm_fi_NoDeed an_fi_NoDeed cd_fi_NoDeed ct_fi_NoDeed), sl_fi_NoDeed⟩)
    (c_fi_NoDeed : PySem.W.codeIn K cd_fi_NoDeed "NoDeed.__init__" = true)
    (k_fi_NoDeed : PySem.W.keepIn K (.ref f_fi_NoDeed) = true)
    (ti_NoDeed : PySem.W.typeIn K (.ref f_fi_NoDeed) = some (.type "function"))
    (cls_NoDeed : K.lookup A_NoDeed = some (excClassObj nm_NoDeed q_NoDeed A_NoDeed N_NoDeed bs_NoDeed DLK.keTail true sn_NoDeed sub_NoDeed ab_NoDeed col_NoDeed dd_NoDeed k0_NoDeed k1_NoDeed k2_NoDeed k3_NoDeed k5_NoDeed "LookupError.__new__"))
    (sa_NoDeed : PySem.W.findIn K (.ref A_NoDeed) "__setattr__" = some (some (.builtin "object.__setattr__")))
    (ex_NoDeed : PySem.W.subIn K (.ref A_NoDeed) (.type "BaseException") = some true)
    (ty_NoDeed : PySem.W.typeIn K (.ref A_NoDeed) = some (.type "type"))
    (kc_NoDeed : PySem.W.keepIn K (.ref A_NoDeed) = true)
    (no_NoDeed : PySem.W.findIn K (.ref A_NoDeed) "deed" = some none)
    (ga_NoDeed : PySem.W.findIn K (.ref A_NoDeed) "__getattribute__" = some (some (.builtin "BaseException.__getattribute__")))
    (gg_NoDeed : PySem.W.findIn K (.ref A_NoDeed) "__getattr__" = some none)
    (hd_NoDeed : PySem.W.hasDictIn K A_NoDeed = true)
    (ha_NoDeed : PySem.W.findIn K (.ref A_NoDeed) "__class__" = some (some (.builtin "object.__class__")))
    (hm_NoDeed : PySem.W.mroIn K A_NoDeed (.type "object") = some true)
    (hn : PySem.W.specialIn K (.builtin "object.__class__") "__get__" = some (some (.builtin "getset_descriptor.__get__")))
    (ht : PySem.W.takesIn K (.builtin "object.__class__") = some true)
    (a_is_integer : PySem.W.nsIn K mainGlobals "is_integer" = some (some (.ref f_is_integer)))
    (l_is_integer : K.lookup f_is_integer = some ⟨oc_is_integer, od_is_integer, .func (PySem.W.fnOf "is_integer" "is_integer" (defArgs (top 9)) (defBody (top 9)) (defScope (top 9)) .none kV_is_integer dc_is_integer pm_is_integer an_is_integer cd_is_integer ct_is_integer), sl_is_integer⟩)
    (c_is_integer : PySem.W.codeIn K cd_is_integer "is_integer" = true)
    (k_is_integer : PySem.W.keepIn K (.ref f_is_integer) = true)
    (a_is_below : PySem.W.nsIn K mainGlobals "is_below" = some (some (.ref f_is_below)))
    (l_is_below : K.lookup f_is_below = some ⟨oc_is_below, od_is_below, .func (PySem.W.fnOf "is_below" "is_below" (defArgs (top 10)) (defBody (top 10)) (defScope (top 10)) .none kV_is_below dc_is_below pm_is_below an_is_below cd_is_below ct_is_below), sl_is_below⟩)
    (c_is_below : PySem.W.codeIn K cd_is_below "is_below" = true)
    (k_is_below : PySem.W.keepIn K (.ref f_is_below) = true)
    (a_is_sequence : PySem.W.nsIn K mainGlobals "is_sequence" = some (some (.ref f_is_sequence)))
    (l_is_sequence : K.lookup f_is_sequence = some ⟨oc_is_sequence, od_is_sequence, .func (PySem.W.fnOf "is_sequence" "is_sequence" (defArgs (top 11)) (defBody (top 11)) (defScope (top 11)) .none kV_is_sequence dc_is_sequence pm_is_sequence an_is_sequence cd_is_sequence ct_is_sequence), sl_is_sequence⟩)
    (c_is_sequence : PySem.W.codeIn K cd_is_sequence "is_sequence" = true)
    (k_is_sequence : PySem.W.keepIn K (.ref f_is_sequence) = true)
    (a_is_ascending : PySem.W.nsIn K mainGlobals "is_ascending" = some (some (.ref f_is_ascending)))
    (l_is_ascending : K.lookup f_is_ascending = some ⟨oc_is_ascending, od_is_ascending, .func (PySem.W.fnOf "is_ascending" "is_ascending" (defArgs (top 12)) (defBody (top 12)) (defScope (top 12)) .none kV_is_ascending dc_is_ascending pm_is_ascending an_is_ascending cd_is_ascending ct_is_ascending), sl_is_ascending⟩)
    (c_is_ascending : PySem.W.codeIn K cd_is_ascending "is_ascending" = true)
    (k_is_ascending : PySem.W.keepIn K (.ref f_is_ascending) = true)
    (a_fault_place : PySem.W.nsIn K mainGlobals "fault_place" = some (some (.ref f_fault_place)))
    (l_fault_place : K.lookup f_fault_place = some ⟨oc_fault_place, od_fault_place, .func (PySem.W.fnOf "fault_place" "fault_place" (defArgs (top 13)) (defBody (top 13)) (defScope (top 13)) .none kV_fault_place dc_fault_place pm_fault_place an_fault_place cd_fault_place ct_fault_place), sl_fault_place⟩)
    (c_fault_place : PySem.W.codeIn K cd_fault_place "fault_place" = true)
    (k_fault_place : PySem.W.keepIn K (.ref f_fault_place) = true)
    (a_is_table : PySem.W.nsIn K mainGlobals "is_table" = some (some (.ref f_is_table)))
    (l_is_table : K.lookup f_is_table = some ⟨oc_is_table, od_is_table, .func (PySem.W.fnOf "is_table" "is_table" (defArgs (top 18)) (defBody (top 18)) (defScope (top 18)) .none kV_is_table dc_is_table pm_is_table an_is_table cd_is_table ct_is_table), sl_is_table⟩)
    (c_is_table : PySem.W.codeIn K cd_is_table "is_table" = true)
    (k_is_table : PySem.W.keepIn K (.ref f_is_table) = true)
    (a_check_tables : PySem.W.nsIn K mainGlobals "check_tables" = some (some (.ref f_check_tables)))
    (l_check_tables : K.lookup f_check_tables = some ⟨oc_check_tables, od_check_tables, .func (PySem.W.fnOf "check_tables" "check_tables" (defArgs (top 19)) (defBody (top 19)) (defScope (top 19)) .none kV_check_tables dc_check_tables pm_check_tables an_check_tables cd_check_tables ct_check_tables), sl_check_tables⟩)
    (c_check_tables : PySem.W.codeIn K cd_check_tables "check_tables" = true)
    (k_check_tables : PySem.W.keepIn K (.ref f_check_tables) = true)
    (a_Machine_init : PySem.W.findIn K (.ref A_Machine) "__init__" = some (some (.ref f_Machine_init)))
    (i_Machine_init : PySem.W.isFn K (.ref f_Machine_init) = true)
    (l_Machine_init : K.lookup f_Machine_init = some ⟨oc_Machine_init, od_Machine_init, .func (PySem.W.fnOf "__init__" "Machine.__init__" (defArgs (inClass (top 20) 0)) (defBody (inClass (top 20) 0)) (defScope (inClass (top 20) 0)) .none kV_Machine_init dc_Machine_init pm_Machine_init an_Machine_init cd_Machine_init ct_Machine_init), sl_Machine_init⟩)
    (c_Machine_init : PySem.W.codeIn K cd_Machine_init "Machine.__init__" = true)
    (k_Machine_init : PySem.W.keepIn K (.ref f_Machine_init) = true)
    (a_check_state : PySem.W.nsIn K mainGlobals "check_state" = some (some (.ref f_check_state)))
    (l_check_state : K.lookup f_check_state = some ⟨oc_check_state, od_check_state, .func (PySem.W.fnOf "check_state" "check_state" (defArgs (top 21)) (defBody (top 21)) (defScope (top 21)) .none kV_check_state dc_check_state pm_check_state an_check_state cd_check_state ct_check_state), sl_check_state⟩)
    (c_check_state : PySem.W.codeIn K cd_check_state "check_state" = true)
    (k_check_state : PySem.W.keepIn K (.ref f_check_state) = true)
    (a_check_deed : PySem.W.nsIn K mainGlobals "check_deed" = some (some (.ref f_check_deed)))
    (l_check_deed : K.lookup f_check_deed = some ⟨oc_check_deed, od_check_deed, .func (PySem.W.fnOf "check_deed" "check_deed" (defArgs (top 22)) (defBody (top 22)) (defScope (top 22)) .none kV_check_deed dc_check_deed pm_check_deed an_check_deed cd_check_deed ct_check_deed), sl_check_deed⟩)
    (c_check_deed : PySem.W.codeIn K cd_check_deed "check_deed" = true)
    (k_check_deed : PySem.W.keepIn K (.ref f_check_deed) = true)
    (a_log_fault : PySem.W.nsIn K mainGlobals "log_fault" = some (some (.ref f_log_fault)))
    (l_log_fault : K.lookup f_log_fault = some ⟨oc_log_fault, od_log_fault, .func (PySem.W.fnOf "log_fault" "log_fault" (defArgs (top 23)) (defBody (top 23)) (defScope (top 23)) .none kV_log_fault dc_log_fault pm_log_fault an_log_fault cd_log_fault ct_log_fault), sl_log_fault⟩)
    (c_log_fault : PySem.W.codeIn K cd_log_fault "log_fault" = true)
    (k_log_fault : PySem.W.keepIn K (.ref f_log_fault) = true)
    (a_check_log : PySem.W.nsIn K mainGlobals "check_log" = some (some (.ref f_check_log)))
    (l_check_log : K.lookup f_check_log = some ⟨oc_check_log, od_check_log, .func (PySem.W.fnOf "check_log" "check_log" (defArgs (top 24)) (defBody (top 24)) (defScope (top 24)) .none kV_check_log dc_check_log pm_check_log an_check_log cd_check_log ct_check_log), sl_check_log⟩)
    (c_check_log : PySem.W.codeIn K cd_check_log "check_log" = true)
    (k_check_log : PySem.W.keepIn K (.ref f_check_log) = true)
    (a_check_starts : PySem.W.nsIn K mainGlobals "check_starts" = some (some (.ref f_check_starts)))
    (l_check_starts : K.lookup f_check_starts = some ⟨oc_check_starts, od_check_starts, .func (PySem.W.fnOf "check_starts" "check_starts" (defArgs (top 25)) (defBody (top 25)) (defScope (top 25)) .none kV_check_starts dc_check_starts pm_check_starts an_check_starts cd_check_starts ct_check_starts), sl_check_starts⟩)
    (c_check_starts : PySem.W.codeIn K cd_check_starts "check_starts" = true)
    (k_check_starts : PySem.W.keepIn K (.ref f_check_starts) = true)
    (a_state_after : PySem.W.nsIn K mainGlobals "state_after" = some (some (.ref f_state_after)))
    (l_state_after : K.lookup f_state_after = some ⟨oc_state_after, od_state_after, .func (PySem.W.fnOf "state_after" "state_after" (defArgs (top 26)) (defBody (top 26)) (defScope (top 26)) .none kV_state_after dc_state_after pm_state_after an_state_after cd_state_after ct_state_after), sl_state_after⟩)
    (c_state_after : PySem.W.codeIn K cd_state_after "state_after" = true)
    (k_state_after : PySem.W.keepIn K (.ref f_state_after) = true)
    (a_image : PySem.W.nsIn K mainGlobals "image" = some (some (.ref f_image)))
    (l_image : K.lookup f_image = some ⟨oc_image, od_image, .func (PySem.W.fnOf "image" "image" (defArgs (top 27)) (defBody (top 27)) (defScope (top 27)) .none kV_image dc_image pm_image an_image cd_image ct_image), sl_image⟩)
    (c_image : PySem.W.codeIn K cd_image "image" = true)
    (k_image : PySem.W.keepIn K (.ref f_image) = true)
    (a_kept_row : PySem.W.nsIn K mainGlobals "kept_row" = some (some (.ref f_kept_row)))
    (l_kept_row : K.lookup f_kept_row = some ⟨oc_kept_row, od_kept_row, .func (PySem.W.fnOf "kept_row" "kept_row" (defArgs (top 29)) (defBody (top 29)) (defScope (top 29)) .none kV_kept_row dc_kept_row pm_kept_row an_kept_row cd_kept_row ct_kept_row), sl_kept_row⟩)
    (c_kept_row : PySem.W.codeIn K cd_kept_row "kept_row" = true)
    (k_kept_row : PySem.W.keepIn K (.ref f_kept_row) = true)
    (a_kept_rows : PySem.W.nsIn K mainGlobals "kept_rows" = some (some (.ref f_kept_rows)))
    (l_kept_rows : K.lookup f_kept_rows = some ⟨oc_kept_rows, od_kept_rows, .func (PySem.W.fnOf "kept_rows" "kept_rows" (defArgs (top 30)) (defBody (top 30)) (defScope (top 30)) .none kV_kept_rows dc_kept_rows pm_kept_rows an_kept_rows cd_kept_rows ct_kept_rows), sl_kept_rows⟩)
    (c_kept_rows : PySem.W.codeIn K cd_kept_rows "kept_rows" = true)
    (k_kept_rows : PySem.W.keepIn K (.ref f_kept_rows) = true)
    (a_first_rows : PySem.W.nsIn K mainGlobals "first_rows" = some (some (.ref f_first_rows)))
    (l_first_rows : K.lookup f_first_rows = some ⟨oc_first_rows, od_first_rows, .func (PySem.W.fnOf "first_rows" "first_rows" (defArgs (top 31)) (defBody (top 31)) (defScope (top 31)) .none kV_first_rows dc_first_rows pm_first_rows an_first_rows cd_first_rows ct_first_rows), sl_first_rows⟩)
    (c_first_rows : PySem.W.codeIn K cd_first_rows "first_rows" = true)
    (k_first_rows : PySem.W.keepIn K (.ref f_first_rows) = true)
    (a_led_rows : PySem.W.nsIn K mainGlobals "led_rows" = some (some (.ref f_led_rows)))
    (l_led_rows : K.lookup f_led_rows = some ⟨oc_led_rows, od_led_rows, .func (PySem.W.fnOf "led_rows" "led_rows" (defArgs (top 32)) (defBody (top 32)) (defScope (top 32)) .none kV_led_rows dc_led_rows pm_led_rows an_led_rows cd_led_rows ct_led_rows), sl_led_rows⟩)
    (c_led_rows : PySem.W.codeIn K cd_led_rows "led_rows" = true)
    (k_led_rows : PySem.W.keepIn K (.ref f_led_rows) = true)
    (a_led_note : PySem.W.nsIn K mainGlobals "led_note" = some (some (.ref f_led_note)))
    (l_led_note : K.lookup f_led_note = some ⟨oc_led_note, od_led_note, .func (PySem.W.fnOf "led_note" "led_note" (defArgs (top 33)) (defBody (top 33)) (defScope (top 33)) .none kV_led_note dc_led_note pm_led_note an_led_note cd_led_note ct_led_note), sl_led_note⟩)
    (c_led_note : PySem.W.codeIn K cd_led_note "led_note" = true)
    (k_led_note : PySem.W.keepIn K (.ref f_led_note) = true)
    (a_LogNote_init : PySem.W.findIn K (.ref A_LogNote) "__init__" = some (some (.ref f_LogNote_init)))
    (i_LogNote_init : PySem.W.isFn K (.ref f_LogNote_init) = true)
    (l_LogNote_init : K.lookup f_LogNote_init = some ⟨oc_LogNote_init, od_LogNote_init, .func (PySem.W.fnOf "__init__" "LogNote.__init__" (defArgs (inClass (top 34) 0)) (defBody (inClass (top 34) 0)) (defScope (inClass (top 34) 0)) .none (.ref kD_LogNote_init) dc_LogNote_init pm_LogNote_init an_LogNote_init cd_LogNote_init ct_LogNote_init), sl_LogNote_init⟩)
    (c_LogNote_init : PySem.W.codeIn K cd_LogNote_init "LogNote.__init__" = true)
    (k_LogNote_init : PySem.W.keepIn K (.ref f_LogNote_init) = true)
    (kn0_LogNote_init : PySem.W.nsIn K kD_LogNote_init "starts" = some (some .none))
    (a_LogNote_put : PySem.W.findIn K (.ref A_LogNote) "put" = some (some (.ref f_LogNote_put)))
    (i_LogNote_put : PySem.W.isFn K (.ref f_LogNote_put) = true)
    (l_LogNote_put : K.lookup f_LogNote_put = some ⟨oc_LogNote_put, od_LogNote_put, .func (PySem.W.fnOf "put" "LogNote.put" (defArgs (inClass (top 34) 2)) (defBody (inClass (top 34) 2)) (defScope (inClass (top 34) 2)) .none kV_LogNote_put dc_LogNote_put pm_LogNote_put an_LogNote_put cd_LogNote_put ct_LogNote_put), sl_LogNote_put⟩)
    (c_LogNote_put : PySem.W.codeIn K cd_LogNote_put "LogNote.put" = true)
    (k_LogNote_put : PySem.W.keepIn K (.ref f_LogNote_put) = true)
    (a_LogNote_mark : PySem.W.findIn K (.ref A_LogNote) "mark" = some (some (.ref f_LogNote_mark)))
    (i_LogNote_mark : PySem.W.isFn K (.ref f_LogNote_mark) = true)
    (l_LogNote_mark : K.lookup f_LogNote_mark = some ⟨oc_LogNote_mark, od_LogNote_mark, .func (PySem.W.fnOf "mark" "LogNote.mark" (defArgs (inClass (top 34) 3)) (defBody (inClass (top 34) 3)) (defScope (inClass (top 34) 3)) .none kV_LogNote_mark dc_LogNote_mark pm_LogNote_mark an_LogNote_mark cd_LogNote_mark ct_LogNote_mark), sl_LogNote_mark⟩)
    (c_LogNote_mark : PySem.W.codeIn K cd_LogNote_mark "LogNote.mark" = true)
    (k_LogNote_mark : PySem.W.keepIn K (.ref f_LogNote_mark) = true)
    (a_LogNote_read : PySem.W.findIn K (.ref A_LogNote) "read" = some (some (.ref f_LogNote_read)))
    (i_LogNote_read : PySem.W.isFn K (.ref f_LogNote_read) = true)
    (l_LogNote_read : K.lookup f_LogNote_read = some ⟨oc_LogNote_read, od_LogNote_read, .func (PySem.W.fnOf "read" "LogNote.read" (defArgs (inClass (top 34) 4)) (defBody (inClass (top 34) 4)) (defScope (inClass (top 34) 4)) (.ref dT_LogNote_read) kV_LogNote_read dc_LogNote_read pm_LogNote_read an_LogNote_read cd_LogNote_read ct_LogNote_read), sl_LogNote_read⟩)
    (c_LogNote_read : PySem.W.codeIn K cd_LogNote_read "LogNote.read" = true)
    (k_LogNote_read : PySem.W.keepIn K (.ref f_LogNote_read) = true)
    (q_LogNote_read : K.lookup dT_LogNote_read = some ⟨qc_LogNote_read, qo_LogNote_read, .seq #[.ref eT_LogNote_read] qn_LogNote_read, qs_LogNote_read⟩)
    (e_LogNote_read : K.lookup eT_LogNote_read = some ⟨.type "tuple", eo_LogNote_read, .seq #[] en_LogNote_read, es_LogNote_read⟩)
    (a_law_box : PySem.W.nsIn K mainGlobals "_law_box" = some (some (.ref f_law_box)))
    (l_law_box : K.lookup f_law_box = some ⟨oc_law_box, od_law_box, .func (PySem.W.fnOf "_law_box" "_law_box" (defArgs (top 36)) (defBody (top 36)) (defScope (top 36)) .none kV_law_box dc_law_box pm_law_box an_law_box cd_law_box ct_law_box), sl_law_box⟩)
    (c_law_box : PySem.W.codeIn K cd_law_box "_law_box" = true)
    (k_law_box : PySem.W.keepIn K (.ref f_law_box) = true)
    (a_law_take : PySem.W.nsIn K mainGlobals "_law_take" = some (some (.ref f_law_take)))
    (l_law_take : K.lookup f_law_take = some ⟨oc_law_take, od_law_take, .func (PySem.W.fnOf "_law_take" "_law_take" (defArgs (top 37)) (defBody (top 37)) (defScope (top 37)) .none kV_law_take dc_law_take pm_law_take an_law_take cd_law_take ct_law_take), sl_law_take⟩)
    (c_law_take : PySem.W.codeIn K cd_law_take "_law_take" = true)
    (k_law_take : PySem.W.keepIn K (.ref f_law_take) = true)
    (a_law_pick : PySem.W.nsIn K mainGlobals "_law_pick" = some (some (.ref f_law_pick)))
    (l_law_pick : K.lookup f_law_pick = some ⟨oc_law_pick, od_law_pick, .func (PySem.W.fnOf "_law_pick" "_law_pick" (defArgs (top 38)) (defBody (top 38)) (defScope (top 38)) .none kV_law_pick dc_law_pick pm_law_pick an_law_pick cd_law_pick ct_law_pick), sl_law_pick⟩)
    (c_law_pick : PySem.W.codeIn K cd_law_pick "_law_pick" = true)
    (k_law_pick : PySem.W.keepIn K (.ref f_law_pick) = true)
    (a_law_tables : PySem.W.nsIn K mainGlobals "_law_tables" = some (some (.ref f_law_tables)))
    (l_law_tables : K.lookup f_law_tables = some ⟨oc_law_tables, od_law_tables, .func (PySem.W.fnOf "_law_tables" "_law_tables" (defArgs (top 39)) (defBody (top 39)) (defScope (top 39)) .none kV_law_tables dc_law_tables pm_law_tables an_law_tables cd_law_tables ct_law_tables), sl_law_tables⟩)
    (c_law_tables : PySem.W.codeIn K cd_law_tables "_law_tables" = true)
    (k_law_tables : PySem.W.keepIn K (.ref f_law_tables) = true)
    (a_law_led : PySem.W.nsIn K mainGlobals "_law_led" = some (some (.ref f_law_led)))
    (l_law_led : K.lookup f_law_led = some ⟨oc_law_led, od_law_led, .func (PySem.W.fnOf "_law_led" "_law_led" (defArgs (top 40)) (defBody (top 40)) (defScope (top 40)) .none kV_law_led dc_law_led pm_law_led an_law_led cd_law_led ct_law_led), sl_law_led⟩)
    (c_law_led : PySem.W.codeIn K cd_law_led "_law_led" = true)
    (k_law_led : PySem.W.keepIn K (.ref f_law_led) = true)
    (a_law_starts : PySem.W.nsIn K mainGlobals "_law_starts" = some (some (.ref f_law_starts)))
    (l_law_starts : K.lookup f_law_starts = some ⟨oc_law_starts, od_law_starts, .func (PySem.W.fnOf "_law_starts" "_law_starts" (defArgs (top 41)) (defBody (top 41)) (defScope (top 41)) .none kV_law_starts dc_law_starts pm_law_starts an_law_starts cd_law_starts ct_law_starts), sl_law_starts⟩)
    (c_law_starts : PySem.W.codeIn K cd_law_starts "_law_starts" = true)
    (k_law_starts : PySem.W.keepIn K (.ref f_law_starts) = true)
    (a_law_copies_right : PySem.W.nsIn K mainGlobals "_law_copies_right" = some (some (.ref f_law_copies_right)))
    (l_law_copies_right : K.lookup f_law_copies_right = some ⟨oc_law_copies_right, od_law_copies_right, .func (PySem.W.fnOf "_law_copies_right" "_law_copies_right" (defArgs (top 42)) (defBody (top 42)) (defScope (top 42)) .none kV_law_copies_right dc_law_copies_right pm_law_copies_right an_law_copies_right cd_law_copies_right ct_law_copies_right), sl_law_copies_right⟩)
    (c_law_copies_right : PySem.W.codeIn K cd_law_copies_right "_law_copies_right" = true)
    (k_law_copies_right : PySem.W.keepIn K (.ref f_law_copies_right) = true)
    (a_law : PySem.W.nsIn K mainGlobals "law" = some (some (.ref f_law)))
    (l_law : K.lookup f_law = some ⟨oc_law, od_law, .func (PySem.W.fnOf "law" "law" (defArgs (top 43)) (defBody (top 43)) (defScope (top 43)) .none kV_law dc_law pm_law an_law cd_law ct_law), sl_law⟩)
    (c_law : PySem.W.codeIn K cd_law "law" = true)
    (k_law : PySem.W.keepIn K (.ref f_law) = true)
    (pg_Machine : PySem.W.plainGet K A_Machine Str.empty = true)
    (hdi_Machine : PySem.W.hasDictIn K A_Machine = true)
    (po_Machine : PySem.W.plainOver K A_Machine = true)
    (sai_Machine : PySem.W.findIn K (.ref A_Machine) "__setattr__" = some (some (.builtin "object.__setattr__")))
    (mk_Machine : PySem.W.makesIn K A_Machine = true)
    (kci_Machine : PySem.W.keepIn K (.ref A_Machine) = true)
    (hai_Machine : PySem.W.findIn K (.ref A_Machine) "__class__" = some (some (.builtin "object.__class__")))
    (hmi_Machine : PySem.W.mroIn K A_Machine (.type "object") = some true)
    (n_Machine_tables : PySem.W.findIn K (.ref A_Machine) "tables" = some none)
    (n_Machine_deeds : PySem.W.findIn K (.ref A_Machine) "deeds" = some none)
    (n_Machine_states : PySem.W.findIn K (.ref A_Machine) "states" = some none)
    (pg_LogNote : PySem.W.plainGet K A_LogNote Str.empty = true)
    (hdi_LogNote : PySem.W.hasDictIn K A_LogNote = true)
    (po_LogNote : PySem.W.plainOver K A_LogNote = true)
    (sai_LogNote : PySem.W.findIn K (.ref A_LogNote) "__setattr__" = some (some (.builtin "object.__setattr__")))
    (mk_LogNote : PySem.W.makesIn K A_LogNote = true)
    (kci_LogNote : PySem.W.keepIn K (.ref A_LogNote) = true)
    (hai_LogNote : PySem.W.findIn K (.ref A_LogNote) "__class__" = some (some (.builtin "object.__class__")))
    (hmi_LogNote : PySem.W.mroIn K A_LogNote (.type "object") = some true)
    (n_LogNote_possible : PySem.W.findIn K (.ref A_LogNote) "possible" = some none)
    (n_LogNote_machine : PySem.W.findIn K (.ref A_LogNote) "machine" = some none)
    (n_LogNote_age : PySem.W.findIn K (.ref A_LogNote) "age" = some none)
    (n_LogNote_rows : PySem.W.findIn K (.ref A_LogNote) "rows" = some none)
    (n_LogNote_tables : PySem.W.findIn K (.ref A_LogNote) "tables" = some none)
    (z_abs : PySem.W.nsIn K mainGlobals "abs" = some none)
    (z_bool : PySem.W.nsIn K mainGlobals "bool" = some none)
    (z_enumerate : PySem.W.nsIn K mainGlobals "enumerate" = some none)
    (z_int : PySem.W.nsIn K mainGlobals "int" = some none)
    (z_isinstance : PySem.W.nsIn K mainGlobals "isinstance" = some none)
    (z_len : PySem.W.nsIn K mainGlobals "len" = some none)
    (z_list : PySem.W.nsIn K mainGlobals "list" = some none)
    (z_max : PySem.W.nsIn K mainGlobals "max" = some none)
    (z_min : PySem.W.nsIn K mainGlobals "min" = some none)
    (z_range : PySem.W.nsIn K mainGlobals "range" = some none)
    (z_set : PySem.W.nsIn K mainGlobals "set" = some none)
    (z_sorted : PySem.W.nsIn K mainGlobals "sorted" = some none)
    (z_tuple : PySem.W.nsIn K mainGlobals "tuple" = some none) :
    ∃ fd : FuncData, (∀ (s : Shared) (u : Value), BindsTo s fd ⟨[u], []⟩ [("script", u)]) ∧ ∀ base : Heap, K.In base → base.Ns mainGlobals mg → (∀ p ∈ ([] : List (Addr × Addr)), LamX.TabB base mg p.1 p.2) → FnG P w K mg base 11 fa fd ["script"] (lSp K [] 1 (spLaw fun ns => ns.length ≤ 63)) := by
  have e := hfa.symm.trans (PySem.W.mg_of X G a_law)
  cases e
  let C : Cs := { AgeError := A_AgeError, BadMachine := A_BadMachine, BadLog := A_BadLog, BadCopy := A_BadCopy, Refused := A_Refused, NoState := A_NoState, NoDeed := A_NoDeed, Machine := A_Machine, LogNote := A_LogNote, fi_BadMachine := f_fi_BadMachine, fd_BadMachine := (PySem.W.fnOf "__init__" "BadMachine.__init__" (defArgs (inClass (top 2) 0)) (defBody (inClass (top 2) 0)) (defScope (inClass (top 2) 0)) .none kV_fi_BadMachine dc_fi_BadMachine pm_fi_BadMachine an_fi_BadMachine cd_fi_BadMachine ct_fi_BadMachine), fi_BadLog := f_fi_BadLog, fd_BadLog := (PySem.W.fnOf "__init__" "BadLog.__init__" (defArgs (inClass (top 3) 0)) (defBody (inClass (top 3) 0)) (defScope (inClass (top 3) 0)) .none kV_fi_BadLog dc_fi_BadLog pm_fi_BadLog an_fi_BadLog cd_fi_BadLog ct_fi_BadLog), fi_BadCopy := f_fi_BadCopy, fd_BadCopy := (PySem.W.fnOf "__init__" "BadCopy.__init__" (defArgs (inClass (top 4) 0)) (defBody (inClass (top 4) 0)) (defScope (inClass (top 4) 0)) .none kV_fi_BadCopy dc_fi_BadCopy pm_fi_BadCopy an_fi_BadCopy cd_fi_BadCopy ct_fi_BadCopy), fi_Refused := f_fi_Refused, fd_Refused := (PySem.W.fnOf "__init__" "Refused.__init__" (defArgs (inClass (top 5) 0)) (defBody (inClass (top 5) 0)) (defScope (inClass (top 5) 0)) .none kV_fi_Refused dc_fi_Refused pm_fi_Refused an_fi_Refused cd_fi_Refused ct_fi_Refused), fi_NoState := f_fi_NoState, fd_NoState := (PySem.W.fnOf "__init__" "NoState.__init__" (defArgs (inClass (top 6) 0)) (defBody (inClass (top 6) 0)) (defScope (inClass (top 6) 0)) .none kV_fi_NoState dc_fi_NoState pm_fi_NoState an_fi_NoState cd_fi_NoState ct_fi_NoState), fi_NoDeed := f_fi_NoDeed, fd_NoDeed := (PySem.W.fnOf "__init__" "NoDeed.__init__" (defArgs (inClass (top 7) 0)) (defBody (inClass (top 7) 0)) (defScope (inClass (top 7) 0)) .none kV_fi_NoDeed dc_fi_NoDeed pm_fi_NoDeed an_fi_NoDeed cd_fi_NoDeed ct_fi_NoDeed), f_is_integer := f_is_integer, d_is_integer := (PySem.W.fnOf "is_integer" "is_integer" (defArgs (top 9)) (defBody (top 9)) (defScope (top 9)) .none kV_is_integer dc_is_integer pm_is_integer an_is_integer cd_is_integer ct_is_integer), f_is_below := f_is_below, d_is_below := (PySem.W.fnOf "is_below" "is_below" (defArgs (top 10)) (defBody (top 10)) (defScope (top 10)) .none kV_is_below dc_is_below pm_is_below an_is_below cd_is_below ct_is_below), f_is_sequence := f_is_sequence, d_is_sequence := (PySem.W.fnOf "is_sequence" "is_sequence" (defArgs (top 11)) (defBody (top 11)) (defScope (top 11)) .none kV_is_sequence dc_is_sequence pm_is_sequence an_is_sequence cd_is_sequence ct_is_sequence), f_is_ascending := f_is_ascending, d_is_ascending := (PySem.W.fnOf "is_ascending" "is_ascending" (defArgs (top 12)) (defBody (top 12)) (defScope (top 12)) .none kV_is_ascending dc_is_ascending pm_is_ascending an_is_ascending cd_is_ascending ct_is_ascending), f_fault_place := f_fault_place, d_fault_place := (PySem.W.fnOf "fault_place" "fault_place" (defArgs (top 13)) (defBody (top 13)) (defScope (top 13)) .none kV_fault_place dc_fault_place pm_fault_place an_fault_place cd_fault_place ct_fault_place), f_is_table := f_is_table, d_is_table := (PySem.W.fnOf "is_table" "is_table" (defArgs (top 18)) (defBody (top 18)) (defScope (top 18)) .none kV_is_table dc_is_table pm_is_table an_is_table cd_is_table ct_is_table), f_check_tables := f_check_tables, d_check_tables := (PySem.W.fnOf "check_tables" "check_tables" (defArgs (top 19)) (defBody (top 19)) (defScope (top 19)) .none kV_check_tables dc_check_tables pm_check_tables an_check_tables cd_check_tables ct_check_tables), f_Machine_init := f_Machine_init, d_Machine_init := (PySem.W.fnOf "__init__" "Machine.__init__" (defArgs (inClass (top 20) 0)) (defBody (inClass (top 20) 0)) (defScope (inClass (top 20) 0)) .none kV_Machine_init dc_Machine_init pm_Machine_init an_Machine_init cd_Machine_init ct_Machine_init), f_check_state := f_check_state, d_check_state := (PySem.W.fnOf "check_state" "check_state" (defArgs (top 21)) (defBody (top 21)) (defScope (top 21)) .none kV_check_state dc_check_state pm_check_state an_check_state cd_check_state ct_check_state), f_check_deed := f_check_deed, d_check_deed := (PySem.W.fnOf "check_deed" "check_deed" (defArgs (top 22)) (defBody (top 22)) (defScope (top 22)) .none kV_check_deed dc_check_deed pm_check_deed an_check_deed cd_check_deed ct_check_deed), f_log_fault := f_log_fault, d_log_fault := (PySem.W.fnOf "log_fault" "log_fault" (defArgs (top 23)) (defBody (top 23)) (defScope (top 23)) .none kV_log_fault dc_log_fault pm_log_fault an_log_fault cd_log_fault ct_log_fault), f_check_log := f_check_log, d_check_log := (PySem.W.fnOf "check_log" "check_log" (defArgs (top 24)) (defBody (top 24)) (defScope (top 24)) .none kV_check_log dc_check_log pm_check_log an_check_log cd_check_log ct_check_log), f_check_starts := f_check_starts, d_check_starts := (PySem.W.fnOf "check_starts" "check_starts" (defArgs (top 25)) (defBody (top 25)) (defScope (top 25)) .none kV_check_starts dc_check_starts pm_check_starts an_check_starts cd_check_starts ct_check_starts), f_state_after := f_state_after, d_state_after := (PySem.W.fnOf "state_after" "state_after" (defArgs (top 26)) (defBody (top 26)) (defScope (top 26)) .none kV_state_after dc_state_after pm_state_after an_state_after cd_state_after ct_state_after), f_image := f_image, d_image := (PySem.W.fnOf "image" "image" (defArgs (top 27)) (defBody (top 27)) (defScope (top 27)) .none kV_image dc_image pm_image an_image cd_image ct_image), f_kept_row := f_kept_row, d_kept_row := (PySem.W.fnOf "kept_row" "kept_row" (defArgs (top 29)) (defBody (top 29)) (defScope (top 29)) .none kV_kept_row dc_kept_row pm_kept_row an_kept_row cd_kept_row ct_kept_row), f_kept_rows := f_kept_rows, d_kept_rows := (PySem.W.fnOf "kept_rows" "kept_rows" (defArgs (top 30)) (defBody (top 30)) (defScope (top 30)) .none kV_kept_rows dc_kept_rows pm_kept_rows an_kept_rows cd_kept_rows ct_kept_rows), f_first_rows := f_first_rows, d_first_rows := (PySem.W.fnOf "first_rows" "first_rows" (defArgs (top 31)) (defBody (top 31)) (defScope (top 31)) .none kV_first_rows dc_first_rows pm_first_rows an_first_rows cd_first_rows ct_first_rows), f_led_rows := f_led_rows, d_led_rows := (PySem.W.fnOf "led_rows" "led_rows" (defArgs (top 32)) (defBody (top 32)) (defScope (top 32)) .none kV_led_rows dc_led_rows pm_led_rows an_led_rows cd_led_rows ct_led_rows), f_led_note := f_led_note, d_led_note := (PySem.W.fnOf "led_note" "led_note" (defArgs (top 33)) (defBody (top 33)) (defScope (top 33)) .none kV_led_note dc_led_note pm_led_note an_led_note cd_led_note ct_led_note), f_LogNote_init := f_LogNote_init, d_LogNote_init := (PySem.W.fnOf "__init__" "LogNote.__init__" (defArgs (inClass (top 34) 0)) (defBody (inClass (top 34) 0)) (defScope (inClass (top 34) 0)) .none (.ref kD_LogNote_init) dc_LogNote_init pm_LogNote_init an_LogNote_init cd_LogNote_init ct_LogNote_init), f_LogNote_put := f_LogNote_put, d_LogNote_put := (PySem.W.fnOf "put" "LogNote.put" (defArgs (inClass (top 34) 2)) (defBody (inClass (top 34) 2)) (defScope (inClass (top 34) 2)) .none kV_LogNote_put dc_LogNote_put pm_LogNote_put an_LogNote_put cd_LogNote_put ct_LogNote_put), f_LogNote_mark := f_LogNote_mark, d_LogNote_mark := (PySem.W.fnOf "mark" "LogNote.mark" (defArgs (inClass (top 34) 3)) (defBody (inClass (top 34) 3)) (defScope (inClass (top 34) 3)) .none kV_LogNote_mark dc_LogNote_mark pm_LogNote_mark an_LogNote_mark cd_LogNote_mark ct_LogNote_mark), f_LogNote_read := f_LogNote_read, d_LogNote_read := (PySem.W.fnOf "read" "LogNote.read" (defArgs (inClass (top 34) 4)) (defBody (inClass (top 34) 4)) (defScope (inClass (top 34) 4)) (.ref dT_LogNote_read) kV_LogNote_read dc_LogNote_read pm_LogNote_read an_LogNote_read cd_LogNote_read ct_LogNote_read), dt_LogNote_read := eT_LogNote_read, f_law_box := f_law_box, d_law_box := (PySem.W.fnOf "_law_box" "_law_box" (defArgs (top 36)) (defBody (top 36)) (defScope (top 36)) .none kV_law_box dc_law_box pm_law_box an_law_box cd_law_box ct_law_box), f_law_take := f_law_take, d_law_take := (PySem.W.fnOf "_law_take" "_law_take" (defArgs (top 37)) (defBody (top 37)) (defScope (top 37)) .none kV_law_take dc_law_take pm_law_take an_law_take cd_law_take ct_law_take), f_law_pick := f_law_pick, d_law_pick := (PySem.W.fnOf "_law_pick" "_law_pick" (defArgs (top 38)) (defBody (top 38)) (defScope (top 38)) .none kV_law_pick dc_law_pick pm_law_pick an_law_pick cd_law_pick ct_law_pick), f_law_tables := f_law_tables, d_law_tables := (PySem.W.fnOf "_law_tables" "_law_tables" (defArgs (top 39)) (defBody (top 39)) (defScope (top 39)) .none kV_law_tables dc_law_tables pm_law_tables an_law_tables cd_law_tables ct_law_tables), f_law_led := f_law_led, d_law_led := (PySem.W.fnOf "_law_led" "_law_led" (defArgs (top 40)) (defBody (top 40)) (defScope (top 40)) .none kV_law_led dc_law_led pm_law_led an_law_led cd_law_led ct_law_led), f_law_starts := f_law_starts, d_law_starts := (PySem.W.fnOf "_law_starts" "_law_starts" (defArgs (top 41)) (defBody (top 41)) (defScope (top 41)) .none kV_law_starts dc_law_starts pm_law_starts an_law_starts cd_law_starts ct_law_starts), f_law_copies_right := f_law_copies_right, d_law_copies_right := (PySem.W.fnOf "_law_copies_right" "_law_copies_right" (defArgs (top 42)) (defBody (top 42)) (defScope (top 42)) .none kV_law_copies_right dc_law_copies_right pm_law_copies_right an_law_copies_right cd_law_copies_right ct_law_copies_right), f_law := fa, d_law := (PySem.W.fnOf "law" "law" (defArgs (top 43)) (defBody (top 43)) (defScope (top 43)) .none kV_law dc_law pm_law an_law cd_law ct_law), t_MOST_TABLES := t_MOST_TABLES, t_MOST_STATES := t_MOST_STATES, t_MOST_DEEDS := t_MOST_DEEDS }
  have F_is_integer := fund (st := top 9) l_is_integer c_is_integer k_is_integer
  have b_is_integer : Binds K C.d_is_integer ["value"] [] := .all fun us hl => match us, hl with | [_], _ => rfl
  have F_is_below := fund (st := top 10) l_is_below c_is_below k_is_below
  have b_is_below : Binds K C.d_is_below ["value", "many"] [] := .all fun us hl => match us, hl with | [_, _], _ => rfl
  have F_is_sequence := fund (st := top 11) l_is_sequence c_is_sequence k_is_sequence
  have b_is_sequence : Binds K C.d_is_sequence ["value"] [] := .all fun us hl => match us, hl with | [_], _ => rfl
  have F_is_ascending := fund (st := top 12) l_is_ascending c_is_ascending k_is_ascending
  have b_is_ascending : Binds K C.d_is_ascending ["value", "many"] [] := .all fun us hl => match us, hl with | [_, _], _ => rfl
  have F_fault_place := fund (st := top 13) l_fault_place c_fault_place k_fault_place
  have b_fault_place : Binds K C.d_fault_place ["value", "many"] [] := .all fun us hl => match us, hl with | [_, _], _ => rfl
  have F_is_table := fund (st := top 18) l_is_table c_is_table k_is_table
  have b_is_table : Binds K C.d_is_table ["value"] [] := .all fun us hl => match us, hl with | [_], _ => rfl
  have F_check_tables := fund (st := top 19) l_check_tables c_check_tables k_check_tables
  have b_check_tables : Binds K C.d_check_tables ["value"] [] := .all fun us hl => match us, hl with | [_], _ => rfl
  have F_Machine_init := fund (st := inClass (top 20) 0) l_Machine_init c_Machine_init k_Machine_init
  have b_Machine_init : Binds K C.d_Machine_init ["self", "tables"] [] := .all fun us hl => match us, hl with | [_, _], _ => rfl
  have F_check_state := fund (st := top 21) l_check_state c_check_state k_check_state
  have b_check_state : Binds K C.d_check_state ["machine", "value"] [] := .all fun us hl => match us, hl with | [_, _], _ => rfl
  have F_check_deed := fund (st := top 22) l_check_deed c_check_deed k_check_deed
  have b_check_deed : Binds K C.d_check_deed ["machine", "value"] [] := .all fun us hl => match us, hl with | [_, _], _ => rfl
  have F_log_fault := fund (st := top 23) l_log_fault c_log_fault k_log_fault
  have b_log_fault : Binds K C.d_log_fault ["machine", "value"] [] := .all fun us hl => match us, hl with | [_, _], _ => rfl
  have F_check_log := fund (st := top 24) l_check_log c_check_log k_check_log
  have b_check_log : Binds K C.d_check_log ["machine", "value"] [] := .all fun us hl => match us, hl with | [_, _], _ => rfl
  have F_check_starts := fund (st := top 25) l_check_starts c_check_starts k_check_starts
  have b_check_starts : Binds K C.d_check_starts ["machine", "value"] [] := .all fun us hl => match us, hl with | [_, _], _ => rfl
  have F_state_after := fund (st := top 26) l_state_after c_state_after k_state_after
  have b_state_after : Binds K C.d_state_after ["machine", "state", "log"] [] := .all fun us hl => match us, hl with | [_, _, _], _ => rfl
  have F_image := fund (st := top 27) l_image c_image k_image
  have b_image : Binds K C.d_image ["table", "states"] [] := .all fun us hl => match us, hl with | [_, _], _ => rfl
  have F_kept_row := fund (st := top 29) l_kept_row c_kept_row k_kept_row
  have b_kept_row : Binds K C.d_kept_row ["row", "state"] [] := .all fun us hl => match us, hl with | [_, _], _ => rfl
  have F_kept_rows := fund (st := top 30) l_kept_rows c_kept_rows k_kept_rows
  have b_kept_rows : Binds K C.d_kept_rows ["rows", "possible"] [] := .all fun us hl => match us, hl with | [_, _], _ => rfl
  have F_first_rows := fund (st := top 31) l_first_rows c_first_rows k_first_rows
  have b_first_rows : Binds K C.d_first_rows ["machine", "starts"] [] := .all fun us hl => match us, hl with | [_, _], _ => rfl
  have F_led_rows := fund (st := top 32) l_led_rows c_led_rows k_led_rows
  have b_led_rows : Binds K C.d_led_rows ["table", "rows"] [] := .all fun us hl => match us, hl with | [_, _], _ => rfl
  have F_led_note := fund (st := top 33) l_led_note c_led_note k_led_note
  have b_led_note : Binds K C.d_led_note ["table", "possible", "rows"] [] := .all fun us hl => match us, hl with | [_, _, _], _ => rfl
  have F_LogNote_init := fundK (qs := [("starts", .non)]) (st := inClass (top 34) 0) l_LogNote_init c_LogNote_init k_LogNote_init (fun r hr => by
    simp only [List.mem_cons, List.not_mem_nil, or_false] at hr
    rcases hr with rfl
    · exact ⟨rfl, kn0_LogNote_init⟩)
  have F_LogNote_put := fund (st := inClass (top 34) 2) l_LogNote_put c_LogNote_put k_LogNote_put
  have b_LogNote_put : Binds K C.d_LogNote_put ["self", "deed"] [] := .all fun us hl => match us, hl with | [_, _], _ => rfl
  have F_LogNote_mark := fund (st := inClass (top 34) 3) l_LogNote_mark c_LogNote_mark k_LogNote_mark
  have b_LogNote_mark : Binds K C.d_LogNote_mark ["self", "state"] [] := .all fun us hl => match us, hl with | [_, _], _ => rfl
  have F_LogNote_read := fundD (st := inClass (top 34) 4) l_LogNote_read c_LogNote_read k_LogNote_read q_LogNote_read
  have F_law_box := fund (st := top 36) l_law_box c_law_box k_law_box
  have b_law_box : Binds K C.d_law_box ["script", "k"] [] := .all fun us hl => match us, hl with | [_, _], _ => rfl
  have F_law_take := fund (st := top 37) l_law_take c_law_take k_law_take
  have b_law_take : Binds K C.d_law_take ["box", "many"] [] := .all fun us hl => match us, hl with | [_, _], _ => rfl
  have F_law_pick := fund (st := top 38) l_law_pick c_law_pick k_law_pick
  have b_law_pick : Binds K C.d_law_pick ["box", "some"] [] := .all fun us hl => match us, hl with | [_, _], _ => rfl
  have F_law_tables := fund (st := top 39) l_law_tables c_law_tables k_law_tables
  have b_law_tables : Binds K C.d_law_tables ["box"] [] := .all fun us hl => match us, hl with | [_], _ => rfl
  have F_law_led := fund (st := top 40) l_law_led c_law_led k_law_led
  have b_law_led : Binds K C.d_law_led ["tables", "state", "log"] [] := .all fun us hl => match us, hl with | [_, _, _], _ => rfl
  have F_law_starts := fund (st := top 41) l_law_starts c_law_starts k_law_starts
  have b_law_starts : Binds K C.d_law_starts ["box", "many"] [] := .all fun us hl => match us, hl with | [_, _], _ => rfl
  have F_law_copies_right := fund (st := top 42) l_law_copies_right c_law_copies_right k_law_copies_right
  have b_law_copies_right : Binds K C.d_law_copies_right ["note", "tables", "starts", "log", "copies"] [] := .all fun us hl => match us, hl with | [_, _, _, _, _], _ => rfl
  have F_law := fund (st := top 43) l_law c_law k_law
  have b_law : Binds K C.d_law ["script"] [] := .all fun us hl => match us, hl with | [_], _ => rfl
  have F_fi_BadMachine := fund (st := inClass (top 2) 0) l_fi_BadMachine c_fi_BadMachine k_fi_BadMachine
  have b_fi_BadMachine : Binds K C.fd_BadMachine ["self", "at"] [] := .all fun us hl => match us, hl with | [_, _], _ => rfl
  have s_fi_BadMachine : FnScope ["self", "at"] ["self", "at"] (defScope (inClass (top 2) 0)) := ⟨rfl, rfl, rfl, by decide +kernel, rfl, by decide +kernel, by decide +kernel⟩
  have ec_BadMachine : ExcC K A_BadMachine := ⟨ga_BadMachine, gg_BadMachine, ex_BadMachine, hd_BadMachine, ha_BadMachine, hn, ht, hm_BadMachine⟩
  have F_fi_BadLog := fund (st := inClass (top 3) 0) l_fi_BadLog c_fi_BadLog k_fi_BadLog
  have b_fi_BadLog : Binds K C.fd_BadLog ["self", "at"] [] := .all fun us hl => match us, hl with | [_, _], _ => rfl
  have s_fi_BadLog : FnScope ["self", "at"] ["self", "at"] (defScope (inClass (top 3) 0)) := ⟨rfl, rfl, rfl, by decide +kernel, rfl, by decide +kernel, by decide +kernel⟩
  have ec_BadLog : ExcC K A_BadLog := ⟨ga_BadLog, gg_BadLog, ex_BadLog, hd_BadLog, ha_BadLog, hn, ht, hm_BadLog⟩
  have F_fi_BadCopy := fund (st := inClass (top 4) 0) l_fi_BadCopy c_fi_BadCopy k_fi_BadCopy
  have b_fi_BadCopy : Binds K C.fd_BadCopy ["self", "at"] [] := .all fun us hl => match us, hl with | [_, _], _ => rfl
  have s_fi_BadCopy : FnScope ["self", "at"] ["self", "at"] (defScope (inClass (top 4) 0)) := ⟨rfl, rfl, rfl, by decide +kernel, rfl, by decide +kernel, by decide +kernel⟩
  have ec_BadCopy : ExcC K A_BadCopy := ⟨ga_BadCopy, gg_BadCopy, ex_BadCopy, hd_BadCopy, ha_BadCopy, hn, ht, hm_BadCopy⟩
  have F_fi_Refused := fund (st := inClass (top 5) 0) l_fi_Refused c_fi_Refused k_fi_Refused
  have b_fi_Refused : Binds K C.fd_Refused ["self", "at"] [] := .all fun us hl => match us, hl with | [_, _], _ => rfl
  have s_fi_Refused : FnScope ["self", "at"] ["self", "at"] (defScope (inClass (top 5) 0)) := ⟨rfl, rfl, rfl, by decide +kernel, rfl, by decide +kernel, by decide +kernel⟩
  have ec_Refused : ExcC K A_Refused := ⟨ga_Refused, gg_Refused, ex_Refused, hd_Refused, ha_Refused, hn, ht, hm_Refused⟩
  have F_fi_NoState := fund (st := inClass (top 6) 0) l_fi_NoState c_fi_NoState k_fi_NoState
  have b_fi_NoState : Binds K C.fd_NoState ["self", "state"] [] := .all fun us hl => match us, hl with | [_, _], _ => rfl
  have s_fi_NoState : FnScope ["self", "state"] ["self", "state"] (defScope (inClass (top 6) 0)) := ⟨rfl, rfl, rfl, by decide +kernel, rfl, by decide +kernel, by decide +kernel⟩
  have ec_NoState : ExcC K A_NoState := ⟨ga_NoState, gg_NoState, ex_NoState, hd_NoState, ha_NoState, hn, ht, hm_NoState⟩
  have F_fi_NoDeed := fund (st := inClass (top 7) 0) l_fi_NoDeed c_fi_NoDeed k_fi_NoDeed
  have b_fi_NoDeed : Binds K C.fd_NoDeed ["self", "deed"] [] := .all fun us hl => match us, hl with | [_, _], _ => rfl
  have s_fi_NoDeed : FnScope ["self", "deed"] ["self", "deed"] (defScope (inClass (top 7) 0)) := ⟨rfl, rfl, rfl, by decide +kernel, rfl, by decide +kernel, by decide +kernel⟩
  have ec_NoDeed : ExcC K A_NoDeed := ⟨ga_NoDeed, gg_NoDeed, ex_NoDeed, hd_NoDeed, ha_NoDeed, hn, ht, hm_NoDeed⟩
  have TT : ∀ base : Heap, (∀ p ∈ ([] : List (Addr × Addr)), LamX.TabB base mg p.1 p.2) → Txt P w K mg base [] C := fun base hTB => {
    b_abs := PySem.W.mg_none_of X G z_abs,
    b_bool := PySem.W.mg_none_of X G z_bool,
    b_enumerate := PySem.W.mg_none_of X G z_enumerate,
    b_int := PySem.W.mg_none_of X G z_int,
    b_isinstance := PySem.W.mg_none_of X G z_isinstance,
    b_len := PySem.W.mg_none_of X G z_len,
    b_list := PySem.W.mg_none_of X G z_list,
    b_max := PySem.W.mg_none_of X G z_max,
    b_min := PySem.W.mg_none_of X G z_min,
    b_range := PySem.W.mg_none_of X G z_range,
    b_set := PySem.W.mg_none_of X G z_set,
    b_sorted := PySem.W.mg_none_of X G z_sorted,
    b_tuple := PySem.W.mg_none_of X G z_tuple,
    MOST_TABLES := PySem.W.mg_of X G a_MOST_TABLES,
    MOST_STATES := PySem.W.mg_of X G a_MOST_STATES,
    MOST_DEEDS := PySem.W.mg_of X G a_MOST_DEEDS,
    AgeError := PySem.W.mg_of X G a_AgeError,
    BadMachine := PySem.W.mg_of X G a_BadMachine,
    BadLog := PySem.W.mg_of X G a_BadLog,
    BadCopy := PySem.W.mg_of X G a_BadCopy,
    Refused := PySem.W.mg_of X G a_Refused,
    NoState := PySem.W.mg_of X G a_NoState,
    NoDeed := PySem.W.mg_of X G a_NoDeed,
    Machine := PySem.W.mg_of X G a_Machine,
    LogNote := PySem.W.mg_of X G a_LogNote,
    cl_Machine := ⟨pg_Machine, hdi_Machine, po_Machine, sai_Machine⟩,
    ic_Machine := ⟨⟨pg_Machine, hdi_Machine, po_Machine, sai_Machine⟩, hai_Machine.symm, hn.symm, ht.symm, hmi_Machine.symm⟩,
    mk_Machine := ⟨mk_Machine, a_Machine_init, i_Machine_init, kci_Machine⟩,
    na_Machine_tables := n_Machine_tables,
    na_Machine_deeds := n_Machine_deeds,
    na_Machine_states := n_Machine_states,
    cl_LogNote := ⟨pg_LogNote, hdi_LogNote, po_LogNote, sai_LogNote⟩,
    ic_LogNote := ⟨⟨pg_LogNote, hdi_LogNote, po_LogNote, sai_LogNote⟩, hai_LogNote.symm, hn.symm, ht.symm, hmi_LogNote.symm⟩,
    mk_LogNote := ⟨mk_LogNote, a_LogNote_init, i_LogNote_init, kci_LogNote⟩,
    na_LogNote_possible := n_LogNote_possible,
    na_LogNote_machine := n_LogNote_machine,
    na_LogNote_age := n_LogNote_age,
    na_LogNote_rows := n_LogNote_rows,
    na_LogNote_tables := n_LogNote_tables,
    me_LogNote_put := ⟨a_LogNote_put, i_LogNote_put, k_LogNote_put⟩,
    me_LogNote_mark := ⟨a_LogNote_mark, i_LogNote_mark, k_LogNote_mark⟩,
    me_LogNote_read := ⟨a_LogNote_read, i_LogNote_read, k_LogNote_read⟩,
    kt_LogNote_read := ⟨_, #[], _, e_LogNote_read, rfl, rfl, Nat.zero_le _, .nil⟩,
    er_BadMachine := ⟨.inl ⟨⟨_, _, _, _, _, _, _, _, _, _, _, _, _, _, _, cls_BadMachine, rv_BadMachine⟩, sa_BadMachine, ex_BadMachine, ty_BadMachine, kc_BadMachine⟩, a_fi_BadMachine, ti_BadMachine, no_BadMachine⟩,
    in_BadMachine := fun k => ini_ok F_fi_BadMachine s_fi_BadMachine (.inl rfl) (.inl rfl),
    bi_BadMachine := b_fi_BadMachine,
    xf_BadMachine := ⟨ga_BadMachine, gg_BadMachine, ex_BadMachine, hd_BadMachine⟩,
    no_BadMachine := no_BadMachine,
    ec_BadMachine := ec_BadMachine,
    er_BadLog := ⟨.inl ⟨⟨_, _, _, _, _, _, _, _, _, _, _, _, _, _, _, cls_BadLog, rv_BadLog⟩, sa_BadLog, ex_BadLog, ty_BadLog, kc_BadLog⟩, a_fi_BadLog, ti_BadLog, no_BadLog⟩,
    in_BadLog := fun k => ini_ok F_fi_BadLog s_fi_BadLog (.inl rfl) (.inl rfl),
    bi_BadLog := b_fi_BadLog,
    xf_BadLog := ⟨ga_BadLog, gg_BadLog, ex_BadLog, hd_BadLog⟩,
    no_BadLog := no_BadLog,
    ec_BadLog := ec_BadLog,
    er_BadCopy := ⟨.inl ⟨⟨_, _, _, _, _, _, _, _, _, _, _, _, _, _, _, cls_BadCopy, rv_BadCopy⟩, sa_BadCopy, ex_BadCopy, ty_BadCopy, kc_BadCopy⟩, a_fi_BadCopy, ti_BadCopy, no_BadCopy⟩,
    in_BadCopy := fun k => ini_ok F_fi_BadCopy s_fi_BadCopy (.inl rfl) (.inl rfl),
    bi_BadCopy := b_fi_BadCopy,
    xf_BadCopy := ⟨ga_BadCopy, gg_BadCopy, ex_BadCopy, hd_BadCopy⟩,
    no_BadCopy := no_BadCopy,
    ec_BadCopy := ec_BadCopy,
    er_Refused := ⟨.inl ⟨⟨_, _, _, _, _, _, _, _, _, _, _, _, _, _, _, cls_Refused, rv_Refused⟩, sa_Refused, ex_Refused, ty_Refused, kc_Refused⟩, a_fi_Refused, ti_Refused, no_Refused⟩,
    in_Refused := fun k => ini_ok F_fi_Refused s_fi_Refused (.inl rfl) (.inl rfl),
    bi_Refused := b_fi_Refused,
    xf_Refused := ⟨ga_Refused, gg_Refused, ex_Refused, hd_Refused⟩,
    no_Refused := no_Refused,
    ec_Refused := ec_Refused,
    er_NoState := ⟨.inr ⟨⟨_, _, _, _, _, _, _, _, _, _, _, _, _, _, cls_NoState⟩, sa_NoState, ex_NoState, ty_NoState, kc_NoState⟩, a_fi_NoState, ti_NoState, no_NoState⟩,
    in_NoState := fun k => ini_ok F_fi_NoState s_fi_NoState (.inl rfl) (.inl rfl),
    bi_NoState := b_fi_NoState,
    xf_NoState := ⟨ga_NoState, gg_NoState, ex_NoState, hd_NoState⟩,
    no_NoState := no_NoState,
    ec_NoState := ec_NoState,
    er_NoDeed := ⟨.inr ⟨⟨_, _, _, _, _, _, _, _, _, _, _, _, _, _, cls_NoDeed⟩, sa_NoDeed, ex_NoDeed, ty_NoDeed, kc_NoDeed⟩, a_fi_NoDeed, ti_NoDeed, no_NoDeed⟩,
    in_NoDeed := fun k => ini_ok F_fi_NoDeed s_fi_NoDeed (.inl rfl) (.inl rfl),
    bi_NoDeed := b_fi_NoDeed,
    xf_NoDeed := ⟨ga_NoDeed, gg_NoDeed, ex_NoDeed, hd_NoDeed⟩,
    no_NoDeed := no_NoDeed,
    ec_NoDeed := ec_NoDeed }
  have DD : Defs K mg C := {
    F_is_integer := F_is_integer,
    F_is_below := F_is_below,
    F_is_sequence := F_is_sequence,
    F_is_ascending := F_is_ascending,
    F_fault_place := F_fault_place,
    F_is_table := F_is_table,
    F_check_tables := F_check_tables,
    F_Machine_init := F_Machine_init,
    F_check_state := F_check_state,
    F_check_deed := F_check_deed,
    F_log_fault := F_log_fault,
    F_check_log := F_check_log,
    F_check_starts := F_check_starts,
    F_state_after := F_state_after,
    F_image := F_image,
    F_kept_row := F_kept_row,
    F_kept_rows := F_kept_rows,
    F_first_rows := F_first_rows,
    F_led_rows := F_led_rows,
    F_led_note := F_led_note,
    F_LogNote_init := F_LogNote_init,
    F_LogNote_put := F_LogNote_put,
    F_LogNote_mark := F_LogNote_mark,
    F_LogNote_read := F_LogNote_read,
    F_law_box := F_law_box,
    F_law_take := F_law_take,
    F_law_pick := F_law_pick,
    F_law_tables := F_law_tables,
    F_law_led := F_law_led,
    F_law_starts := F_law_starts,
    F_law_copies_right := F_law_copies_right,
    F_law := F_law,
    K_LogNote_mark := kb_of b_LogNote_mark rfl,
    K_LogNote_put := kb_of b_LogNote_put rfl,
    K_Machine_init := kb_of b_Machine_init rfl,
    U_check_deed := ⟨PySem.W.mg_of X G a_check_deed, k_check_deed, kb_of b_check_deed rfl⟩,
    U_check_log := ⟨PySem.W.mg_of X G a_check_log, k_check_log, kb_of b_check_log rfl⟩,
    U_check_starts := ⟨PySem.W.mg_of X G a_check_starts, k_check_starts, kb_of b_check_starts rfl⟩,
    U_check_state := ⟨PySem.W.mg_of X G a_check_state, k_check_state, kb_of b_check_state rfl⟩,
    U_check_tables := ⟨PySem.W.mg_of X G a_check_tables, k_check_tables, kb_of b_check_tables rfl⟩,
    U_fault_place := ⟨PySem.W.mg_of X G a_fault_place, k_fault_place, kb_of b_fault_place rfl⟩,
    U_first_rows := ⟨PySem.W.mg_of X G a_first_rows, k_first_rows, kb_of b_first_rows rfl⟩,
    U_image := ⟨PySem.W.mg_of X G a_image, k_image, kb_of b_image rfl⟩,
    U_is_ascending := ⟨PySem.W.mg_of X G a_is_ascending, k_is_ascending, kb_of b_is_ascending rfl⟩,
    U_is_below := ⟨PySem.W.mg_of X G a_is_below, k_is_below, kb_of b_is_below rfl⟩,
    U_is_integer := ⟨PySem.W.mg_of X G a_is_integer, k_is_integer, kb_of b_is_integer rfl⟩,
    U_is_sequence := ⟨PySem.W.mg_of X G a_is_sequence, k_is_sequence, kb_of b_is_sequence rfl⟩,
    U_is_table := ⟨PySem.W.mg_of X G a_is_table, k_is_table, kb_of b_is_table rfl⟩,
    U_kept_row := ⟨PySem.W.mg_of X G a_kept_row, k_kept_row, kb_of b_kept_row rfl⟩,
    U_kept_rows := ⟨PySem.W.mg_of X G a_kept_rows, k_kept_rows, kb_of b_kept_rows rfl⟩,
    U_law_box := ⟨PySem.W.mg_of X G a_law_box, k_law_box, kb_of b_law_box rfl⟩,
    U_law_copies_right := ⟨PySem.W.mg_of X G a_law_copies_right, k_law_copies_right, kb_of b_law_copies_right rfl⟩,
    U_law_led := ⟨PySem.W.mg_of X G a_law_led, k_law_led, kb_of b_law_led rfl⟩,
    U_law_pick := ⟨PySem.W.mg_of X G a_law_pick, k_law_pick, kb_of b_law_pick rfl⟩,
    U_law_starts := ⟨PySem.W.mg_of X G a_law_starts, k_law_starts, kb_of b_law_starts rfl⟩,
    U_law_tables := ⟨PySem.W.mg_of X G a_law_tables, k_law_tables, kb_of b_law_tables rfl⟩,
    U_law_take := ⟨PySem.W.mg_of X G a_law_take, k_law_take, kb_of b_law_take rfl⟩,
    U_led_note := ⟨PySem.W.mg_of X G a_led_note, k_led_note, kb_of b_led_note rfl⟩,
    U_led_rows := ⟨PySem.W.mg_of X G a_led_rows, k_led_rows, kb_of b_led_rows rfl⟩,
    U_log_fault := ⟨PySem.W.mg_of X G a_log_fault, k_log_fault, kb_of b_log_fault rfl⟩,
    U_state_after := ⟨PySem.W.mg_of X G a_state_after, k_state_after, kb_of b_state_after rfl⟩,
    kd_LogNote_read := F_LogNote_read.binds1 3 0 (by simp) rfl fun T kV doc pm an cdv ct us its h1 h2 => match us, its, h1, h2 with | [_, _, _], [_], _, _ => ⟨_, rfl, rfl⟩,
    kx_LogNote_init_2_0 := kb_kw (ks := ["starts"]) (ms := []) F_LogNote_init (by simp) (by simp) (kr_2_0) fun D doc pm an cdv ct us ws h1 h2 => match us, ws, h1, h2 with | [_, _], [_], _, _ => rfl }
  exact ⟨_, fun s v => .of_eq rfl, fun base _ _ hTB => ok_law (TT base hTB) DD⟩
end K32
set_option Elab.async false
set_option maxRecDepth 100000
open PyProof.Rows PySem PySem.W in
set_option maxHeartbeats 0 in
theorem PySem.Challenge.cw_agedcopy_k32_whole_a_store_with_a_note_a_holds : PySem.Challenge.rw_agedcopy_k32_whole_a_store_with_a_note_a.Holds := by
  w_on
  o_law
  k_head
  (case hw => w_witness2)
  k_fill
  refine DL.walk_g (l := PySem.Challenge.rw_agedcopy_k32_whole_a_store_with_a_note_a) (n := 63) (k := 11) (x := "script") (cs := []) (t := []) rfl (by decide) rfl (fun w h Y => ⟨PySem.W.kIn_of Y, fun p hp => nomatch hp⟩) ⟨rfl, by decide, by decide⟩ (fun w p hp => nomatch hp) (fun w p hp => nomatch hp) (fun p hp => nomatch hp) ?F
  case F =>
    intro w mg fa h KX G hmg
    refine' K32.all_mk  KX G hmg ?a_AgeError ?a_BadMachine ?a_BadLog ?a_BadCopy ?a_Refused ?a_NoState ?a_NoDeed ?a_Machine ?a_LogNote ?a_MOST_TABLES ?a_MOST_STATES ?a_MOST_DEEDS ?a_fi_BadMachine ?l_fi_BadMachine ?c_fi_BadMachine ?k_fi_BadMachine ?ti_BadMachine ?cls_BadMachine ?rv_BadMachine ?sa_BadMachine ?ex_BadMachine ?ty_BadMachine ?kc_BadMachine ?no_BadMachine ?ga_BadMachine ?gg_BadMachine ?hd_BadMachine ?ha_BadMachine ?hm_BadMachine ?a_fi_BadLog ?l_fi_BadLog ?c_fi_BadLog ?k_fi_BadLog ?ti_BadLog ?cls_BadLog ?rv_BadLog ?sa_BadLog ?ex_BadLog ?ty_BadLog ?kc_BadLog ?no_BadLog ?ga_BadLog ?gg_BadLog ?hd_BadLog ?ha_BadLog ?hm_BadLog ?a_fi_BadCopy ?l_fi_BadCopy ?c_fi_BadCopy ?k_fi_BadCopy ?ti_BadCopy ?cls_BadCopy ?rv_BadCopy ?sa_BadCopy ?ex_BadCopy ?ty_BadCopy ?kc_BadCopy ?no_BadCopy ?ga_BadCopy ?gg_BadCopy ?hd_BadCopy ?ha_BadCopy ?hm_BadCopy ?a_fi_Refused ?l_fi_Refused ?c_fi_Refused ?k_fi_Refused ?ti_Refused ?cls_Refused ?rv_Refused ?sa_Refused ?ex_Refused ?ty_Refused ?kc_Refused ?no_Refused ?ga_Refused ?gg_Refused ?hd_Refused ?ha_Refused ?hm_Refused ?a_fi_NoState ?l_fi_NoState ?c_fi_NoState ?k_fi_NoState ?ti_NoState ?cls_NoState ?sa_NoState ?ex_NoState ?ty_NoState ?kc_NoState ?no_NoState ?ga_NoState ?gg_NoState ?hd_NoState ?ha_NoState ?hm_NoState ?a_fi_NoDeed ?l_fi_NoDeed ?c_fi_NoDeed ?k_fi_NoDeed ?ti_NoDeed ?cls_NoDeed ?sa_NoDeed ?ex_NoDeed ?ty_NoDeed ?kc_NoDeed ?no_NoDeed ?ga_NoDeed ?gg_NoDeed ?hd_NoDeed ?ha_NoDeed ?hm_NoDeed ?hn ?ht ?a_is_integer ?l_is_integer ?c_is_integer ?k_is_integer ?a_is_below ?l_is_below ?c_is_below ?k_is_below ?a_is_sequence ?l_is_sequence ?c_is_sequence ?k_is_sequence ?a_is_ascending ?l_is_ascending ?c_is_ascending ?k_is_ascending ?a_fault_place ?l_fault_place ?c_fault_place ?k_fault_place ?a_is_table ?l_is_table ?c_is_table ?k_is_table ?a_check_tables ?l_check_tables ?c_check_tables ?k_check_tables ?a_Machine_init ?i_Machine_init ?l_Machine_init ?c_Machine_init ?k_Machine_init ?a_check_state ?l_check_state ?c_check_state ?k_check_state ?a_check_deed ?l_check_deed ?c_check_deed ?k_check_deed ?a_log_fault ?l_log_fault ?c_log_fault ?k_log_fault ?a_check_log ?l_check_log ?c_check_log ?k_check_log ?a_check_starts ?l_check_starts ?c_check_starts ?k_check_starts ?a_state_after ?l_state_after ?c_state_after ?k_state_after ?a_image ?l_image ?c_image ?k_image ?a_kept_row ?l_kept_row ?c_kept_row ?k_kept_row ?a_kept_rows ?l_kept_rows ?c_kept_rows ?k_kept_rows ?a_first_rows ?l_first_rows ?c_first_rows ?k_first_rows ?a_led_rows ?l_led_rows ?c_led_rows ?k_led_rows ?a_led_note ?l_led_note ?c_led_note ?k_led_note ?a_LogNote_init ?i_LogNote_init ?l_LogNote_init ?c_LogNote_init ?k_LogNote_init ?kn0_LogNote_init ?a_LogNote_put ?i_LogNote_put ?l_LogNote_put ?c_LogNote_put ?k_LogNote_put ?a_LogNote_mark ?i_LogNote_mark ?l_LogNote_mark ?c_LogNote_mark ?k_LogNote_mark ?a_LogNote_read ?i_LogNote_read ?l_LogNote_read ?c_LogNote_read ?k_LogNote_read ?q_LogNote_read ?e_LogNote_read ?a_law_box ?l_law_box ?c_law_box ?k_law_box ?a_law_take ?l_law_take ?c_law_take ?k_law_take ?a_law_pick ?l_law_pick ?c_law_pick ?k_law_pick ?a_law_tables ?l_law_tables ?c_law_tables ?k_law_tables ?a_law_led ?l_law_led ?c_law_led ?k_law_led ?a_law_starts ?l_law_starts ?c_law_starts ?k_law_starts ?a_law_copies_right ?l_law_copies_right ?c_law_copies_right ?k_law_copies_right ?a_law ?l_law ?c_law ?k_law ?pg_Machine ?hdi_Machine ?po_Machine ?sai_Machine ?mk_Machine ?kci_Machine ?hai_Machine ?hmi_Machine ?n_Machine_tables ?n_Machine_deeds ?n_Machine_states ?pg_LogNote ?hdi_LogNote ?po_LogNote ?sai_LogNote ?mk_LogNote ?kci_LogNote ?hai_LogNote ?hmi_LogNote ?n_LogNote_possible ?n_LogNote_machine ?n_LogNote_age ?n_LogNote_rows ?n_LogNote_tables ?z_abs ?z_bool ?z_enumerate ?z_int ?z_isinstance ?z_len ?z_list ?z_max ?z_min ?z_range ?z_set ?z_sorted ?z_tuple
    (case a_AgeError => k_is)
    (case a_BadMachine => k_is)
    (case a_BadLog => k_is)
    (case a_BadCopy => k_is)
    (case a_Refused => k_is)
    (case a_NoState => k_is)
    (case a_NoDeed => k_is)
    (case a_Machine => k_is)
    (case a_LogNote => k_is)
    (case a_MOST_TABLES => k_is)
    (case a_MOST_STATES => k_is)
    (case a_MOST_DEEDS => k_is)
    (case a_fi_BadMachine => k_is)
    (case l_fi_BadMachine => k_is)
    (case c_fi_BadMachine => k_is)
    (case k_fi_BadMachine => k_is)
    (case ti_BadMachine => k_is)
    (case cls_BadMachine => k_is)
    (case rv_BadMachine => first | rfl | k_is)
    (case sa_BadMachine => k_is)
    (case ex_BadMachine => k_is)
    (case ty_BadMachine => k_is)
    (case kc_BadMachine => k_is)
    (case no_BadMachine => k_is)
    (case ga_BadMachine => k_is)
    (case gg_BadMachine => k_is)
    (case hd_BadMachine => k_is)
    (case ha_BadMachine => k_is)
    (case hm_BadMachine => k_is)
    (case a_fi_BadLog => k_is)
    (case l_fi_BadLog => k_is)
    (case c_fi_BadLog => k_is)
    (case k_fi_BadLog => k_is)
    (case ti_BadLog => k_is)
    (case cls_BadLog => k_is)
    (case rv_BadLog => first | rfl | k_is)
    (case sa_BadLog => k_is)
    (case ex_BadLog => k_is)
    (case ty_BadLog => k_is)
    (case kc_BadLog => k_is)
    (case no_BadLog => k_is)
    (case ga_BadLog => k_is)
    (case gg_BadLog => k_is)
    (case hd_BadLog => k_is)
    (case ha_BadLog => k_is)
    (case hm_BadLog => k_is)
    (case a_fi_BadCopy => k_is)
    (case l_fi_BadCopy => k_is)
    (case c_fi_BadCopy => k_is)
    (case k_fi_BadCopy => k_is)
    (case ti_BadCopy => k_is)
    (case cls_BadCopy => k_is)
    (case rv_BadCopy => first | rfl | k_is)
    (case sa_BadCopy => k_is)
    (case ex_BadCopy => k_is)
    (case ty_BadCopy => k_is)
    (case kc_BadCopy => k_is)
    (case no_BadCopy => k_is)
    (case ga_BadCopy => k_is)
    (case gg_BadCopy => k_is)
    (case hd_BadCopy => k_is)
    (case ha_BadCopy => k_is)
    (case hm_BadCopy => k_is)
    (case a_fi_Refused => k_is)
    (case l_fi_Refused => k_is)
    (case c_fi_Refused => k_is)
    (case k_fi_Refused => k_is)
    (case ti_Refused => k_is)
    (case cls_Refused => k_is)
    (case rv_Refused => first | rfl | k_is)
    (case sa_Refused => k_is)
    (case ex_Refused => k_is)
    (case ty_Refused => k_is)
    (case kc_Refused => k_is)
    (case no_Refused => k_is)
    (case ga_Refused => k_is)
    (case gg_Refused => k_is)
    (case hd_Refused => k_is)
    (case ha_Refused => k_is)
    (case hm_Refused => k_is)
    (case a_fi_NoState => k_is)
    (case l_fi_NoState => k_is)
    (case c_fi_NoState => k_is)
    (case k_fi_NoState => k_is)
    (case ti_NoState => k_is)
    (case cls_NoState => k_is)
    (case sa_NoState => k_is)
    (case ex_NoState => k_is)
    (case ty_NoState => k_is)
    (case kc_NoState => k_is)
    (case no_NoState => k_is)
    (case ga_NoState => k_is)
    (case gg_NoState => k_is)
    (case hd_NoState => k_is)
    (case ha_NoState => k_is)
    (case hm_NoState => k_is)
    (case a_fi_NoDeed => k_is)
    (case l_fi_NoDeed => k_is)
    (case c_fi_NoDeed => k_is)
    (case k_fi_NoDeed => k_is)
    (case ti_NoDeed => k_is)
    (case cls_NoDeed => k_is)
    (case sa_NoDeed => k_is)
    (case ex_NoDeed => k_is)
    (case ty_NoDeed => k_is)
    (case kc_NoDeed => k_is)
    (case no_NoDeed => k_is)
    (case ga_NoDeed => k_is)
    (case gg_NoDeed => k_is)
    (case hd_NoDeed => k_is)
    (case ha_NoDeed => k_is)
    (case hm_NoDeed => k_is)
    (case hn => k_is)
    (case ht => k_is)
    (case a_is_integer => k_is)
    (case l_is_integer => k_is)
    (case c_is_integer => k_is)
    (case k_is_integer => k_is)
    (case a_is_below => k_is)
    (case l_is_below => k_is)
    (case c_is_below => k_is)
    (case k_is_below => k_is)
    (case a_is_sequence => k_is)
    (case l_is_sequence => k_is)
    (case c_is_sequence => k_is)
    (case k_is_sequence => k_is)
    (case a_is_ascending => k_is)
    (case l_is_ascending => k_is)
    (case c_is_ascending => k_is)
    (case k_is_ascending => k_is)
    (case a_fault_place => k_is)
    (case l_fault_place => k_is)
    (case c_fault_place => k_is)
    (case k_fault_place => k_is)
    (case a_is_table => k_is)
    (case l_is_table => k_is)
    (case c_is_table => k_is)
    (case k_is_table => k_is)
    (case a_check_tables => k_is)
    (case l_check_tables => k_is)
    (case c_check_tables => k_is)
    (case k_check_tables => k_is)
    (case a_Machine_init => k_is)
    (case i_Machine_init => k_is)
    (case l_Machine_init => k_is)
    (case c_Machine_init => k_is)
    (case k_Machine_init => k_is)
    (case a_check_state => k_is)
    (case l_check_state => k_is)
    (case c_check_state => k_is)
    (case k_check_state => k_is)
    (case a_check_deed => k_is)
    (case l_check_deed => k_is)
    (case c_check_deed => k_is)
    (case k_check_deed => k_is)
    (case a_log_fault => k_is)
    (case l_log_fault => k_is)
    (case c_log_fault => k_is)
    (case k_log_fault => k_is)
    (case a_check_log => k_is)
    (case l_check_log => k_is)
    (case c_check_log => k_is)
    (case k_check_log => k_is)
    (case a_check_starts => k_is)
    (case l_check_starts => k_is)
    (case c_check_starts => k_is)
    (case k_check_starts => k_is)
    (case a_state_after => k_is)
    (case l_state_after => k_is)
    (case c_state_after => k_is)
    (case k_state_after => k_is)
    (case a_image => k_is)
    (case l_image => k_is)
    (case c_image => k_is)
    (case k_image => k_is)
    (case a_kept_row => k_is)
    (case l_kept_row => k_is)
    (case c_kept_row => k_is)
    (case k_kept_row => k_is)
    (case a_kept_rows => k_is)
    (case l_kept_rows => k_is)
    (case c_kept_rows => k_is)
    (case k_kept_rows => k_is)
    (case a_first_rows => k_is)
    (case l_first_rows => k_is)
    (case c_first_rows => k_is)
    (case k_first_rows => k_is)
    (case a_led_rows => k_is)
    (case l_led_rows => k_is)
    (case c_led_rows => k_is)
    (case k_led_rows => k_is)
    (case a_led_note => k_is)
    (case l_led_note => k_is)
    (case c_led_note => k_is)
    (case k_led_note => k_is)
    (case a_LogNote_init => k_is)
    (case i_LogNote_init => k_is)
    (case l_LogNote_init => k_is)
    (case c_LogNote_init => k_is)
    (case k_LogNote_init => k_is)
    (case kn0_LogNote_init => k_is)
    (case a_LogNote_put => k_is)
    (case i_LogNote_put => k_is)
    (case l_LogNote_put => k_is)
    (case c_LogNote_put => k_is)
    (case k_LogNote_put => k_is)
    (case a_LogNote_mark => k_is)
    (case i_LogNote_mark => k_is)
    (case l_LogNote_mark => k_is)
    (case c_LogNote_mark => k_is)
    (case k_LogNote_mark => k_is)
    (case a_LogNote_read => k_is)
    (case i_LogNote_read => k_is)
    (case l_LogNote_read => k_is)
    (case c_LogNote_read => k_is)
    (case k_LogNote_read => k_is)
    (case q_LogNote_read => k_is)
    (case e_LogNote_read => k_is)
    (case a_law_box => k_is)
    (case l_law_box => k_is)
    (case c_law_box => k_is)
    (case k_law_box => k_is)
    (case a_law_take => k_is)
    (case l_law_take => k_is)
    (case c_law_take => k_is)
    (case k_law_take => k_is)
    (case a_law_pick => k_is)
    (case l_law_pick => k_is)
    (case c_law_pick => k_is)
    (case k_law_pick => k_is)
    (case a_law_tables => k_is)
    (case l_law_tables => k_is)
    (case c_law_tables => k_is)
    (case k_law_tables => k_is)
    (case a_law_led => k_is)
    (case l_law_led => k_is)
    (case c_law_led => k_is)
    (case k_law_led => k_is)
    (case a_law_starts => k_is)
    (case l_law_starts => k_is)
    (case c_law_starts => k_is)
    (case k_law_starts => k_is)
    (case a_law_copies_right => k_is)
    (case l_law_copies_right => k_is)
    (case c_law_copies_right => k_is)
    (case k_law_copies_right => k_is)
    (case a_law => k_is)
    (case l_law => k_is)
    (case c_law => k_is)
    (case k_law => k_is)
    (case pg_Machine => k_is)
    (case hdi_Machine => k_is)
    (case po_Machine => k_is)
    (case sai_Machine => k_is)
    (case mk_Machine => k_is)
    (case kci_Machine => k_is)
    (case hai_Machine => k_is)
    (case hmi_Machine => k_is)
    (case n_Machine_tables => k_is)
    (case n_Machine_deeds => k_is)
    (case n_Machine_states => k_is)
    (case pg_LogNote => k_is)
    (case hdi_LogNote => k_is)
    (case po_LogNote => k_is)
    (case sai_LogNote => k_is)
    (case mk_LogNote => k_is)
    (case kci_LogNote => k_is)
    (case hai_LogNote => k_is)
    (case hmi_LogNote => k_is)
    (case n_LogNote_possible => k_is)
    (case n_LogNote_machine => k_is)
    (case n_LogNote_age => k_is)
    (case n_LogNote_rows => k_is)
    (case n_LogNote_tables => k_is)
    (case z_abs => k_is)
    (case z_bool => k_is)
    (case z_enumerate => k_is)
    (case z_int => k_is)
    (case z_isinstance => k_is)
    (case z_len => k_is)
    (case z_list => k_is)
    (case z_max => k_is)
    (case z_min => k_is)
    (case z_range => k_is)
    (case z_set => k_is)
    (case z_sorted => k_is)
    (case z_tuple => k_is)
