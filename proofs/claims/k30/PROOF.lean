import PyProof.Rows.All
import Wide.All
import OpenK.AllK
import Wide.FinOn
import HandS.ForMost
import HandS.Exc
import HandS.CallSlots
import HandS.TupAny
import HandS.IsInst
import HandS.Defaults
import HandS.MakeKw
import HandS.FStr
import HandS.DictComp
import HandS.Conv
import HandS.Wide
import HandS.Lambda
import HandS.Style
import PyProof.ExcBaseAll.LookupError
import HandS.ExcInit
import HandS.ExcField
import HandS.ExcIs
import HandS.TryMany
import KE.KExcIs
import HandS.Iter
import KE.GoesMore
import KE.GoesEnum
import PyProof.InstNe
import OpenK.KOwn
import HandS.Replace
import PyProof.MeetsStr3
import HandS.Ends
import HandS.EndTab
import HandS.NestedK
import HandS.Rev
import HandS.SortKw
import KE.KRevSl
import KE.DatumOrd
import HandS.Words
import PySem.Challenge.RW_agedcopy_k30_tails_of_copies
set_option Elab.async false
set_option autoImplicit false
set_option linter.all false
set_option maxRecDepth 100000
set_option maxHeartbeats 3900000
/-! DL: data level. What a reading of the layer means for plain data: slots hold data or lists of one's own, nothing of the heap is left. -/
namespace DL
open L2 PyProof.Rows PySem PySem.Spec
/-- t: the tables of code objects, each with the name that stands in it; gs, gf: what is known to stay -/
structure Tb where
  t : List (Addr × Str)
  gs : Hp
  gf : Hp
abbrev tb0 (t : List (Addr × Str)) : Tb := ⟨t, fun _ => none, fun _ => none⟩
variable {τ : Tb}

abbrev Fg := PySem.W.Frag
/-- plain data -/
inductive D where
  | non | bl (b : Bool) | int (i : Int) | str (s : Str)
  | lst (xs : List D) | tup (xs : List D)
  | obj (c : Addr) (ns : List Str) (ds : List D)
  | dic (ks : List Key) (ds : List D)
  | scr (is : List Int)
  | raw (v : V)
  | exn (v : V) (dd : Addr) (f : Str) (d : D)

mutual
inductive Is (K : Fg) (S : Hp) : V → D → Prop
  | non : Is K S .non .non
  | bl (b : Bool) : Is K S (.bl b) (.bl b)
  | int (i : Int) : Is K S (.int i) (.int i)
  | str (s : Str) : Is K S (.str s) (.str s)
  | lst {a vs ds} : S a = some (.lst vs) → IsAll K S vs ds → Is K S (.ref a) (.lst ds)
  | tup {a vs ds} : S a = some (.tup vs) → IsAll K S vs ds → Is K S (.ref a) (.tup ds)
  | obj {a C dx vs ns ds} : S a = some (.ins C dx vs) → vs.map (·.1) = ns → IsAll K S (vs.map (·.2)) ds → Is K S (.ref a) (.obj C ns ds)
  | dic {a kvs ks ds} : S a = some (.dK kvs) → kvs.map (·.1) = ks → IsAll K S (kvs.map (·.2)) ds → Is K S (.ref a) (.dic ks ds)
  | scr {a} {is : List Int} : SqL K S a (is.map V.int) → Is K S (.ref a) (.scr is)
  | raw (v : V) : Is K S v (.raw v)
  | exn {v dd f u d} : S dd = some (.xd [(f, u)]) → Is K S u d → Is K S v (.exn v dd f d)
inductive IsAll (K : Fg) (S : Hp) : List V → List D → Prop
  | nil : IsAll K S [] []
  | cons {v vs d ds} : Is K S v d → IsAll K S vs ds → IsAll K S (v :: vs) (d :: ds)
end

section
variable {K : Fg} {S S' : Hp}
theorem both_mono (e : Same S S') : (∀ v d, Is K S v d → Is K S' v d) ∧ (∀ vs ds, IsAll K S vs ds → IsAll K S' vs ds) := by
  refine ⟨fun v d h => ?_, fun vs ds h => ?_⟩
  · exact Is.rec (motive_1 := fun v d _ => Is K S' v d) (motive_2 := fun vs ds _ => IsAll K S' vs ds) .non .bl .int .str
      (fun h _ ih => .lst (e _ _ h) ih) (fun h _ ih => .tup (e _ _ h) ih) (fun h hn _ ih => .obj (e _ _ h) hn ih) (fun h hn _ ih => .dic (e _ _ h) hn ih) (fun h => .scr (e.seq h)) .raw (fun h _ ih => .exn (e _ _ h) ih) .nil (fun _ _ a b => .cons a b) h
  · exact IsAll.rec (motive_1 := fun v d _ => Is K S' v d) (motive_2 := fun vs ds _ => IsAll K S' vs ds) .non .bl .int .str
      (fun h _ ih => .lst (e _ _ h) ih) (fun h _ ih => .tup (e _ _ h) ih) (fun h hn _ ih => .obj (e _ _ h) hn ih) (fun h hn _ ih => .dic (e _ _ h) hn ih) (fun h => .scr (e.seq h)) .raw (fun h _ ih => .exn (e _ _ h) ih) .nil (fun _ _ a b => .cons a b) h
theorem Is.mono {v d} (h : Is K S v d) (e : Same S S') : Is K S' v d := (both_mono e).1 v d h
theorem IsAll.mono {vs ds} (h : IsAll K S vs ds) (e : Same S S') : IsAll K S' vs ds := (both_mono e).2 vs ds h
theorem IsAll.length : ∀ {vs : List V} {ds : List D}, IsAll K S vs ds → vs.length = ds.length
  | _, _, .nil => rfl
  | _, _, .cons _ q => congrArg (· + 1) q.length
theorem IsAll.get : ∀ {vs : List V} {ds : List D} {i : Nat} {d : D}, IsAll K S vs ds → ds[i]? = some d → ∃ v, vs[i]? = some v ∧ Is K S v d
  | _, _, _, _, .nil, e => nomatch e
  | _, _, 0, _, .cons r _, e => by cases (Option.some.inj e); exact ⟨_, rfl, r⟩
  | _, _, i + 1, d, .cons _ t, e => by
    obtain ⟨u, h1, h2⟩ := IsAll.get (i := i) (d := d) t (by simpa using e)
    exact ⟨_, (by simpa using h1), h2⟩
theorem IsAll.append : ∀ {xs ys : List V} {us ws : List D}, IsAll K S xs us → IsAll K S ys ws → IsAll K S (xs ++ ys) (us ++ ws)
  | _, _, _, _, .nil, s => s
  | _, _, _, _, .cons r t, s => .cons r (t.append s)
theorem IsAll.take : ∀ {xs : List V} {us : List D} (n : Nat), IsAll K S xs us → IsAll K S (xs.take n) (us.take n)
  | _, _, 0, _ => .nil
  | _, _, _ + 1, .nil => .nil
  | _, _, n + 1, .cons r t => .cons r (t.take n)
theorem IsAll.drop : ∀ {xs : List V} {us : List D} (n : Nat), IsAll K S xs us → IsAll K S (xs.drop n) (us.drop n)
  | _, _, 0, r => r
  | _, _, _ + 1, .nil => .nil
  | _, _, n + 1, .cons _ t => t.drop n
theorem IsAll.set {v : V} {d : D} (r : Is K S v d) : ∀ {xs : List V} {us : List D} (i : Nat), IsAll K S xs us → IsAll K S (xs.set i v) (us.set i d)
  | _, _, _, .nil => .nil
  | _, _, 0, .cons _ z => .cons r z
  | _, _, i + 1, .cons q t => .cons q (IsAll.set r i t)
theorem IsAll.reverse {xs : List V} {us : List D} (h : IsAll K S xs us) : IsAll K S xs.reverse us.reverse := by
  induction xs generalizing us with
  | nil => cases h; exact .nil
  | cons x xs ih => cases h with
    | cons r t => rw [List.reverse_cons, List.reverse_cons]; exact (ih t).append (.cons r .nil)
end

/-- an object of one's own -/
inductive OD where
  | l (xs : List D) | k (ks : List Key) (ds : List D) | i (c : Addr) (ns : List Str) (ds : List D)
def OD.d : OD → D
  | .l xs => .lst xs
  | .k ks ds => .dic ks ds
  | .i c ns ds => .obj c ns ds
inductive OIs (K : Fg) (S : Hp) : HO → OD → Prop
  | l {vs ds} : IsAll K S vs ds → OIs K S (.lst vs) (.l ds)
  | k {kvs ks ds} : kvs.map (·.1) = ks → IsAll K S (kvs.map (·.2)) ds → OIs K S (.dK kvs) (.k ks ds)
  | i {c dx vs ns ds} : vs.map (·.1) = ns → IsAll K S (vs.map (·.2)) ds → OIs K S (.ins c dx vs) (.i c ns ds)
theorem OIs.mono {K : Fg} {S S' : Hp} {o od} (h : OIs K S o od) (e : Same S S') : OIs K S' o od := by
  cases h with
  | l h => exact .l (h.mono e)
  | k hn h => exact .k hn (h.mono e)
  | i hn h => exact .i hn (h.mono e)
theorem OIs.notX {K : Fg} {S : Hp} {o od} (h : OIs K S o od) : (∀ ps, o ≠ .tbl ps) ∧ ∀ c q, o ≠ LamX.CodeO c q := by
  cases h <;> exact ⟨(fun _ z => by cases z), (fun _ _ z => by unfold LamX.CodeO at z; cases z)⟩
/-- the tables of code objects: tracked, and nothing of the data -/
structure TbOk (τ : Tb) (S F H : Hp) : Prop where
  tab : LamX.Tabs τ.t H
  nS : ∀ p ∈ τ.t, S p.1 = none
  nF : ∀ p ∈ τ.t, F p.1 = none
  ks : ∀ a o, τ.gs a = some o → S a = some o
  kf : ∀ a o, τ.gf a = some o → F a = some o
inductive Sl where
  | un | val (d : D) | own (l : Addr) (o : OD)
abbrev Rho := List Sl
/-- the slots σ and the heap H are what ρ says; S: what never changes; F: what others own -/
structure ER (K : Fg) (τ : Tb) (S F H : Hp) (ρ : Rho) (σ : L2.St) : Prop where
  len : ρ.length = σ.length
  ex : Same S H
  fr : ∀ a o, F a = some o → H a = some o ∧ S a = none
  val : ∀ (i : Nat) (d : D), ρ[i]? = some (Sl.val d) → ∃ v, σ[i]? = some (some v) ∧ Is K S v d
  own : ∀ (i : Nat) (l : Addr) (od : OD), ρ[i]? = some (Sl.own l od) → σ[i]? = some (some (V.ref l)) ∧ S l = none ∧ F l = none ∧ ∃ o, H l = some o ∧ OIs K S o od
  dis : ∀ (i j : Nat) (l : Addr) (o o' : OD), ρ[i]? = some (Sl.own l o) → ρ[j]? = some (Sl.own l o') → i = j
  tb : TbOk τ S F H
theorem TbOk.at {τ : Tb} {S F H : Hp} (t : TbOk τ S F H) {p : Addr × Str} (h : p ∈ τ.t) : ∃ ps, H p.1 = some (.tbl ps) := by
  obtain ⟨ps, h1, -⟩ := t.tab p h; exact ⟨ps, h1⟩
theorem TbOk.new {τ : Tb} {S F H : Hp} {a : Addr} {o : HO} (t : TbOk τ S F H) (ha : H a = none) (sa : S a = none) : TbOk τ (upd S a o) F (upd H a o) := by
  have ne : ∀ p ∈ τ.t, p.1 ≠ a := fun p hp => by obtain ⟨ps, h⟩ := t.at hp; exact ne_of_none h ha
  exact ⟨t.tab.ext fun b u e => by rw [upd_ne (ne_of_none e ha)]; exact e, fun p hp => by rw [upd_ne (ne p hp)]; exact t.nS p hp, t.nF, fun b u e => by rw [upd_ne (ne_of_none (t.ks b u e) sa)]; exact t.ks b u e, t.kf⟩
theorem TbOk.newH {τ : Tb} {S F H : Hp} {a : Addr} {o : HO} (t : TbOk τ S F H) (ha : H a = none) : TbOk τ S F (upd H a o) :=
  ⟨t.tab.ext fun b u e => by rw [upd_ne (ne_of_none e ha)]; exact e, t.nS, t.nF, t.ks, t.kf⟩
theorem TbOk.chg {τ : Tb} {S F H : Hp} {a : Addr} {o o' : HO} (t : TbOk τ S F H) (ha : H a = some o) (n1 : ∀ ps, o ≠ .tbl ps) (n2 : ∀ c q, o ≠ LamX.CodeO c q) : TbOk τ S F (upd H a o') := by
  refine ⟨fun p hp => ?_, t.nS, t.nF, t.ks, t.kf⟩
  obtain ⟨ps, h1, h2, h3⟩ := t.tab p hp
  have ne : p.1 ≠ a := fun z => by rw [z, ha] at h1; exact n1 ps (Option.some.inj h1)
  refine ⟨ps, by rw [upd_ne ne]; exact h1, h2, fun pos cv hc => ?_⟩
  obtain ⟨c, e1, e2⟩ := h3 pos cv hc
  have nc : c ≠ a := fun z => by rw [z, ha] at e2; exact n2 _ _ (Option.some.inj e2)
  exact ⟨c, e1, by rw [upd_ne nc]; exact e2⟩
theorem TbOk.addS {τ : Tb} {S F H : Hp} {a : Addr} {o o' : HO} (t : TbOk τ S F H) (ha : H a = some o) (sa : S a = none) (n1 : ∀ ps, o ≠ .tbl ps) : TbOk τ (upd S a o') F H := by
  refine ⟨t.tab, fun p hp => ?_, t.nF, fun b u e => by rw [upd_ne (ne_of_none (t.ks b u e) sa)]; exact t.ks b u e, t.kf⟩
  obtain ⟨ps, h⟩ := t.at hp
  have ne : p.1 ≠ a := fun z => by rw [z, ha] at h; exact n1 ps (Option.some.inj h)
  rw [upd_ne ne]; exact t.nS p hp
section
variable {K : Fg} {S F H : Hp} {ρ : Rho} {σ : L2.St} {p : Addr} {o : HO}
/-- a new object that never changes -/
theorem TbOk.newF {τ : Tb} {S F H : Hp} {a : Addr} {o : HO} (t : TbOk τ S F H) (ha : H a = none) (fa : F a = none) : TbOk τ S (upd F a o) (upd H a o) := by
  have ne : ∀ p ∈ τ.t, p.1 ≠ a := fun p hp => by obtain ⟨ps, h⟩ := t.at hp; exact ne_of_none h ha
  exact ⟨t.tab.ext fun b u e => by rw [upd_ne (ne_of_none e ha)]; exact e, t.nS, fun p hp => by rw [upd_ne (ne p hp)]; exact t.nF p hp, t.ks, fun b u e => by rw [upd_ne (ne_of_none (t.kf b u e) fa)]; exact t.kf b u e⟩
theorem TbOk.addF {τ : Tb} {S F H : Hp} {a : Addr} {o o' : HO} (t : TbOk τ S F H) (ha : H a = some o) (fa : F a = none) (n1 : ∀ ps, o ≠ .tbl ps) : TbOk τ S (upd F a o') H := by
  refine ⟨t.tab, t.nS, fun p hp => ?_, t.ks, fun b u e => by rw [upd_ne (ne_of_none (t.kf b u e) fa)]; exact t.kf b u e⟩
  obtain ⟨ps, h⟩ := t.at hp
  have ne : p.1 ≠ a := fun z => by rw [z, ha] at h; exact n1 ps (Option.some.inj h)
  rw [upd_ne ne]; exact t.nF p hp
theorem TbOk.free {τ : Tb} {S F H : Hp} {a : Addr} (t : TbOk τ S F H) (fa : F a = none) : τ.gf a = none := by
  cases h : τ.gf a with
  | none => rfl
  | some u => rw [t.kf a u h] at fa; cases fa
theorem TbOk.lessF {τ : Tb} {S F H : Hp} {a : Addr} {o : HO} (t : TbOk τ S (upd F a o) H) (fa : F a = none) (ga : τ.gf a = none) : TbOk τ S F H := by
  refine ⟨t.tab, t.nS, fun p hp => ?_, t.ks, fun b u e => ?_⟩
  · by_cases hb : p.1 = a
    · rw [hb]; exact fa
    · have := t.nF p hp; rw [upd_ne hb] at this; exact this
  · have := t.kf b u e; rw [upd_ne (ne_of_none e ga)] at this; exact this
theorem TbOk.inF {τ : Tb} {S F H : Hp} {a : Addr} {o : HO} (t : TbOk τ S (upd F a o) H) : ∀ p ∈ τ.t, p.1 ≠ a := fun p hp z => by
  have := t.nF p hp; rw [z, upd_same] at this; cases this
theorem ER.new (e : ER K τ S F H ρ σ) (hp : H p = none) : ER K τ (upd S p o) F (upd H p o) ρ σ := by
  have sp : S p = none := by
    cases h : S p with
    | none => rfl
    | some u => rw [e.ex p u h] at hp; cases hp
  have sS : Same S (upd S p o) := fun b u h => by rw [upd_ne (ne_of_none h sp)]; exact h
  refine ⟨e.len, fun b u h => ?_, fun a u h => ?_, fun i d h => ?_, fun i l od h => ?_, e.dis, e.tb.new hp sp⟩
  · by_cases hb : b = p
    · subst hb; rw [upd_same] at h ⊢; exact h
    · rw [upd_ne hb] at h ⊢; exact e.ex b u h
  · obtain ⟨h1, h2⟩ := e.fr a u h
    have ne := ne_of_none h1 hp
    rw [upd_ne ne, upd_ne ne]; exact ⟨h1, h2⟩
  · obtain ⟨v, h1, h2⟩ := e.val i d h
    exact ⟨v, h1, h2.mono sS⟩
  · obtain ⟨h1, h2, h3, ob, h4, h5⟩ := e.own i l od h
    have ne := ne_of_none h4 hp
    rw [upd_ne ne]
    exact ⟨h1, h2, h3, ob, by rw [upd_ne ne]; exact h4, h5.mono sS⟩
theorem ER.sp (e : ER K τ S F H ρ σ) (hp : H p = none) : S p = none := by
  cases h : S p with
  | none => rfl
  | some u => rw [e.ex p u h] at hp; cases hp
theorem ER.fp (e : ER K τ S F H ρ σ) (hp : H p = none) : F p = none := by
  cases h : F p with
  | none => rfl
  | some u => rw [(e.fr p u h).1] at hp; cases hp
theorem ER.sn (e : ER K τ S F H ρ σ) (hp : H p = none) : Same S (upd S p o) := fun b u h => by rw [upd_ne (ne_of_none h (e.sp hp))]; exact h
theorem ER.at (e : ER K τ S F H ρ σ) {a u} (h : S a = some u) : H a = some u := e.ex a u h
/-- an object of one's own changes -/
theorem ER.wr (e : ER K τ S F H ρ σ) {i : Nat} {l : Addr} {od od' : OD} {o' : HO} (h : ρ[i]? = some (Sl.own l od)) (ho : OIs K S o' od') : ER K τ S F (upd H l o') (ρ.set i (.own l od')) σ := by
  obtain ⟨h1, h2, h3, ob, h4, h5⟩ := e.own i l od h
  have hi : i < ρ.length := (List.getElem?_eq_some_iff.mp h).1
  refine ⟨by rw [List.length_set]; exact e.len, fun b u q => ?_, fun a u q => ?_, fun j d q => ?_, fun j m od2 q => ?_, fun j k m o1 o2 q1 q2 => ?_, e.tb.chg h4 h5.notX.1 h5.notX.2⟩
  · rw [upd_ne (ne_of_none q h2)]; exact e.ex b u q
  · obtain ⟨a1, a2⟩ := e.fr a u q
    rw [upd_ne (ne_of_none q h3)]; exact ⟨a1, a2⟩
  · by_cases hj : j = i
    · subst hj; rw [List.getElem?_set_self hi] at q; cases q
    · rw [List.getElem?_set_ne (Ne.symm hj)] at q; exact e.val j d q
  · by_cases hj : j = i
    · subst hj; rw [List.getElem?_set_self hi] at q; cases q
      exact ⟨h1, h2, h3, o', upd_same, ho⟩
    · rw [List.getElem?_set_ne (Ne.symm hj)] at q
      obtain ⟨a1, a2, a3, ob2, a4, a5⟩ := e.own j m od2 q
      have ne : m ≠ l := fun z => by subst z; exact hj (e.dis _ _ _ _ _ q h)
      exact ⟨a1, a2, a3, ob2, by rw [upd_ne ne]; exact a4, a5⟩
  · have back : ∀ {k : Nat} {o1 : OD}, (ρ.set i (.own l od'))[k]? = some (Sl.own m o1) → ∃ o3, ρ[k]? = some (Sl.own m o3) := fun {k o1} q => by
      by_cases hk : k = i
      · subst hk; rw [List.getElem?_set_self hi] at q; cases q; exact ⟨od, h⟩
      · rw [List.getElem?_set_ne (Ne.symm hk)] at q; exact ⟨o1, q⟩
    obtain ⟨o3, q3⟩ := back q1
    obtain ⟨o4, q4⟩ := back q2
    exact e.dis _ _ _ _ _ q3 q4
/-- an object of one's own is no longer changed -/
theorem ER.frz (e : ER K τ S F H ρ σ) {i : Nat} {l : Addr} {od : OD} (h : ρ[i]? = some (Sl.own l od)) : ∃ S', Same S S' ∧ ER K τ S' F H (ρ.set i (.val od.d)) σ ∧ Is K S' (.ref l) od.d := by
  obtain ⟨h1, h2, h3, ob, h4, h5⟩ := e.own i l od h
  have hi : i < ρ.length := (List.getElem?_eq_some_iff.mp h).1
  have sS : Same S (upd S l ob) := fun b u q => by rw [upd_ne (ne_of_none q h2)]; exact q
  have hv : Is K (upd S l ob) (.ref l) od.d := by
    cases h5 with
    | l r => exact .lst upd_same (r.mono sS)
    | k hn r => exact .dic upd_same hn (r.mono sS)
    | i hn r => exact .obj upd_same hn (r.mono sS)
  refine ⟨upd S l ob, sS, ⟨by rw [List.length_set]; exact e.len, fun b u q => ?_, fun a u q => ?_, fun j d q => ?_, fun j m od2 q => ?_, fun j k m o1 o2 q1 q2 => ?_, e.tb.addS h4 h2 h5.notX.1⟩, hv⟩
  · by_cases hb : b = l
    · subst hb; rw [upd_same] at q; cases q; exact h4
    · rw [upd_ne hb] at q; exact e.ex b u q
  · obtain ⟨a1, a2⟩ := e.fr a u q
    rw [upd_ne (ne_of_none q h3)]; exact ⟨a1, a2⟩
  · by_cases hj : j = i
    · subst hj; rw [List.getElem?_set_self hi] at q; cases q
      exact ⟨_, h1, hv⟩
    · rw [List.getElem?_set_ne (Ne.symm hj)] at q
      obtain ⟨v, a1, a2⟩ := e.val j d q
      exact ⟨v, a1, a2.mono sS⟩
  · by_cases hj : j = i
    · subst hj; rw [List.getElem?_set_self hi] at q; cases q
    · rw [List.getElem?_set_ne (Ne.symm hj)] at q
      obtain ⟨a1, a2, a3, ob2, a4, a5⟩ := e.own j m od2 q
      have ne : m ≠ l := fun z => by subst z; exact hj (e.dis _ _ _ _ _ q h)
      exact ⟨a1, by rw [upd_ne ne]; exact a2, a3, ob2, a4, a5.mono sS⟩
  · have back : ∀ {k : Nat} {o1 : OD}, (ρ.set i (.val od.d))[k]? = some (Sl.own m o1) → ρ[k]? = some (Sl.own m o1) := fun {k o1} q => by
      by_cases hk : k = i
      · subst hk; rw [List.getElem?_set_self hi] at q; cases q
      · rw [List.getElem?_set_ne (Ne.symm hk)] at q; exact q
    exact e.dis _ _ _ _ _ (back q1) (back q2)
/-- a slot gets a value -/
theorem ER.set (e : ER K τ S F H ρ σ) {i : Nat} {v : V} {d : D} (hv : Is K S v d) : ER K τ S F H (ρ.set i (.val d)) (σ.set i (some v)) := by
  refine ⟨by rw [List.length_set, List.length_set]; exact e.len, e.ex, e.fr, fun j d' q => ?_, fun j m od2 q => ?_, fun j k m o1 o2 q1 q2 => ?_, e.tb⟩
  · by_cases hj : j = i
    · subst hj
      have hi : j < ρ.length := by
        have := (List.getElem?_eq_some_iff.mp q).1
        rwa [List.length_set] at this
      rw [List.getElem?_set_self hi] at q; cases q
      exact ⟨v, by rw [List.getElem?_set_self (by rw [← e.len]; exact hi)], hv⟩
    · rw [List.getElem?_set_ne (Ne.symm hj)] at q ⊢; exact e.val j d' q
  · by_cases hj : j = i
    · subst hj
      have hi : j < ρ.length := by
        have := (List.getElem?_eq_some_iff.mp q).1
        rwa [List.length_set] at this
      rw [List.getElem?_set_self hi] at q; cases q
    · rw [List.getElem?_set_ne (Ne.symm hj)] at q ⊢; exact e.own j m od2 q
  · have back : ∀ {k : Nat} {o1 : OD}, (ρ.set i (.val d))[k]? = some (Sl.own m o1) → ρ[k]? = some (Sl.own m o1) := fun {k o1} q => by
      by_cases hk : k = i
      · subst hk
        have hi : k < ρ.length := by
          have := (List.getElem?_eq_some_iff.mp q).1
          rwa [List.length_set] at this
        rw [List.getElem?_set_self hi] at q; cases q
      · rw [List.getElem?_set_ne (Ne.symm hk)] at q; exact q
    exact e.dis _ _ _ _ _ (back q1) (back q2)
/-- a slot gets a new object of one's own -/
theorem ER.setOwn (e : ER K τ S F H ρ σ) {i : Nat} {l : Addr} {o : HO} {od : OD} (h1 : H l = some o) (h2 : S l = none) (h3 : F l = none) (h4 : OIs K S o od) (h5 : ∀ (j : Nat) (od' : OD), ρ[j]? ≠ some (Sl.own l od')) : ER K τ S F H (ρ.set i (.own l od)) (σ.set i (some (.ref l))) := by
  refine ⟨by rw [List.length_set, List.length_set]; exact e.len, e.ex, e.fr, fun j d' q => ?_, fun j m od2 q => ?_, fun j k m o1 o2 q1 q2 => ?_, e.tb⟩
  · by_cases hj : j = i
    · subst hj
      have hi : j < ρ.length := by
        have := (List.getElem?_eq_some_iff.mp q).1
        rwa [List.length_set] at this
      rw [List.getElem?_set_self hi] at q; cases q
    · rw [List.getElem?_set_ne (Ne.symm hj)] at q ⊢; exact e.val j d' q
  · by_cases hj : j = i
    · subst hj
      have hi : j < ρ.length := by
        have := (List.getElem?_eq_some_iff.mp q).1
        rwa [List.length_set] at this
      rw [List.getElem?_set_self hi] at q; cases q
      exact ⟨by rw [List.getElem?_set_self (by rw [← e.len]; exact hi)], h2, h3, o, h1, h4⟩
    · rw [List.getElem?_set_ne (Ne.symm hj)] at q ⊢; exact e.own j m od2 q
  · have back : ∀ {k : Nat} {o1 : OD}, (ρ.set i (.own l od))[k]? = some (Sl.own m o1) → (k = i ∧ m = l) ∨ (k ≠ i ∧ ρ[k]? = some (Sl.own m o1)) := fun {k o1} q => by
      by_cases hk : k = i
      · subst hk
        have hi : k < ρ.length := by
          have := (List.getElem?_eq_some_iff.mp q).1
          rwa [List.length_set] at this
        rw [List.getElem?_set_self hi] at q; cases q; exact .inl ⟨rfl, rfl⟩
      · rw [List.getElem?_set_ne (Ne.symm hk)] at q; exact .inr ⟨hk, q⟩
    rcases back q1 with ⟨a1, a2⟩ | ⟨a1, a2⟩ <;> rcases back q2 with ⟨b1, b2⟩ | ⟨b1, b2⟩
    · exact a1.trans b1.symm
    · rw [a2] at b2; exact absurd b2 (h5 _ _)
    · rw [b2] at a2; exact absurd a2 (h5 _ _)
    · exact e.dis _ _ _ _ _ a2 b2
end

/-! ### what a reading means for data -/
abbrev XC := Addr → Str → D → Rho → Prop
abbrev WE := Rho → XC → (D → Rho → Prop) → Prop
abbrev WT := Rho → XC → (Bool → Rho → Prop) → Prop
abbrev WL := Rho → XC → (List D → Rho → Prop) → Prop
structure DE where
  nx : Rho → Prop
  rt : D → Rho → Prop
  bk : Rho → Prop
  ct : Rho → Prop
  xc : XC
  ro : Addr → OD → Rho → Prop := fun _ _ _ => False
abbrev WS := Rho → DE → Prop
def XOk (K : Fg) (τ : Tb) (F : Hp) (W : WX) (S : Hp) (χ : XC) : Prop := ∀ C f d v dd ρ' S' σ' H', χ C f d ρ' → Same S S' → ER K τ S' F H' ρ' σ' → S' dd = some (.xd [(f, v)]) → Is K S' v d → W (.ref C) (some dd) σ' H'
theorem XOk.mono {K : Fg} {F : Hp} {W : WX} {S S1 : Hp} {χ : XC} (h : XOk K τ F W S χ) (e : Same S S1) : XOk K τ F W S1 χ := fun C f d v dd ρ' S' σ' H' a b c d' e' => h C f d v dd ρ' S' σ' H' a (e.trans b) c d' e'
abbrev W0 : WX := fun _ _ _ _ => False
abbrev χ0 : XC := fun _ _ _ _ => False
theorem XOk.none {K : Fg} {F : Hp} {W : WX} {S : Hp} : XOk K τ F W S χ0 := fun _ _ _ _ _ _ _ _ _ h => h.elim

def lE (K : Fg) (τ : Tb) (W : WX) (w : WE) : TE := fun σ H Q => ∃ ρ S F χ Φ, ER K τ S F H ρ σ ∧ w ρ χ Φ ∧ XOk K τ F W S χ ∧ ∀ v d ρ' S' H', Φ d ρ' → Same S S' → Is K S' v d → ER K τ S' F H' ρ' σ → Q v H'
def lT (K : Fg) (τ : Tb) (W : WX) (w : WT) : TT := fun σ H Q => ∃ ρ S F χ Φ, ER K τ S F H ρ σ ∧ w ρ χ Φ ∧ XOk K τ F W S χ ∧ ∀ b ρ' S' H', Φ b ρ' → Same S S' → ER K τ S' F H' ρ' σ → Q b H'
def lL (K : Fg) (τ : Tb) (W : WX) (w : WL) : TA := fun σ H Q => ∃ ρ S F χ Φ, ER K τ S F H ρ σ ∧ w ρ χ Φ ∧ XOk K τ F W S χ ∧ ∀ vs ds ρ' S' H', Φ ds ρ' → Same S S' → IsAll K S' vs ds → ER K τ S' F H' ρ' σ → Q vs H'
def lS (K : Fg) (τ : Tb) (W : WX) (w : WS) : TS := fun D σ H => ∃ ρ S F Δ, ER K τ S F H ρ σ ∧ w ρ Δ ∧ XOk K τ F W S Δ.xc ∧
  (∀ ρ' S' σ' H', Δ.nx ρ' → Same S S' → ER K τ S' F H' ρ' σ' → D.nx σ' H') ∧
  (∀ d v ρ' S' σ' H', Δ.rt d ρ' → Same S S' → Is K S' v d → ER K τ S' F H' ρ' σ' → D.rt v H') ∧
  (∀ ρ' S' σ' H', Δ.bk ρ' → Same S S' → ER K τ S' F H' ρ' σ' → D.bk σ' H') ∧
  (∀ ρ' S' σ' H', Δ.ct ρ' → Same S S' → ER K τ S' F H' ρ' σ' → D.ct σ' H') ∧
  (∀ l od o ρ' S' σ' H', Δ.ro l od ρ' → Same S S' → H' l = some o → OIs K S' o od → S' l = none → F l = none → ER K τ S' F H' ρ' σ' → D.rt (.ref l) H')

theorem PE.imp {X : Cx} {e : Expr} {t t' : TE} (h : PE X e t) (m : ∀ σ H Q, t' σ H Q → t σ H Q) : PE X e t' := ⟨fun pins s σ H Q I q => h.run pins s σ H Q I (m σ H Q q)⟩
theorem PT.imp {X : Cx} {e : Expr} {t t' : TT} (h : PT X e t) (m : ∀ σ H Q, t' σ H Q → t σ H Q) : PT X e t' := ⟨fun pins s σ H Q I q => h.run pins s σ H Q I (m σ H Q q)⟩
theorem PW.imp {X : Cx} {e : Expr} {t t' : TT} (h : PW X e t) (m : ∀ σ H Q, t' σ H Q → t σ H Q) : PW X e t' := ⟨fun wh pins s σ H Q I q => h.run wh pins s σ H Q I (m σ H Q q)⟩
theorem PA.imp {X : Cx} {es : List Expr} {t t' : TA} (h : PA X es t) (m : ∀ σ H Q, t' σ H Q → t σ H Q) : PA X es t' := ⟨fun pos pins s σ H Q I q => h.run pos pins s σ H Q I (m σ H Q q)⟩
theorem PS.imp {X : Cx} {st : Stmt} {t t' : TS} (h : PS X st t) (m : ∀ D σ H, t' D σ H → t D σ H) : PS X st t' := ⟨fun pins s σ H D I q => h.run pins s σ H D I (m D σ H q)⟩
theorem PSs.imp {X : Cx} {st : List Stmt} {t t' : TS} (h : PSs X st t) (m : ∀ D σ H, t' D σ H → t D σ H) : PSs X st t' := ⟨fun pins s σ H D I q => h.run pins s σ H D I (m D σ H q)⟩
end DL
set_option Elab.async false
set_option autoImplicit false
set_option linter.all false
set_option maxRecDepth 100000
set_option maxHeartbeats 3900000
namespace DL
open L2 PyProof.Rows PySem PySem.Spec
variable {τ : Tb}

/-! ### operators on data -/
def OpOk (K : Fg) (τ : Tb) (r : R2) (wr : D → D → (D → Prop) → Prop) : Prop := ∀ (S F H : Hp) (ρ : Rho) (σ : L2.St) (x y : V) (dx dy : D) (Φ : D → Prop) (Q : VK), ER K τ S F H ρ σ → Is K S x dx → Is K S y dy → wr dx dy Φ →
  (∀ v d S' H', Φ d → Same S S' → Is K S' v d → ER K τ S' F H' ρ σ → Q v H') → r x y H Q
def UnOk (K : Fg) (τ : Tb) (r : V → Hp → VK → Prop) (wr : D → (D → Prop) → Prop) : Prop := ∀ (S F H : Hp) (ρ : Rho) (σ : L2.St) (x : V) (dx : D) (Φ : D → Prop) (Q : VK), ER K τ S F H ρ σ → Is K S x dx → wr dx Φ →
  (∀ v d S' H', Φ d → Same S S' → Is K S' v d → ER K τ S' F H' ρ σ → Q v H') → r x H Q
def CallOk (K : Fg) (τ : Tb) (r : List V → Hp → VK → Prop) (wr : List D → (D → Prop) → Prop) : Prop := ∀ (S F H : Hp) (ρ : Rho) (σ : L2.St) (xs : List V) (ds : List D) (Φ : D → Prop) (Q : VK), ER K τ S F H ρ σ → IsAll K S xs ds → wr ds Φ →
  (∀ v d S' H', Φ d → Same S S' → Is K S' v d → ER K τ S' F H' ρ σ → Q v H') → r xs H Q
theorem OpOk.or {K : Fg} {r r' : R2} {w w' : D → D → (D → Prop) → Prop} (h : OpOk K τ r w) (h' : OpOk K τ r' w') : OpOk K τ (fun x y H Q => r x y H Q ∨ r' x y H Q) (fun x y Φ => w x y Φ ∨ w' x y Φ) :=
  fun S F H ρ σ x y dx dy Φ Q e ix iy hw hp => hw.elim (fun z => .inl (h S F H ρ σ x y dx dy Φ Q e ix iy z hp)) fun z => .inr (h' S F H ρ σ x y dx dy Φ Q e ix iy z hp)
theorem OpOk.imp {K : Fg} {r : R2} {w w' : D → D → (D → Prop) → Prop} (h : OpOk K τ r w) (m : ∀ x y Φ, w' x y Φ → w x y Φ) : OpOk K τ r w' :=
  fun S F H ρ σ x y dx dy Φ Q e ix iy hw hp => h S F H ρ σ x y dx dy Φ Q e ix iy (m _ _ _ hw) hp

def wOp (wr : D → D → (D → Prop) → Prop) (wa wb : WE) : WE := fun ρ χ Φ => wa ρ χ fun x ρ1 => wb ρ1 χ fun y ρ2 => wr x y fun z => Φ z ρ2
def wUn (wr : D → (D → Prop) → Prop) (wa : WE) : WE := fun ρ χ Φ => wa ρ χ fun x ρ1 => wr x fun z => Φ z ρ1
def wCB (wr : List D → (D → Prop) → Prop) (wa : WL) : WE := fun ρ χ Φ => wa ρ χ fun xs ρ1 => wr xs fun z => Φ z ρ1
def wC (d : D) : WE := fun ρ _ Φ => Φ d ρ
def wVar (i : Nat) : WE := fun ρ _ Φ => match ρ[i]? with
  | some (.val d) => Φ d ρ
  | some (.own _ o) => Φ o.d (ρ.set i (.val o.d))
  | _ => False

section
variable {K : Fg} {W : WX} {wa wb wc : WE} {σ : L2.St} {H : Hp} {Q : VK}
theorem l_op {r : R2} {wr : D → D → (D → Prop) → Prop} (hr : OpOk K τ r wr) : ∀ σ H Q, lE K τ W (wOp wr wa wb) σ H Q → tOp r (lE K τ W wa) (lE K τ W wb) σ H Q := by
  rintro σ H Q ⟨ρ, S, F, χ, Φ, e, hw, hx, hp⟩
  refine ⟨ρ, S, F, χ, _, e, hw, hx, fun x dx ρ1 S1 H1 h1 s1 i1 e1 => ?_⟩
  refine ⟨ρ1, S1, F, χ, _, e1, h1, hx.mono s1, fun y dy ρ2 S2 H2 h2 s2 i2 e2 => ?_⟩
  exact hr S2 F H2 ρ2 σ x y dx dy _ Q e2 (i1.mono s2) i2 h2 fun v d S3 H3 h3 s3 i3 e3 => hp v d ρ2 S3 H3 h3 ((s1.trans s2).trans s3) i3 e3
theorem l_un {r : V → Hp → VK → Prop} {wr : D → (D → Prop) → Prop} (hr : UnOk K τ r wr) : ∀ σ H Q, lE K τ W (wUn wr wa) σ H Q → tUn r (lE K τ W wa) σ H Q := by
  rintro σ H Q ⟨ρ, S, F, χ, Φ, e, hw, hx, hp⟩
  refine ⟨ρ, S, F, χ, _, e, hw, hx, fun x dx ρ1 S1 H1 h1 s1 i1 e1 => ?_⟩
  exact hr S1 F H1 ρ1 σ x dx _ Q e1 i1 h1 fun v d S3 H3 h3 s3 i3 e3 => hp v d ρ1 S3 H3 h3 (s1.trans s3) i3 e3
theorem l_cb {r : List V → Hp → VK → Prop} {wr : List D → (D → Prop) → Prop} {wl : WL} (hr : CallOk K τ r wr) : ∀ σ H Q, lE K τ W (wCB wr wl) σ H Q → tCB r (lL K τ W wl) σ H Q := by
  rintro σ H Q ⟨ρ, S, F, χ, Φ, e, hw, hx, hp⟩
  refine ⟨ρ, S, F, χ, _, e, hw, hx, fun xs ds ρ1 S1 H1 h1 s1 i1 e1 => ?_⟩
  exact hr S1 F H1 ρ1 σ xs ds _ Q e1 i1 h1 fun v d S3 H3 h3 s3 i3 e3 => hp v d ρ1 S3 H3 h3 (s1.trans s3) i3 e3
theorem l_c {v : V} {d : D} (hd : ∀ S, Is K S v d) : ∀ σ H Q, lE K τ W (wC d) σ H Q → tC v σ H Q := by
  rintro σ H Q ⟨ρ, S, F, χ, Φ, e, hw, hx, hp⟩
  exact hp v d ρ S H hw (Same.refl S) (hd S) e
theorem l_var {i : Nat} : ∀ σ H Q, lE K τ W (wVar i) σ H Q → tVar i σ H Q := by
  rintro σ H Q ⟨ρ, S, F, χ, Φ, e, hw, hx, hp⟩
  unfold wVar at hw
  split at hw
  · rename_i d hd
    obtain ⟨v, h1, h2⟩ := e.val i d hd
    exact ⟨v, h1, hp v d ρ S H hw (Same.refl S) h2 e⟩
  · rename_i l o hd
    obtain ⟨S', s', e', iv⟩ := e.frz hd
    exact ⟨_, (e.own i l o hd).1, hp _ _ _ S' H hw s' iv e'⟩
  · exact hw.elim
end

/-! ### lists of data -/
def wNil : WL := fun ρ _ Φ => Φ [] ρ
def wCons (wa : WE) (wr : WL) : WL := fun ρ χ Φ => wa ρ χ fun x ρ1 => wr ρ1 χ fun xs ρ2 => Φ (x :: xs) ρ2
section
variable {K : Fg} {W : WX} {wa wb wc : WE} {wl wm : WL} {σ : L2.St} {H : Hp} {Q : VK}
theorem l_nil : ∀ σ H Q, lL K τ W wNil σ H Q → tNil σ H Q := by
  rintro σ H Q ⟨ρ, S, F, χ, Φ, e, hw, hx, hp⟩
  exact hp [] [] ρ S H hw (Same.refl S) .nil e
theorem l_cons : ∀ σ H Q, lL K τ W (wCons wa wl) σ H Q → tCons (lE K τ W wa) (lL K τ W wl) σ H Q := by
  rintro σ H Q ⟨ρ, S, F, χ, Φ, e, hw, hx, hp⟩
  refine ⟨ρ, S, F, χ, _, e, hw, hx, fun x dx ρ1 S1 H1 h1 s1 i1 e1 => ?_⟩
  refine ⟨ρ1, S1, F, χ, _, e1, h1, hx.mono s1, fun ys dys ρ2 S2 H2 h2 s2 i2 e2 => ?_⟩
  exact hp (x :: ys) (dx :: dys) ρ2 S2 H2 h2 (s1.trans s2) (.cons (i1.mono s2) i2) e2
def wTup (wl : WL) : WE := fun ρ χ Φ => wl ρ χ fun xs ρ1 => xs.length ≤ sizeLine ∧ Φ (.tup xs) ρ1
def wLst (wl : WL) : WE := fun ρ χ Φ => wl ρ χ fun xs ρ1 => xs.length ≤ sizeLine ∧ Φ (.lst xs) ρ1
theorem l_tup : ∀ σ H Q, lE K τ W (wTup wl) σ H Q → tTup (lL K τ W wl) σ H Q := by
  rintro σ H Q ⟨ρ, S, F, χ, Φ, e, hw, hx, hp⟩
  refine ⟨ρ, S, F, χ, _, e, hw, hx, fun xs ds ρ1 S1 H1 h1 s1 i1 e1 => ⟨by rw [i1.length]; exact h1.1, fun p hp1 => ?_⟩⟩
  exact hp _ _ ρ1 _ _ h1.2 (s1.trans (e1.sn hp1)) (.tup upd_same (i1.mono (e1.sn hp1))) (e1.new hp1)
theorem l_lst : ∀ σ H Q, lE K τ W (wLst wl) σ H Q → tLst (lL K τ W wl) σ H Q := by
  rintro σ H Q ⟨ρ, S, F, χ, Φ, e, hw, hx, hp⟩
  refine ⟨ρ, S, F, χ, _, e, hw, hx, fun xs ds ρ1 S1 H1 h1 s1 i1 e1 => ⟨by rw [i1.length]; exact h1.1, fun p hp1 => ?_⟩⟩
  exact hp _ _ ρ1 _ _ h1.2 (s1.trans (e1.sn hp1)) (.lst upd_same (i1.mono (e1.sn hp1))) (e1.new hp1)
end

/-! ### tests -/
def wB (wa : WE) : WT := fun ρ χ Φ => wa ρ χ fun x ρ1 => match x with
  | .bl b => Φ b ρ1
  | _ => False
def wAnd (wa wb : WT) : WT := fun ρ χ Φ => wa ρ χ fun b ρ1 => if b = true then wb ρ1 χ Φ else Φ false ρ1
def wOr (wa wb : WT) : WT := fun ρ χ Φ => wa ρ χ fun b ρ1 => if b = true then Φ true ρ1 else wb ρ1 χ Φ
def wNot (wa : WT) : WT := fun ρ χ Φ => wa ρ χ fun b ρ1 => Φ (!b) ρ1
def wAndV (wa wb : WE) : WE := fun ρ χ Φ => wa ρ χ fun x ρ1 => match x with
  | .bl b => if b = true then wb ρ1 χ Φ else Φ (.bl false) ρ1
  | _ => False
def wOrV (wa wb : WE) : WE := fun ρ χ Φ => wa ρ χ fun x ρ1 => match x with
  | .bl b => if b = true then Φ (.bl true) ρ1 else wb ρ1 χ Φ
  | _ => False
def wNotV (wa : WE) : WE := fun ρ χ Φ => wa ρ χ fun x ρ1 => match x with
  | .bl b => Φ (.bl (!b)) ρ1
  | _ => False
def wIf (wt : WT) (wa wb : WE) : WE := fun ρ χ Φ => wt ρ χ fun b ρ1 => if b = true then wa ρ1 χ Φ else wb ρ1 χ Φ
def wChain (wr wr' : D → D → (D → Prop) → Prop) (wa wb wc : WE) : WE := fun ρ χ Φ => wa ρ χ fun x ρ1 => wb ρ1 χ fun y ρ2 => wr x y fun z => match z with
  | .bl b => if b = true then wc ρ2 χ fun u ρ3 => wr' y u fun z' => Φ z' ρ3 else Φ (.bl false) ρ2
  | _ => False
section
variable {K : Fg} {W : WX} {wa wb wc : WE} {wt wu : WT} {σ : L2.St} {H : Hp} {Q : VK}
theorem l_B : ∀ σ H Q, lT K τ W (wB wa) σ H Q → tB (lE K τ W wa) σ H Q := by
  rintro σ H Q ⟨ρ, S, F, χ, Φ, e, hw, hx, hp⟩
  refine ⟨ρ, S, F, χ, _, e, hw, hx, fun x dx ρ1 S1 H1 h1 s1 i1 e1 => ?_⟩
  cases dx with
  | bl b => cases i1; exact ⟨b, rfl, hp b ρ1 S1 H1 h1 s1 e1⟩
  | _ => exact False.elim h1
theorem l_test : ∀ σ H Q, lT K τ W (wB wa) σ H Q → tTest (lE K τ W wa) σ H Q := l_B
theorem l_and : ∀ σ H Q, lT K τ W (wAnd wt wu) σ H Q → tAnd (lT K τ W wt) (lT K τ W wu) σ H Q := by
  rintro σ H Q ⟨ρ, S, F, χ, Φ, e, hw, hx, hp⟩
  refine ⟨ρ, S, F, χ, _, e, hw, hx, fun b ρ1 S1 H1 h1 s1 e1 => ?_⟩
  cases b with
  | true => exact ⟨ρ1, S1, F, χ, _, e1, h1, hx.mono s1, fun b ρ2 S2 H2 h2 s2 e2 => hp b ρ2 S2 H2 h2 (s1.trans s2) e2⟩
  | false => exact hp false ρ1 S1 H1 h1 s1 e1
theorem l_or : ∀ σ H Q, lT K τ W (wOr wt wu) σ H Q → tOr (lT K τ W wt) (lT K τ W wu) σ H Q := by
  rintro σ H Q ⟨ρ, S, F, χ, Φ, e, hw, hx, hp⟩
  refine ⟨ρ, S, F, χ, _, e, hw, hx, fun b ρ1 S1 H1 h1 s1 e1 => ?_⟩
  cases b with
  | false => exact ⟨ρ1, S1, F, χ, _, e1, h1, hx.mono s1, fun b ρ2 S2 H2 h2 s2 e2 => hp b ρ2 S2 H2 h2 (s1.trans s2) e2⟩
  | true => exact hp true ρ1 S1 H1 h1 s1 e1
theorem l_not : ∀ σ H Q, lT K τ W (wNot wt) σ H Q → tNot (lT K τ W wt) σ H Q := by
  rintro σ H Q ⟨ρ, S, F, χ, Φ, e, hw, hx, hp⟩
  exact ⟨ρ, S, F, χ, _, e, hw, hx, fun b ρ1 S1 H1 h1 s1 e1 => hp (!b) ρ1 S1 H1 h1 s1 e1⟩
theorem l_andV : ∀ σ H Q, lE K τ W (wAndV wa wb) σ H Q → tAndV (lE K τ W wa) (lE K τ W wb) σ H Q := by
  rintro σ H Q ⟨ρ, S, F, χ, Φ, e, hw, hx, hp⟩
  refine ⟨ρ, S, F, χ, _, e, hw, hx, fun x dx ρ1 S1 H1 h1 s1 i1 e1 => ?_⟩
  cases dx with
  | bl b =>
    cases i1
    refine ⟨b, rfl, ?_⟩
    cases b with
    | true => exact ⟨ρ1, S1, F, χ, _, e1, h1, hx.mono s1, fun v d ρ2 S2 H2 h2 s2 i2 e2 => hp v d ρ2 S2 H2 h2 (s1.trans s2) i2 e2⟩
    | false => exact hp _ _ ρ1 S1 H1 h1 s1 (.bl false) e1
  | _ => exact False.elim h1
theorem l_orV : ∀ σ H Q, lE K τ W (wOrV wa wb) σ H Q → tOrV (lE K τ W wa) (lE K τ W wb) σ H Q := by
  rintro σ H Q ⟨ρ, S, F, χ, Φ, e, hw, hx, hp⟩
  refine ⟨ρ, S, F, χ, _, e, hw, hx, fun x dx ρ1 S1 H1 h1 s1 i1 e1 => ?_⟩
  cases dx with
  | bl b =>
    cases i1
    refine ⟨b, rfl, ?_⟩
    cases b with
    | false => exact ⟨ρ1, S1, F, χ, _, e1, h1, hx.mono s1, fun v d ρ2 S2 H2 h2 s2 i2 e2 => hp v d ρ2 S2 H2 h2 (s1.trans s2) i2 e2⟩
    | true => exact hp _ _ ρ1 S1 H1 h1 s1 (.bl true) e1
  | _ => exact False.elim h1
theorem l_notV : ∀ σ H Q, lE K τ W (wNotV wa) σ H Q → tNotV (lE K τ W wa) σ H Q := by
  rintro σ H Q ⟨ρ, S, F, χ, Φ, e, hw, hx, hp⟩
  refine ⟨ρ, S, F, χ, _, e, hw, hx, fun x dx ρ1 S1 H1 h1 s1 i1 e1 => ?_⟩
  cases dx with
  | bl b => cases i1; exact ⟨b, rfl, hp _ _ ρ1 S1 H1 h1 s1 (.bl _) e1⟩
  | _ => exact False.elim h1
theorem l_if : ∀ σ H Q, lE K τ W (wIf wt wa wb) σ H Q → tIf (lT K τ W wt) (lE K τ W wa) (lE K τ W wb) σ H Q := by
  rintro σ H Q ⟨ρ, S, F, χ, Φ, e, hw, hx, hp⟩
  refine ⟨ρ, S, F, χ, _, e, hw, hx, fun b ρ1 S1 H1 h1 s1 e1 => ?_⟩
  cases b with
  | true => exact ⟨ρ1, S1, F, χ, _, e1, h1, hx.mono s1, fun v d ρ2 S2 H2 h2 s2 i2 e2 => hp v d ρ2 S2 H2 h2 (s1.trans s2) i2 e2⟩
  | false => exact ⟨ρ1, S1, F, χ, _, e1, h1, hx.mono s1, fun v d ρ2 S2 H2 h2 s2 i2 e2 => hp v d ρ2 S2 H2 h2 (s1.trans s2) i2 e2⟩
theorem l_chain {r r' : R2} {wr wr' : D → D → (D → Prop) → Prop} (hr : OpOk K τ r wr) (hr' : OpOk K τ r' wr') : ∀ σ H Q, lE K τ W (wChain wr wr' wa wb wc) σ H Q → tChain r r' (lE K τ W wa) (lE K τ W wb) (lE K τ W wc) σ H Q := by
  rintro σ H Q ⟨ρ, S, F, χ, Φ, e, hw, hx, hp⟩
  refine ⟨ρ, S, F, χ, _, e, hw, hx, fun x dx ρ1 S1 H1 h1 s1 i1 e1 => ?_⟩
  refine ⟨ρ1, S1, F, χ, _, e1, h1, hx.mono s1, fun y dy ρ2 S2 H2 h2 s2 i2 e2 => ?_⟩
  refine hr S2 F H2 ρ2 σ x y dx dy _ _ e2 (i1.mono s2) i2 h2 fun v d S3 H3 h3 s3 i3 e3 => ?_
  cases d with
  | bl b =>
    cases i3
    refine ⟨b, rfl, ?_⟩
    cases b with
    | true =>
      refine ⟨ρ2, S3, F, χ, _, e3, h3, hx.mono ((s1.trans s2).trans s3), fun u du ρ4 S4 H4 h4 s4 i4 e4 => ?_⟩
      exact hr' S4 F H4 ρ4 σ y u dy du _ Q e4 (i2.mono (s3.trans s4)) i4 h4 fun v d S5 H5 h5 s5 i5 e5 => hp v d ρ4 S5 H5 h5 ((((s1.trans s2).trans s3).trans s4).trans s5) i5 e5
    | false => exact hp _ _ ρ2 S3 H3 h3 ((s1.trans s2).trans s3) (.bl false) e3
  | _ => exact False.elim h3
end
end DL
set_option Elab.async false
set_option autoImplicit false
set_option linter.all false
set_option maxRecDepth 100000
set_option maxHeartbeats 3900000
namespace DL
open L2 PyProof.Rows PySem PySem.Spec
variable {τ : Tb}

/-! ### where code runs: what it may raise, how much room there is, no text is being made around it -/
structure Cok (X : Cx) (W : WX) (k : Nat) : Prop where
  tk : Takes X W
  gd : X.A.guards = some []
  rm : Room k X.A
theorem Cok.mono {X : Cx} {W : WX} {j k : Nat} (c : Cok X W k) (h : j ≤ k) : Cok X W j := ⟨c.tk, c.gd, c.rm.mono h⟩
theorem Cok.hu {X : Cx} {W : WX} {k : Nat} (c : Cok X W k) : X.A.units + 1 < cLine := hu_of c.rm
theorem takesB {X : Cx} {s : Shared} {H : Hp} {scope : Scope} {cenv : Env} {fp : List Addr} : Takes (X.blk s H scope cenv fp) W0 := fun _ _ x => by
  rcases x with ⟨_, _, _, _, _, _, _, _, _, _, _, _, _, _, _, _, z⟩; exact absurd z id
theorem Cok.blk {X : Cx} {W : WX} {k : Nat} (c : Cok X W k) (s : Shared) (H : Hp) (scope : Scope) (cenv : Env) (fp : List Addr) : Cok (X.blk s H scope cenv fp) W0 k := ⟨takesB, c.gd, c.rm⟩

/-! ### a def's promise -/
structure FnG (P : Program) (w : World) (K : Fg) (mg : Str → Option Value) (base : Heap) (k : Nat) (f : Addr) (fd : FuncData) (ps : List Str) (sp : Sp) : Prop where
  len : ∀ (vs : List V) (H : Hp) (Q : VK) (E : XK), sp vs H Q E → vs.length = ps.length
  run : ∀ (A : Around) (outer : List Env) (s : Shared) (H : Hp) (args : Args) (us : List Value) (vs : List V) (Q : VK) (E : XK), Room k A → A.guards = some [] → Env0 P w K mg base A outer s H → BindsTo s fd args (ps.zip us) → Vals vs us → sp vs H Q E →
    codeAny (model P w) A (.call (.ref f) args) (CR (L2.CX P w) outer P w H s Q E) s
theorem FnG.mono {P : Program} {w : World} {K : Fg} {mg : Str → Option Value} {base : Heap} {j k : Nat} {f : Addr} {fd : FuncData} {ps : List Str} {sp : Sp} (F : FnG P w K mg base j f fd ps sp) (h : j ≤ k) :
    FnG P w K mg base k f fd ps sp := ⟨F.len, fun A outer s H args us vs Q E hr => F.run A outer s H args us vs Q E (hr.mono h)⟩
/-- the code object of a def -/
def codeOf8 (K : Fg) (f : Addr) : Option Value := match K.lookup f with
  | some ⟨_, _, .func fd, _⟩ => some fd.code
  | _ => none
/-- the body's entry: one more level -/
theorem fnG_of {P : Program} {w : World} {K : Fg} {mg : Str → Option Value} {base : Heap} {x qual : Str} {params : Arguments} {body : List Stmt} {scope : Scope} {dvs : List V} {kws : List (Str × V)} {f : Addr} {fd : FuncData}
    {N ps : List Str} {k : Nat} {sp : Sp} (F : FunD K x qual params body scope dvs kws f fd) (S : FnScope N ps scope) (len : ∀ vs H Q E, sp vs H Q E → vs.length = ps.length)
    (hbody : ∀ (cdv : Value) (A : Around) (outer : List Env) (s : Shared) (H : Hp) (vs : List V) (Q : VK) (E : XK), codeOf8 K f = some cdv → Cok (cxOf (L2.CX P w) P w K mg base N qual scope f cdv A outer s H E) (fun cls d _ H' => E cls d H') k → sp vs H Q E →
      ∃ t, PSs (cxOf (L2.CX P w) P w K mg base N qual scope f cdv A outer s H E) body t ∧ t { nx := fun _ H' => Q .non H', rt := Q } (start N vs) H) :
    FnG P w K mg base (k + 1) f fd ps sp := by
  obtain ⟨_, _, dV, kV, doc, pm, an, cdv, ct, _, rfl, lk, hcd, _, _⟩ := F.ex; refine ⟨len, fun A outer s H args us vs Q E hr hg e0 hb r hsp => ?_⟩
  have hl := len _ _ _ _ hsp
  have kin : K.In s.heap := e0.mod.kin.keeps fun _ _ z => (e0.bs _ _ z).1
  have lim : s.heap.NoLimit := e0.mod.nolimit.keeps fun _ _ z => (e0.bs _ _ z).1
  have kinds := fun (y : Str × Value) (hy : y ∈ ps.zip us) => (S.par y.1 (List.of_mem_zip (a := y.1) (b := y.2) hy).1).imp id fun q => And.intro q (PySem.W.cellsFrom_some scope.names (s.heap.objs.size + 1) [] (.inl q))
  refine codeAny_call_function hr.depth (kin _ _ lk) rfl S.co S.gen rfl (PySem.W.codeRec_of kin hcd) (hb _ _ _ _ (wpAny_newFunctionEnv_cells S.kind kinds fun env he s1 x => ?_))
  cases he; refine ⟨lim.keeps x.toInCall.keep, codeAny_func ?_⟩
  obtain ⟨t, ht, hq⟩ := hbody cdv A outer s H vs Q E (by unfold codeOf8; rw [lk]) ⟨takes_of rfl rfl rfl rfl, hg, hr.deeper _⟩ hsp
  have I : Inv (cxOf (L2.CX P w) P w K mg base N qual scope f cdv A outer s H E) [] (start N vs) H s1 := inv_start S hr.hd e0 hl r x
  refine wpAny_mono (ht.run [] s1 _ H _ I hq) (fun fl s' hs => ?_) fun _ _ z => z
  have fin : ∀ {σ' : L2.St} {H' : Hp} {v : V} {u : Value}, Inv (cxOf (L2.CX P w) P w K mg base N qual scope f cdv A outer s H E) [] σ' H' s' → RelV v u → Q v H' → CE outer P w H s Q u s' :=
    fun J rv q => ⟨_, _, J.os, J.bare, J.base, J.hok, rv, q⟩
  cases fl with
  | ret u =>
    obtain ⟨_, _, _, J, rv, q⟩ := hs; exact fin J rv q
  | next =>
    obtain ⟨σ', H', J, q⟩ := hs
    exact fin (u := .none) (v := .non) J rfl q
  | brk =>
    obtain ⟨_, _, _, q⟩ := hs
    exact False.elim q
  | cont =>
    obtain ⟨_, _, _, q⟩ := hs
    exact False.elim q

section
variable {X : Cx} {W : WX} {k n : Nat} {f C : Addr} {fd : FuncData} {ps ks : List Str} {sp : Sp} {x : Str} {p pos : Pos} {e : Expr} {es : List Expr} {kws : List Keyword} {t tk : TA} {g : List Value → List Value → List Value} {gV : List V → List V → List V}
/-- f(..): E tells by the slots what is wanted of an exception -/
def tCallG (W : WX) (n m : Nat) (sp : Sp) (gV : List V → List V → List V) (t tk : TA) : TE := fun σ H Q => t σ H fun vs H1 => tk σ H1 fun zs H2 => vs.length = n ∧ zs.length = m ∧ sp (gV vs zs) H2 Q fun cls d H' => W cls d σ H'
theorem run_g {pn : List (Addr × Obj)} {σ : L2.St} {H : Hp} {s : Shared} {Q : VK} {us ws : List Value} {vs zs : List V} (F : FnG X.prog X.w X.K X.mg X.base k f fd ps sp) (c : Cok X W k) (hb : KBn X.K fd ps n ks g gV)
    (I : Inv X pn σ H s) (r : Vals vs us) (rz : Vals zs ws) (l1 : vs.length = n) (l2 : zs.length = ks.length) (h : sp (gV vs zs) H Q fun cls d H' => W cls d σ H') : wpAny (model X.prog X.w) X.A (call (.ref f) us (ks.zip ws)) (EP X pn σ Q) X.xe s := by
  have r2 := hb.rel r rz
  refine wpAny_call (codeAny_mono (F.run X.A X.stack s H ⟨us, ks.zip ws⟩ (g us ws) (gV vs zs) Q _ c.rm c.gd I.env0 (hb.to s us ws I.kIn (r.length.symm.trans l1) (rz.length.symm.trans l2)) r2 h) fun r s' hq => ?_)
  cases r with
  | error e => exact c.tk e s' (XE.of_call I (fun cls d H' h => h) hq)
  | ok fl =>
    cases fl with
    | ret u => exact I.after hq
    | next => exact False.elim hq
    | brk => exact False.elim hq
    | cont => exact False.elim hq
/-- f(e, ..) -/
theorem pe_g (F : FnG X.prog X.w X.K X.mg X.base k f fd ps sp) (c : Cok X W k) (hg : Gl X x) (hm : X.mg x = some (.ref f)) (hk : PySem.W.keepIn X.K (.ref f) = true) (hb : KBn X.K fd ps n [] g gV)
    (ha : PA X (e :: es) t) (hpl : (backTo pos (starEach es X.env)).any (·.1) = false := by rfl) (hdb : (x == ("__debug__" : Str)) = false := by decide) (he : starEach (e :: es) X.env = (false, eval e X.env) :: starEach es X.env := by rfl) :
    PE X (.Call (.Name x p) (e :: es) [] pos) (tCallG W n 0 sp gV t tNil) := by
  refine ⟨fun pn s σ H Q I h => ?_⟩
  refine wpAny_Call_Name_kw (ld_glob I hg hm (?_) hdb) <;> refine PySem.W.callWith_K (h₀ := X.base) I.ok.mod.kin hk (thn (ha.run pos pn s σ H _ I h) fun us s1 ⟨vs, H1, i1, r, l1, l2, q⟩ => ⟨i1.kIn, ?_⟩) he hpl
  have z := run_g (ws := []) (zs := []) F c hb i1 r .nil l1 l2 q
  exact z
/-- f(e, .., k = v, ..) -/
theorem pe_gk (F : FnG X.prog X.w X.K X.mg X.base k f fd ps sp) (c : Cok X W k) (hg : Gl X x) (hm : X.mg x = some (.ref f)) (hk : PySem.W.keepIn X.K (.ref f) = true) (hb : KBn X.K fd ps n ks g gV)
    (ha : PA X (e :: es) t) (hkw : PK X kws tk)
    (hall : ((backToKw pos (keywordEach kws X.env)).all (·.1.isSome)) = true := by rfl) (hks : (backToKw pos (keywordEach kws X.env)).filterMap (·.1) = ks := by rfl)
    (he : starEach (e :: es) X.env = (false, eval e X.env) :: starEach es X.env := by rfl) (hdb : (x == ("__debug__" : Str)) = false := by decide) (hpl : ((backTo pos (starEach (e :: es) X.env)).any (·.1) || (backToKw pos (keywordEach kws X.env)).any (·.1.isNone)) = false := by rfl) :
    PE X (.Call (.Name x p) (e :: es) kws pos) (tCallG W n ks.length sp gV t tk) := by
  refine ⟨fun pn s σ H Q I h => ?_⟩
  refine wpAny_Call_Name_kw (ld_glob I hg hm (?_) hdb) <;> refine PySem.W.callWith_KW (h₀ := X.base) I.ok.mod.kin hk hall (thn (ha.run pos pn s σ H _ I h) fun us s1 ⟨vs, H1, i1, r, q⟩ => ?_) hpl he
  refine thn (hkw.run pos pn s1 σ H1 _ i1 q) fun ws s2 ⟨zs, H2, i2, rz, l1, l2, q2⟩ => ⟨i2.kIn, ?_⟩
  rw [hks]
  exact run_g F c hb i2 r rz l1 l2 q2
/-- f(k = v, ..) -/
theorem pe_gk0 (F : FnG X.prog X.w X.K X.mg X.base k f fd ps sp) (c : Cok X W k) (hg : Gl X x) (hm : X.mg x = some (.ref f)) (hk : PySem.W.keepIn X.K (.ref f) = true) (hb : KBn X.K fd ps 0 ks g gV)
    (hkw : PK X kws tk) (hall : (backToKw pos (keywordEach kws X.env)).all (·.1.isSome) = true := by rfl) (hks : (backToKw pos (keywordEach kws X.env)).filterMap (·.1) = ks := by rfl)
    (hpl : ((backTo pos (starEach [] X.env)).any (·.1) || (backToKw pos (keywordEach kws X.env)).any (·.1.isNone)) = false := by rfl) (hdb : (x == ("__debug__" : Str)) = false := by decide) :
    PE X (.Call (.Name x p) [] kws pos) (tCallG W 0 ks.length sp gV tNil tk) := by
  refine ⟨fun pn s σ H Q I h => ?_⟩
  refine wpAny_Call_Name_kw (ld_glob I hg hm (?_) hdb) <;> refine PySem.W.callWith_KW0 (h₀ := X.base) I.ok.mod.kin hk hall ?_ hpl
  refine thn (hkw.run pos pn s σ H _ I h) fun ws s2 ⟨zs, H2, i2, rz, l1, l2, q2⟩ => ⟨i2.kIn, ?_⟩
  rw [hks]
  exact run_g (us := []) (vs := []) F c hb i2 .nil rz rfl l2 q2
/-- C(..), C(k = v, ..): an instance, then __init__ -/
def tMakeG (W : WX) (C : Addr) (n m : Nat) (sp : Sp) (gV : List V → List V → List V) (t tk : TA) : TE := fun σ H Q => t σ H fun vs H1 => tk σ H1 fun zs H2 => vs.length = n ∧ zs.length = m ∧
  ∀ x dx, H2 x = none → H2 dx = none → dx ≠ x → sp (gV (.ref x :: vs) zs) (upd (upd H2 dx (.own x)) x (.ins C dx [])) (fun v H3 => v = .non ∧ Q (.ref x) H3) fun cls d H' => W cls d σ H'
theorem run_makeG {pn : List (Addr × Obj)} {σ : L2.St} {H : Hp} {s : Shared} {Q : VK} {us ws : List Value} {vs zs : List V} (M : Mk X.K C f) (F : FnG X.prog X.w X.K X.mg X.base k f fd ps sp) (c : Cok X W (k + 1)) (hb : KBn X.K fd ps (n + 1) ks g gV)
    (I : Inv X pn σ H s) (r : Vals vs us) (rz : Vals zs ws) (l1 : vs.length = n) (l2 : zs.length = ks.length)
    (h : ∀ x dx, H x = none → H dx = none → dx ≠ x → sp (gV (.ref x :: vs) zs) (upd (upd H dx (.own x)) x (.ins C dx [])) (fun v H2 => v = .non ∧ Q (.ref x) H2) fun cls d H' => W cls d σ H') :
    wpAny (model X.prog X.w) X.A (call (.ref C) us (ks.zip ws)) (EP X pn σ Q) X.xe s := by
  have hq := h _ _ (I.hok.fresh (a := s.heap.objs.size + 1) (Nat.le_succ _)) (I.hok.fresh (a := s.heap.objs.size) (Nat.le_refl _)) (Nat.ne_of_lt (Nat.lt_succ_self _))
  have i2 := Inv.made (C := C) I
  have r2 := hb.rel (show Vals (V.ref _ :: vs) (Value.ref (s.heap.objs.size + 1) :: us) from .cons rfl r) rz
  have n1 : us.length + 1 = n + 1 := congrArg (· + 1) (r.length.symm.trans l1)
  have gd : (X.A.under (.builtin "type.__call__" ⟨.ref C :: us, ks.zip ws⟩)).guards = some [] := by
    rw [← c.gd]
    simp [Around.under, pushGuards, Code.guards, Code.isGuard, guardIds]
  refine wpAny_call (make_map (f := f) I.kIn M.makes M.init (beq_iff_eq.mp M.fn) (codeAny_mono (F.run _ X.stack _ _ ⟨Value.ref (s.heap.objs.size + 1) :: us, ks.zip ws⟩ (g (Value.ref (s.heap.objs.size + 1) :: us) ws) _ _ _ (c.rm.make C us (ks.zip ws)) gd
    (i2.env0.make C us (ks.zip ws)) (hb.to _ (Value.ref (s.heap.objs.size + 1) :: us) ws i2.kIn n1 (rz.length.symm.trans l2)) r2 hq) fun r s' hq' => ?_))
  cases r with
  | error e => exact c.tk e s' (XE.of_call i2 (fun cls d H' h => h) hq')
  | ok fl =>
    cases fl with
    | ret u =>
      obtain ⟨v, H', i3, rv, ev, q3⟩ := i2.after hq'
      subst ev
      exact ⟨rv, ⟨V.ref (s.heap.objs.size + 1), H', i3, rfl, q3⟩⟩
    | next => cases hq'
    | brk => cases hq'
    | cont => cases hq'
theorem pe_mk (M : Mk X.K C f) (F : FnG X.prog X.w X.K X.mg X.base k f fd ps sp) (c : Cok X W (k + 1)) (hg : Gl X x) (hm : X.mg x = some (.ref C)) (hb : KBn X.K fd ps (n + 1) [] g gV)
    (ha : PA X (e :: es) t) (hpl : (backTo pos (starEach es X.env)).any (·.1) = false := by rfl) (hdb : (x == ("__debug__" : Str)) = false := by decide) (he : starEach (e :: es) X.env = (false, eval e X.env) :: starEach es X.env := by rfl) :
    PE X (.Call (.Name x p) (e :: es) [] pos) (tMakeG W C n 0 sp gV t tNil) := by
  refine ⟨fun pn s σ H Q I h => ?_⟩
  refine wpAny_Call_Name_kw (ld_glob I hg hm (?_) hdb) <;> refine PySem.W.callWith_K (h₀ := X.base) I.ok.mod.kin M.kp (thn (ha.run pos pn s σ H _ I h) fun us s1 ⟨vs, H1, i1, r, l1, l2, q⟩ => ⟨i1.kIn, ?_⟩) he hpl
  have z := run_makeG (ws := []) (zs := []) M F c hb i1 r .nil l1 l2 q
  exact z
theorem pe_mkk0 (M : Mk X.K C f) (F : FnG X.prog X.w X.K X.mg X.base k f fd ps sp) (c : Cok X W (k + 1)) (hg : Gl X x) (hm : X.mg x = some (.ref C)) (hb : KBn X.K fd ps 1 ks g gV)
    (hkw : PK X kws tk) (hall : (backToKw pos (keywordEach kws X.env)).all (·.1.isSome) = true := by rfl) (hks : (backToKw pos (keywordEach kws X.env)).filterMap (·.1) = ks := by rfl) 
    (hdb : (x == ("__debug__" : Str)) = false := by decide) (hpl : ((backTo pos (starEach [] X.env)).any (·.1) || (backToKw pos (keywordEach kws X.env)).any (·.1.isNone)) = false := by rfl) :
    PE X (.Call (.Name x p) [] kws pos) (tMakeG W C 0 ks.length sp gV tNil tk) := by
  refine ⟨fun pn s σ H Q I h => ?_⟩
  refine wpAny_Call_Name_kw (ld_glob I hg hm (?_) hdb) <;> refine PySem.W.callWith_KW0 (h₀ := X.base) I.ok.mod.kin M.kp hall ?_ hpl
  refine thn (hkw.run pos pn s σ H _ I h) fun ws s2 ⟨zs, H2, i2, rz, l1, l2, q2⟩ => ⟨i2.kIn, ?_⟩
  rw [hks]
  exact run_makeG (us := []) (vs := []) M F c hb i2 .nil rz rfl l2 q2
end

/-! ### what a def means for data: at most one object of the caller's own, the first argument -/
abbrev Spc := Option OD → List D → (D → Option OD → Prop) → (Addr → Str → D → Prop) → Prop
def args (h : Option (Addr × OD)) (ds : List D) : Rho := (match h with
  | none => []
  | some p => [.own p.1 p.2]) ++ ds.map .val
def lSp (K : Fg) (t : List (Addr × Str)) (n : Nat) (sp : Spc) : Sp := fun vs H Q E => ∃ S F h ds Ψ Ξ, vs.length = n ∧ ER K (tb0 t) S F H (args h ds) (vs.map some) ∧ sp (h.map (·.2)) ds Ψ Ξ ∧
  (∀ d v o' S' H', Ψ d o' → o'.isSome = h.isSome → Same S S' → Is K S' v d → ER K (tb0 t) S' F H' (args (h.bind fun p => o'.map fun o => (p.1, o)) ds) (vs.map some) → Q v H') ∧
  (∀ C f d v dd S' H', Ξ C f d → Same S S' → Same S' H' → TbOk (tb0 t) S' F H' → (∀ a o, F a = some o → H' a = some o ∧ S' a = none) → S' dd = some (.xd [(f, v)]) → Is K S' v d → E (.ref C) (some dd) H')
theorem ER.vals {K : Fg} {S F H : Hp} {ρ : Rho} {σ : L2.St} (e : ER K τ S F H ρ σ) : Same S H := e.ex
theorem args_none (ds : List D) : args none ds = ds.map .val := rfl
theorem er_args {K : Fg} {S F H : Hp} {vs : List V} {ds : List D} (hi : IsAll K S vs ds) (ex : Same S H) (tb : TbOk τ S F H) (fr : ∀ a o, F a = some o → H a = some o ∧ S a = none) : ER K τ S F H (args none ds) (vs.map some) := by
  rw [args_none]
  refine ⟨by rw [List.length_map, List.length_map, hi.length], ex, fr, fun i d h => ?_, fun i l od h => ?_, fun i j l o o' h _ => ?_, tb⟩
  · rw [List.getElem?_map] at h
    cases q : ds[i]? with
    | none => rw [q] at h; cases h
    | some d' =>
      rw [q] at h
      have e' : Sl.val d' = Sl.val d := Option.some.inj h
      cases e'
      obtain ⟨v, h1, h2⟩ := hi.get q
      exact ⟨v, by rw [List.getElem?_map, h1]; rfl, h2⟩
  · rw [List.getElem?_map] at h
    cases q : ds[i]? with
    | none => rw [q] at h; cases h
    | some d' => rw [q] at h; cases h
  · rw [List.getElem?_map] at h
    cases q : ds[i]? with
    | none => rw [q] at h; cases h
    | some d' => rw [q] at h; cases h
theorem ER.nTb {K : Fg} {S F H : Hp} {ρ : Rho} {σ : L2.St} (e : ER K τ S F H ρ σ) {i : Nat} {l : Addr} {od : OD} (h : ρ[i]? = some (Sl.own l od)) : l ∉ τ.t.map (·.1) := fun z => by
  obtain ⟨q, hq, rfl⟩ := List.mem_map.mp z
  obtain ⟨-, -, -, o, h4, h5⟩ := e.own _ _ _ h
  obtain ⟨ps, h6⟩ := e.tb.at hq
  rw [h4] at h6; exact h5.notX.1 ps (Option.some.inj h6)
/-- a caller's view behind a call that owned nothing -/
theorem ER.back {K : Fg} {S F H S' Fc H' : Hp} {ρ : Rho} {σ : L2.St} (e : ER K τ S F H ρ σ) (s : Same S S') (ex : Same S' H') (tT : LamX.Tabs τ.t H') (tS : ∀ p ∈ τ.t, S' p.1 = none) (fc : ∀ a o, a ∉ τ.t.map (·.1) → S a = none → H a = some o → Fc a = some o) (fr : ∀ a o, Fc a = some o → H' a = some o ∧ S' a = none) : ER K τ S' F H' ρ σ := by
  have nt : ∀ a o, F a = some o → a ∉ τ.t.map (·.1) := fun a o h z => by
    obtain ⟨q, hq, rfl⟩ := List.mem_map.mp z
    rw [e.tb.nF q hq] at h; cases h
  refine ⟨e.len, ex, fun a o h => ?_, fun i d h => ?_, fun i l od h => ?_, e.dis, ⟨tT, tS, e.tb.nF, fun a o h => s _ _ (e.tb.ks a o h), e.tb.kf⟩⟩
  · obtain ⟨h1, h2⟩ := e.fr a o h
    exact fr a o (fc a o (nt a o h) h2 h1)
  · obtain ⟨v, h1, h2⟩ := e.val i d h
    exact ⟨v, h1, h2.mono s⟩
  · have nl := e.nTb h
    obtain ⟨h1, h2, h3, o, h4, h5⟩ := e.own i l od h
    obtain ⟨h6, h7⟩ := fr l o (fc l o nl h2 h4)
    exact ⟨h1, h7, h3, o, h6, h5.mono s⟩
open Classical in
/-- all that is there, but what never changes and what the callee owns -/
noncomputable def others (t : List (Addr × Str)) (S H : Hp) (p : Addr → Prop) : Hp := fun a => if p a ∨ a ∈ t.map (·.1) then none else if S a = none then H a else none
theorem others_of {S H : Hp} {p : Addr → Prop} {a : Addr} {o : HO} (h0 : a ∉ τ.t.map (·.1)) (h1 : ¬ p a) (h2 : S a = none) (h3 : H a = some o) : others τ.t S H p a = some o := by
  unfold others; rw [if_neg (fun z => z.elim h1 h0), if_pos h2]; exact h3
theorem others_inv {S H : Hp} {p : Addr → Prop} {a : Addr} {o : HO} (h : others τ.t S H p a = some o) : ¬ p a ∧ S a = none ∧ H a = some o := by
  unfold others at h
  split at h
  · cases h
  · split at h
    · rename_i h1 h2; exact ⟨fun z => h1 (.inl z), h2, h⟩
    · cases h
theorem others_tb {S H : Hp} {p : Addr → Prop} {q : Addr × Str} (h : q ∈ τ.t) : others τ.t S H p q.1 = none := by
  unfold others; rw [if_pos (.inr (List.mem_map.mpr ⟨q, h, rfl⟩))]
theorem TbOk.oth {S F H : Hp} {p : Addr → Prop} {S' H' : Hp} (t : TbOk τ S F H) : TbOk (tb0 τ.t) S (others τ.t S' H' p) H := ⟨t.tab, t.nS, fun _ h => others_tb h, (fun _ _ z => nomatch z), fun _ _ z => nomatch z⟩
/-- f(..), all its arguments data -/
def wCallA (n m : Nat) (sp : Spc) (gD : List D → List D → List D) (wa wk : WL) : WE := fun ρ χ Φ => wa ρ χ fun ds ρ1 => wk ρ1 χ fun zs ρ2 => ds.length = n ∧ zs.length = m ∧ sp none (gD ds zs) (fun d _ => Φ d ρ2) fun C f d => χ C f d ρ2
/-- f(x, ..), x the slot i, an object of one's own -/
def wCallB (i : Nat) (n : Nat) (sp : Spc) (wa : WL) : WE := fun ρ χ Φ => (∃ l o, ρ[i]? = some (Sl.own l o)) ∧ wa ρ χ fun ds ρ1 => ds.length = n ∧ match ρ1[i]? with
  | some (.own l o) => sp (some o) ds (fun d o' => ∃ o2, o' = some o2 ∧ Φ d (ρ1.set i (.own l o2))) fun _ _ _ => False
  | _ => False
theorem er_argsO {K : Fg} {S F H : Hp} {vs : List V} {ds : List D} {l : Addr} {o : HO} {od : OD} (hi : IsAll K S vs ds) (ex : Same S H) (tb : TbOk τ S F H) (fr : ∀ a o, F a = some o → H a = some o ∧ S a = none) (h1 : H l = some o) (h2 : S l = none) (h3 : F l = none) (h4 : OIs K S o od) :
    ER K τ S F H (args (some (l, od)) ds) ((V.ref l :: vs).map some) := by
  have e := er_args hi ex tb fr
  have nov : ∀ (j : Nat) (m : Addr) (o2 : OD), (ds.map Sl.val)[j]? ≠ some (Sl.own m o2) := fun j m o2 h => by
    rw [List.getElem?_map] at h
    cases q : ds[j]? with
    | none => rw [q] at h; cases h
    | some d' => rw [q] at h; cases h
  refine ⟨congrArg Nat.succ e.len, ex, fr, fun i d h => ?_, fun i m o2 h => ?_, fun i j m o1 o2 a b => ?_, tb⟩
  · cases i with
    | zero => cases h
    | succ i => exact e.val i d h
  · cases i with
    | zero =>
      have h' : Sl.own l od = Sl.own m o2 := Option.some.inj h
      cases h'
      exact ⟨rfl, h2, h3, o, h1, h4⟩
    | succ i => exact absurd h (nov i m o2)
  · cases i with
    | zero =>
      cases j with
      | zero => rfl
      | succ j => exact absurd b (nov j m o2)
    | succ i => exact absurd a (nov i m o1)
/-- a caller's view behind a call that owned the object of the slot i -/
theorem ER.backO {K : Fg} {S F H S' Fc H' : Hp} {ρ : Rho} {σ : L2.St} {i : Nat} {l : Addr} {o : OD} {o2 : HO} {od2 : OD} (e : ER K τ S F H ρ σ) (hi : ρ[i]? = some (Sl.own l o)) (s : Same S S') (ex : Same S' H') (tT : LamX.Tabs τ.t H') (tS : ∀ p ∈ τ.t, S' p.1 = none) (fc : ∀ a o, a ∉ τ.t.map (·.1) → a ≠ l → S a = none → H a = some o → Fc a = some o) (fr : ∀ a o, Fc a = some o → H' a = some o ∧ S' a = none)
    (h1 : H' l = some o2) (h2 : S' l = none) (h4 : OIs K S' o2 od2) : ER K τ S' F H' (ρ.set i (.own l od2)) σ := by
  obtain ⟨b1, b2, b3, ob, b4, b5⟩ := e.own i l o hi
  have hil : i < ρ.length := (List.getElem?_eq_some_iff.mp hi).1
  have nt : ∀ a o, F a = some o → a ∉ τ.t.map (·.1) := fun a o h z => by
    obtain ⟨q, hq, rfl⟩ := List.mem_map.mp z
    rw [e.tb.nF q hq] at h; cases h
  refine ⟨by rw [List.length_set]; exact e.len, ex, fun a o h => ?_, fun j d h => ?_, fun j m od h => ?_, fun j k m o1 o3 q1 q2 => ?_, ⟨tT, tS, e.tb.nF, fun a o h => s _ _ (e.tb.ks a o h), e.tb.kf⟩⟩
  · obtain ⟨a1, a2⟩ := e.fr a o h
    exact fr a o (fc a o (nt a o h) (fun z => by rw [z, b3] at h; cases h) a2 a1)
  · by_cases hj : j = i
    · subst hj; rw [List.getElem?_set_self hil] at h; cases h
    · rw [List.getElem?_set_ne (Ne.symm hj)] at h
      obtain ⟨v, a1, a2⟩ := e.val j d h
      exact ⟨v, a1, a2.mono s⟩
  · by_cases hj : j = i
    · subst hj; rw [List.getElem?_set_self hil] at h; cases h
      exact ⟨b1, h2, b3, o2, h1, h4⟩
    · rw [List.getElem?_set_ne (Ne.symm hj)] at h
      obtain ⟨a1, a2, a3, o4, a4, a5⟩ := e.own j m od h
      have ne : m ≠ l := fun z => by subst z; exact hj (e.dis _ _ _ _ _ h hi)
      obtain ⟨a6, a7⟩ := fr m o4 (fc m o4 (e.nTb h) ne a2 a4)
      exact ⟨a1, a7, a3, o4, a6, a5.mono s⟩
  · have back : ∀ {k : Nat} {o1 : OD}, (ρ.set i (.own l od2))[k]? = some (Sl.own m o1) → ∃ o3, ρ[k]? = some (Sl.own m o3) := fun {k o1} q => by
      by_cases hk : k = i
      · subst hk; rw [List.getElem?_set_self hil] at q; cases q; exact ⟨o, hi⟩
      · rw [List.getElem?_set_ne (Ne.symm hk)] at q; exact ⟨o1, q⟩
    obtain ⟨o5, q3⟩ := back q1
    obtain ⟨o6, q4⟩ := back q2
    exact e.dis _ _ _ _ _ q3 q4
section
variable {K : Fg} {W : WX} {sp : Spc} {n m N : Nat} {gV : List V → List V → List V} {gD : List D → List D → List D} {wa wk : WL}
def GRel (n m N : Nat) (gV : List V → List V → List V) (gD : List D → List D → List D) : Prop := ∀ (K : Fg) (S : Hp) vs ds us es, IsAll K S vs ds → IsAll K S us es → vs.length = n → us.length = m → IsAll K S (gV vs us) (gD ds es) ∧ (gV vs us).length = N
theorem l_callA (hg : GRel n m N gV gD) : ∀ σ H Q, lE K τ W (wCallA n m sp gD wa wk) σ H Q → tCallG W n m (lSp K τ.t N sp) gV (lL K τ W wa) (lL K τ W wk) σ H Q := by
  rintro σ H Q ⟨ρ, S, F, χ, Φ, e, hw, hx, hp⟩
  refine ⟨ρ, S, F, χ, _, e, hw, hx, fun vs ds ρ1 S1 H1 h1 s1 i1 e1 => ?_⟩
  refine ⟨ρ1, S1, F, χ, _, e1, h1, hx.mono s1, fun us es ρ2 S2 H2 h2 s2 i2 e2 => ?_⟩
  obtain ⟨l1, l2, h3⟩ := h2
  have l1' : vs.length = n := by rw [i1.length]; exact l1
  have l2' : us.length = m := by rw [i2.length]; exact l2
  obtain ⟨ig, lg⟩ := hg K S2 vs ds us es (i1.mono s2) i2 l1' l2'
  refine ⟨l1', l2', S2, others τ.t S2 H2 fun _ => False, none, _, _, _, lg, er_args ig e2.ex e2.tb.oth fun a o h => ?_, h3, fun d v o' S' H' q _ s' iv er => ?_, fun C f d v dd S' H' q s' ex tb fr hd iv => ?_⟩
  · obtain ⟨_, a1, a2⟩ := others_inv h
    exact ⟨a2, a1⟩
  · exact hp v d ρ2 S' H' q ((s1.trans s2).trans s') iv (e2.back s' er.ex er.tb.tab er.tb.nS (fun a o n a1 a2 => others_of n (fun z => z) a1 a2) er.fr)
  · exact hx C f d v dd ρ2 S' σ H' q ((s1.trans s2).trans s') (e2.back s' ex tb.tab tb.nS (fun a o n a1 a2 => others_of n (fun z => z) a1 a2) fr) hd iv
theorem l_callB {i : Nat} (hg : ∀ vs, gV vs [] = vs) : ∀ σ H Q, lE K τ W (wCallB i n sp wa) σ H Q → tCallG W (n + 1) 0 (lSp K τ.t (n + 1) sp) gV (tCons (tVar i) (lL K τ W wa)) tNil σ H Q := by
  rintro σ H Q ⟨ρ, S, F, χ, Φ, e, ⟨⟨l, o, hl⟩, hw⟩, hx, hp⟩
  obtain ⟨hσ, _⟩ := e.own i l o hl
  refine ⟨.ref l, hσ, ρ, S, F, χ, _, e, hw, hx, fun vs ds ρ1 S1 H1 h1 s1 i1 e1 => ?_⟩
  obtain ⟨l1, h2⟩ := h1
  have l1' : vs.length = n := by rw [i1.length]; exact l1
  split at h2
  · rename_i l' o' hl'
    obtain ⟨b1, b2, b3, ob, b4, b5⟩ := e1.own i l' o' hl'
    rw [hσ] at b1
    cases b1
    refine ⟨by rw [List.length_cons, l1'], rfl, S1, others τ.t S1 H1 (fun a => a = l), some (l, o'), ds, _, _, by rw [hg, List.length_cons, l1'], ?_, h2, fun d v o2 S' H' q hs s' iv er => ?_, fun C f d v dd S' H' q => q.elim⟩
    · rw [hg]
      exact er_argsO i1 e1.ex e1.tb.oth (fun a o h => by obtain ⟨_, a1, a2⟩ := others_inv h; exact ⟨a2, a1⟩) b4 b2 (by unfold others; rw [if_pos (.inl rfl)]) b5
    · obtain ⟨od2, rfl, q⟩ := q
      rw [hg] at er
      obtain ⟨_, c2, _, o3, c4, c5⟩ := er.own 0 l od2 rfl
      exact hp v d _ S' H' q (s1.trans s') iv (e1.backO hl' s' er.ex er.tb.tab er.tb.nS (fun a o n a0 a1 a2 => others_of (p := fun a => a = l) n a0 a1 a2) er.fr c4 c2 c5)
  · exact h2.elim
end
end DL
set_option Elab.async false
set_option autoImplicit false
set_option linter.all false
set_option maxRecDepth 100000
set_option maxHeartbeats 3900000
namespace DL
open L2 PyProof.Rows PySem PySem.Spec
variable {τ : Tb}

/-! ### statements -/
def DE.withNx (Δ : DE) (n : Rho → Prop) : DE := { Δ with nx := n }
def wSeq (w u : WS) : WS := fun ρ Δ => w ρ { Δ with nx := fun ρ' => u ρ' Δ }
def wNext : WS := fun ρ Δ => Δ.nx ρ
def wBreak : WS := fun ρ Δ => Δ.bk ρ
def wCont : WS := fun ρ Δ => Δ.ct ρ
def wAsg (i : Nat) (wa : WE) : WS := fun ρ Δ => wa ρ Δ.xc fun d ρ1 => Δ.nx (ρ1.set i (.val d))
def wRet (wa : WE) : WS := fun ρ Δ => wa ρ Δ.xc fun d ρ1 => Δ.rt d ρ1
def wRetN : WS := fun ρ Δ => Δ.rt .non ρ
def wDrop (wa : WE) : WS := fun ρ Δ => wa ρ Δ.xc fun _ ρ1 => Δ.nx ρ1
def wIfS (wt : WT) (w u : WS) : WS := fun ρ Δ => wt ρ Δ.xc fun b ρ1 => if b = true then w ρ1 Δ else u ρ1 Δ
section
variable {K : Fg} {W : WX} {wa wb : WE} {wt : WT} {w u : WS}
theorem l_seq : ∀ D σ H, lS K τ W (wSeq w u) D σ H → tSeq (lS K τ W w) (lS K τ W u) D σ H := by
  rintro D σ H ⟨ρ, S, F, Δ, e, hw, hx, h1, h2, h3, h4, h5⟩
  refine ⟨ρ, S, F, _, e, hw, hx, fun ρ' S' σ' H' q s' e' => ?_, h2, h3, h4, h5⟩
  exact ⟨ρ', S', F, Δ, e', q, hx.mono s', fun ρ2 S2 σ2 H2 a b c => h1 ρ2 S2 σ2 H2 a (s'.trans b) c, fun d v ρ2 S2 σ2 H2 a b c f => h2 d v ρ2 S2 σ2 H2 a (s'.trans b) c f,
    fun ρ2 S2 σ2 H2 a b c => h3 ρ2 S2 σ2 H2 a (s'.trans b) c, fun ρ2 S2 σ2 H2 a b c => h4 ρ2 S2 σ2 H2 a (s'.trans b) c, fun l od o ρ2 S2 σ2 H2 a b => h5 l od o ρ2 S2 σ2 H2 a (s'.trans b)⟩
theorem l_next : ∀ D σ H, lS K τ W wNext D σ H → tNext D σ H := by
  rintro D σ H ⟨ρ, S, F, Δ, e, hw, hx, h1, h2, h3, h4, h5⟩
  exact h1 ρ S σ H hw (Same.refl S) e
theorem l_brk : ∀ D σ H, lS K τ W wBreak D σ H → tBreak D σ H := by
  rintro D σ H ⟨ρ, S, F, Δ, e, hw, hx, h1, h2, h3, h4, h5⟩
  exact h3 ρ S σ H hw (Same.refl S) e
theorem l_cnt : ∀ D σ H, lS K τ W wCont D σ H → tCont D σ H := by
  rintro D σ H ⟨ρ, S, F, Δ, e, hw, hx, h1, h2, h3, h4, h5⟩
  exact h4 ρ S σ H hw (Same.refl S) e
theorem l_asg {i : Nat} : ∀ D σ H, lS K τ W (wAsg i wa) D σ H → tAsg (lE K τ W wa) (gName i) D σ H := by
  rintro D σ H ⟨ρ, S, F, Δ, e, hw, hx, h1, h2, h3, h4, h5⟩
  exact ⟨ρ, S, F, _, _, e, hw, hx, fun v d ρ' S' H' q s' iv e' => h1 _ S' _ H' q s' (e'.set iv)⟩
theorem l_ret : ∀ D σ H, lS K τ W (wRet wa) D σ H → tRet (lE K τ W wa) D σ H := by
  rintro D σ H ⟨ρ, S, F, Δ, e, hw, hx, h1, h2, h3, h4, h5⟩
  exact ⟨ρ, S, F, _, _, e, hw, hx, fun v d ρ' S' H' q s' iv e' => h2 d v _ S' _ H' q s' iv e'⟩
theorem l_retN : ∀ D σ H, lS K τ W wRetN D σ H → tRetN D σ H := by
  rintro D σ H ⟨ρ, S, F, Δ, e, hw, hx, h1, h2, h3, h4, h5⟩
  exact h2 .non .non ρ S σ H hw (Same.refl S) .non e
theorem l_drop : ∀ D σ H, lS K τ W (wDrop wa) D σ H → tDrop (lE K τ W wa) D σ H := by
  rintro D σ H ⟨ρ, S, F, Δ, e, hw, hx, h1, h2, h3, h4, h5⟩
  exact ⟨ρ, S, F, _, _, e, hw, hx, fun v d ρ' S' H' q s' iv e' => h1 _ S' _ H' q s' e'⟩
theorem l_ifS : ∀ D σ H, lS K τ W (wIfS wt w u) D σ H → tIfS (lT K τ W wt) (lS K τ W w) (lS K τ W u) D σ H := by
  rintro D σ H ⟨ρ, S, F, Δ, e, hw, hx, h1, h2, h3, h4, h5⟩
  refine ⟨ρ, S, F, _, _, e, hw, hx, fun b ρ' S' H' q s' e' => ?_⟩
  have go : ∀ w' : WS, w' ρ' Δ → lS K τ W w' D σ H' := fun w' q => ⟨ρ', S', F, Δ, e', q, hx.mono s', fun ρ2 S2 σ2 H2 a b c => h1 ρ2 S2 σ2 H2 a (s'.trans b) c, fun d v ρ2 S2 σ2 H2 a b c f => h2 d v ρ2 S2 σ2 H2 a (s'.trans b) c f,
    fun ρ2 S2 σ2 H2 a b c => h3 ρ2 S2 σ2 H2 a (s'.trans b) c, fun ρ2 S2 σ2 H2 a b c => h4 ρ2 S2 σ2 H2 a (s'.trans b) c, fun l od o ρ2 S2 σ2 H2 a b => h5 l od o ρ2 S2 σ2 H2 a (s'.trans b)⟩
  cases b with
  | true => exact go w q
  | false => exact go u q
end

def wRetO (wo : Rho → XC → (Addr → OD → Rho → Prop) → Prop) : WS := fun ρ Δ => wo ρ Δ.xc fun l od ρ1 => Δ.ro l od ρ1
/-! ### targets -/
abbrev WG := D → Rho → (Rho → Prop) → Prop
abbrev WGs := List D → Rho → (Rho → Prop) → Prop
def lG (K : Fg) (τ : Tb) (g : WG) : TG := fun x σ H Q => ∃ ρ S F d Φ, ER K τ S F H ρ σ ∧ Is K S x d ∧ g d ρ Φ ∧ ∀ ρ' S' σ' H', Φ ρ' → Same S S' → ER K τ S' F H' ρ' σ' → Q σ' H'
def lGs (K : Fg) (τ : Tb) (g : WGs) : TGs := fun xs σ H Q => ∃ ρ S F ds Φ, ER K τ S F H ρ σ ∧ IsAll K S xs ds ∧ g ds ρ Φ ∧ ∀ ρ' S' σ' H', Φ ρ' → Same S S' → ER K τ S' F H' ρ' σ' → Q σ' H'
def wgName (i : Nat) : WG := fun d ρ Φ => Φ (ρ.set i (.val d))
def wgNil : WGs := fun ds ρ Φ => ds = [] ∧ Φ ρ
def wgCons (g : WG) (gs : WGs) : WGs := fun ds ρ Φ => match ds with
  | d :: ds => g d ρ fun ρ1 => gs ds ρ1 Φ
  | [] => False
def wgTup (n : Nat) (gs : WGs) : WG := fun d ρ Φ => match d with
  | .tup ds => ds.length = n ∧ gs ds ρ Φ
  | _ => False
theorem PG.imp {X : Cx} {e : Expr} {t t' : TG} (h : PG X e t) (m : ∀ x σ H Q, t' x σ H Q → t x σ H Q) : PG X e t' := ⟨fun pins s σ H v u Q I r q => h.run pins s σ H v u Q I r (m v σ H Q q)⟩
theorem PGs.imp {X : Cx} {e : List Expr} {t t' : TGs} (h : PGs X e t) (m : ∀ x σ H Q, t' x σ H Q → t x σ H Q) : PGs X e t' := ⟨fun pins s σ H v u Q I r q => h.run pins s σ H v u Q I r (m v σ H Q q)⟩
section
variable {K : Fg}
theorem g_name {i : Nat} : ∀ x σ H Q, lG K τ (wgName i) x σ H Q → gName i x σ H Q := by
  rintro x σ H Q ⟨ρ, S, F, d, Φ, e, hi, hg, hp⟩
  exact hp _ S _ H hg (Same.refl S) (e.set hi)
theorem g_nil : ∀ x σ H Q, lGs K τ wgNil x σ H Q → gNil x σ H Q := by
  rintro x σ H Q ⟨ρ, S, F, d, Φ, e, hi, ⟨h1, hg⟩, hp⟩
  subst h1
  cases hi
  exact ⟨rfl, hp _ S _ H hg (Same.refl S) e⟩
theorem g_cons {g : WG} {gs : WGs} : ∀ x σ H Q, lGs K τ (wgCons g gs) x σ H Q → gCons (lG K τ g) (lGs K τ gs) x σ H Q := by
  rintro x σ H Q ⟨ρ, S, F, ds, Φ, e, hi, hg, hp⟩
  cases hi with
  | nil => exact hg.elim
  | cons a b => exact ⟨_, _, rfl, ρ, S, F, _, _, e, a, hg, fun ρ' S' σ' H' q s' e' => ⟨ρ', S', F, _, _, e', b.mono s', q, fun ρ2 S2 σ2 H2 q2 s2 e2 => hp ρ2 S2 σ2 H2 q2 (s'.trans s2) e2⟩⟩
theorem g_tup {n : Nat} {gs : WGs} : ∀ x σ H Q, lG K τ (wgTup n gs) x σ H Q → gTup K n (lGs K τ gs) x σ H Q := by
  rintro x σ H Q ⟨ρ, S, F, d, Φ, e, hi, hg, hp⟩
  cases hi with
  | tup h1 h2 => exact ⟨_, _, rfl, .inl (.inl (e.ex _ _ h1)), h2.length.trans hg.1, ρ, S, F, _, Φ, e, h2, hg.2, hp⟩
  | _ => exact False.elim hg
theorem l_asgG {W : WX} {wa : WE} {g : WG} : ∀ D σ H, lS K τ W (fun ρ Δ => wa ρ Δ.xc fun d ρ1 => g d ρ1 Δ.nx) D σ H → tAsg (lE K τ W wa) (lG K τ g) D σ H := by
  rintro D σ H ⟨ρ, S, F, Δ, e, hw, hx, h1, h2, h3, h4, h5⟩
  exact ⟨ρ, S, F, _, _, e, hw, hx, fun v d ρ' S' H' q s' iv e' => ⟨ρ', S', F, d, _, e', iv, q, fun ρ2 S2 σ2 H2 q2 s2 e2 => h1 ρ2 S2 σ2 H2 q2 (s'.trans s2) e2⟩⟩
end
def wAsgG (g : WG) (wa : WE) : WS := fun ρ Δ => wa ρ Δ.xc fun d ρ1 => g d ρ1 Δ.nx

/-! ### walks -/
structure DWk (K : Fg) (τ : Tb) (S : Hp) (J : It) (ds : List D) : Prop where
  go : ∀ i H, i < ds.length → Same S H → J.go i H
  stop : ∀ H, Same S H → J.stop ds.length H
  yld : ∀ i H x H', i < ds.length → Same S H → J.yld i H x H' → ∃ d, ds[i]? = some d ∧ ∀ S1 F (ρ : Rho) (σ : L2.St), Same S S1 → ER K τ S1 F H ρ σ → ∃ S2, Same S1 S2 ∧ Is K S2 x d ∧ ER K τ S2 F H' ρ σ
theorem DWk.mono {K : Fg} {S S' : Hp} {J : It} {ds : List D} (h : DWk K τ S J ds) (s : Same S S') : DWk K τ S' J ds :=
  ⟨fun i H a b => h.go i H a (s.trans b), fun H b => h.stop H (s.trans b), fun i H x H' a b c => by
    obtain ⟨d, h1, h2⟩ := h.yld i H x H' a (s.trans b) c
    exact ⟨d, h1, fun S1 F ρ σ q e => h2 S1 F ρ σ (s.trans q) e⟩⟩
def lI (K : Fg) (τ : Tb) (W : WX) (w : WL) : TI := fun σ H R => ∃ ρ S F χ Φ, ER K τ S F H ρ σ ∧ w ρ χ Φ ∧ XOk K τ F W S χ ∧ ∀ J ds ρ' S' H', Φ ds ρ' → Same S S' → ER K τ S' F H' ρ' σ → DWk K τ S' J ds → R J H'
theorem PI.imp {X : Cx} {tg e : Expr} {t t' : TI} (h : PI X tg e t) (m : ∀ σ H Q, t' σ H Q → t σ H Q) : PI X tg e t' := ⟨fun pins s σ H R I q => h.run pins s σ H R I (m σ H R q)⟩
theorem dwk_list {K : Fg} {S : Hp} {a : Addr} {vs : List V} {ds : List D} (h : S a = some (.lst vs)) (hi : IsAll K S vs ds) : DWk K τ S (Itl K a) ds := by
  have hl := hi.length
  refine ⟨fun i H h1 s => ⟨vs, vs[i]'(by omega), .inl (.inl (s _ _ h)), by simp⟩, fun H s => ⟨vs, .inl (.inl (s _ _ h)), by omega⟩, fun i H x H' h1 s y => ?_⟩
  obtain ⟨rfl, y⟩ := y
  have hx := y vs (.inl (.inl (s _ _ h)))
  obtain ⟨v, q1, q2⟩ := hi.get (i := i) (d := ds[i]) (by simp [h1])
  rw [q1] at hx
  cases hx
  exact ⟨ds[i], by simp [h1], fun S1 F ρ σ s1 e => ⟨S1, Same.refl S1, q2.mono s1, e⟩⟩
theorem dwk_tup {K : Fg} {S : Hp} {a : Addr} {vs : List V} {ds : List D} (h : S a = some (.tup vs)) (hi : IsAll K S vs ds) : DWk K τ S (Itt K a) ds := by
  have hl := hi.length
  refine ⟨fun i H h1 s => ⟨vs, vs[i]'(by omega), .inl (.inl (s _ _ h)), by simp⟩, fun H s => ⟨vs, .inl (.inl (s _ _ h)), by omega⟩, fun i H x H' h1 s y => ?_⟩
  obtain ⟨rfl, y⟩ := y
  have hx := y vs (.inl (.inl (s _ _ h)))
  obtain ⟨v, q1, q2⟩ := hi.get (i := i) (d := ds[i]) (by simp [h1])
  rw [q1] at hx
  cases hx
  exact ⟨ds[i], by simp [h1], fun S1 F ρ σ s1 e => ⟨S1, Same.refl S1, q2.mono s1, e⟩⟩
def rgD (lo : Int) (n : Nat) : List D := (List.range n).map fun i => D.int (lo + (i : Nat))
theorem dwk_range {K : Fg} {S : Hp} {lo : Int} {n : Nat} : DWk K τ S (Itr lo n) (rgD lo n) := by
  have hl : (rgD lo n).length = n := by simp [rgD]
  refine ⟨fun i H h1 s => ?_, fun H s => ?_, fun i H x H' h1 s y => ?_⟩
  · rw [hl] at h1; exact h1
  · rw [hl]; exact Nat.le_refl n
  · obtain ⟨rfl, rfl⟩ := y
    rw [hl] at h1
    exact ⟨.int (lo + i), by simp [rgD, h1], fun S1 F ρ σ s1 e => ⟨S1, Same.refl S1, .int _, e⟩⟩
/-- a list or a tuple, whichever it is -/
def wiSeq (wa : WE) : WL := fun ρ χ Φ => wa ρ χ fun d ρ1 => match d with
  | .lst ds => Φ ds ρ1
  | .tup ds => Φ ds ρ1
  | _ => False
theorem d_seq {X : Cx} {tg l : Expr} {W : WX} {wa : WE} (hl : PE X l (lE X.K τ W wa)) : PI X tg l (lI X.K τ W (wiSeq wa)) := by
  constructor; rintro pins s σ H R I ⟨ρ, S, F, χ, Φ, e, hw, hx, hp⟩
  have h' : lE X.K τ W wa σ H (fun x H1 => (∃ a xs, x = .ref a ∧ SqL X.K H1 a xs ∧ R (Itl X.K a) H1) ∨ ∃ a xs, x = .ref a ∧ SqT X.K H1 a xs ∧ R (Itt X.K a) H1) := by
    refine ⟨ρ, S, F, χ, _, e, hw, hx, fun v d ρ' S' H' q s' iv e' => ?_⟩
    cases iv with
    | lst h1 h2 => exact .inl ⟨_, _, rfl, .inl (.inl (e'.ex _ _ h1)), hp _ _ ρ' S' H' q s' e' (dwk_list h1 h2)⟩
    | tup h1 h2 => exact .inr ⟨_, _, rfl, .inl (.inl (e'.ex _ _ h1)), hp _ _ ρ' S' H' q s' e' (dwk_tup h1 h2)⟩
    | _ => exact False.elim q
  refine thn (hl.run pins s σ H _ I h') fun v s1 ⟨x, H1, I1, r1, q1⟩ => ?_
  have fresh : ∀ b ∈ [s1.heap.objs.size], FpOk X pins H1 b := fun b hb => by
    cases List.mem_singleton.mp hb; exact Inv.fpOk I1 (Nat.le_refl _) (I1.hok.fresh (Nat.le_refl s1.heap.objs.size))
  rcases q1 with ⟨a, xs, rfl, hq, q⟩ | ⟨a, xs, rfl, hq, q⟩ <;> cases r1
  · obtain ⟨_, _, p, _⟩ := I1.list hq
    exact wpAny_pyIter_list p.isList ⟨_, _, _, _, H1, rfl, I1.kept (t' := s1.toks) fun _ _ z => Heap.get?_push_of_some _ z, turn_list a _, ⟨_, Heap.get?_push_size _ rfl, rfl, rfl⟩, fresh, q⟩
  · obtain ⟨_, _, p, _⟩ := I1.tuple hq
    exact wpAny_pyIter_tuple p ⟨_, _, _, _, H1, rfl, I1.kept (t' := s1.toks) fun _ _ z => Heap.get?_push_of_some _ z, turn_tuple a _, ⟨_, Heap.get?_push_size _ rfl, rfl, rfl⟩, fresh, q⟩
def wiRg1 (wa : WL) : WL := fun ρ χ Φ => wa ρ χ fun ds ρ1 => match ds with
  | [.int j] => (-(2 ^ 62) ≤ j ∧ j < 2 ^ 62) ∧ Φ (rgD 0 j.toNat) ρ1
  | _ => False
def wiRg2 (wa : WL) : WL := fun ρ χ Φ => wa ρ χ fun ds ρ1 => match ds with
  | [.int i, .int j] => (-(2 ^ 62) ≤ i ∧ i < 2 ^ 62 ∧ -(2 ^ 62) ≤ j ∧ j < 2 ^ 62) ∧ Φ (rgD i (j - i).toNat) ρ1
  | _ => False
theorem i_rg1 {K : Fg} {W : WX} {wa : WL} : ∀ σ H R, lI K τ W (wiRg1 wa) σ H R → iRng1 (lL K τ W wa) σ H R := by
  rintro σ H R ⟨ρ, S, F, χ, Φ, e, hw, hx, hp⟩
  refine ⟨ρ, S, F, χ, _, e, hw, hx, fun vs ds ρ1 S1 H1 h1 s1 i1 e1 => ?_⟩
  split at h1
  · cases i1 with
    | cons a b =>
      cases a
      cases b
      exact ⟨_, rfl, h1.1.1, h1.1.2, hp _ _ ρ1 S1 H1 h1.2 s1 e1 dwk_range⟩
  · exact h1.elim
theorem i_rg2 {K : Fg} {W : WX} {wa : WL} : ∀ σ H R, lI K τ W (wiRg2 wa) σ H R → iRng2 (lL K τ W wa) σ H R := by
  rintro σ H R ⟨ρ, S, F, χ, Φ, e, hw, hx, hp⟩
  refine ⟨ρ, S, F, χ, _, e, hw, hx, fun vs ds ρ1 S1 H1 h1 s1 i1 e1 => ?_⟩
  split at h1
  · cases i1 with
    | cons a b =>
      cases a
      cases b with
      | cons a b =>
        cases a
        cases b
        exact ⟨_, _, rfl, h1.1, hp _ _ ρ1 S1 H1 h1.2 s1 e1 dwk_range⟩
  · exact h1.elim

/-! ### for -/
def wForL (g : WG) (wb : WS) : List D → Rho → DE → Prop
  | [], ρ, Δ => Δ.nx ρ
  | d :: ds, ρ, Δ => g d ρ fun ρ1 => wb ρ1 { Δ with nx := fun ρ' => wForL g wb ds ρ' Δ, ct := fun ρ' => wForL g wb ds ρ' Δ, bk := Δ.nx }
def wFor (wi : WL) (g : WG) (wb : WS) : WS := fun ρ Δ => wi ρ Δ.xc fun ds ρ1 => wForL g wb ds ρ1 Δ
theorem l_for {K : Fg} {W : WX} {wi : WL} {g : WG} {wb : WS} : ∀ D σ H, lS K τ W (wFor wi g wb) D σ H → tFor (lI K τ W wi) (lG K τ g) (lS K τ W wb) D σ H := by
  rintro D σ H ⟨ρ, S, F, Δ, e, hw, hx, h1, h2, h3, h4, h5⟩
  refine ⟨ρ, S, F, _, _, e, hw, hx, fun J ds ρ1 S1 H1 q1 s1 e1 wk => ?_⟩
  refine ⟨fun i m σ' H' => m = ds.length - i ∧ i ≤ ds.length ∧ ∃ ρ' S', Same S1 S' ∧ ER K τ S' F H' ρ' σ' ∧ wForL g wb (ds.drop i) ρ' Δ, ⟨_, rfl, Nat.zero_le _, ρ1, S1, Same.refl S1, e1, q1⟩, ?_⟩
  rintro i m σ' H' ⟨rfl, hi, ρ', S', s', e', q⟩
  by_cases hlt : i < ds.length
  · refine .inr ⟨wk.go i H' hlt (s'.trans e'.ex), fun σ2 H2 => ∃ ρ2 S2, Same S1 S2 ∧ ER K τ S2 F H2 ρ2 σ2 ∧ wForL g wb (ds.drop (i + 1)) ρ2 Δ, fun σ2 H2 n2 => ⟨ds.length - (i + 1), by omega, rfl, hlt, n2⟩, fun x H2 y => ?_⟩
    obtain ⟨d, hd, y2⟩ := wk.yld i H' x H2 hlt (s'.trans e'.ex) y
    obtain ⟨S2, s2, i2, e2⟩ := y2 S' F ρ' σ' s' e'
    have ed : ds.drop i = d :: ds.drop (i + 1) := by
      rw [(List.drop_eq_getElem_cons hlt)]
      rw [List.getElem?_eq_getElem hlt] at hd
      rw [Option.some.inj hd]
    rw [ed] at q
    refine ⟨ρ', S2, F, d, _, e2, i2, q, fun ρ3 S3 σ3 H3 q3 s3 e3 => ?_⟩
    have t3 : Same S S3 := ((s1.trans s').trans s2).trans s3
    exact ⟨ρ3, S3, F, _, e3, q3, hx.mono t3, fun ρ4 S4 σ4 H4 a b c => ⟨ρ4, S4, ((s'.trans s2).trans s3).trans b, c, a⟩, fun d v ρ4 S4 σ4 H4 a b c f => h2 d v ρ4 S4 σ4 H4 a (t3.trans b) c f,
      fun ρ4 S4 σ4 H4 a b c => h1 ρ4 S4 σ4 H4 a (t3.trans b) c, fun ρ4 S4 σ4 H4 a b c => ⟨ρ4, S4, ((s'.trans s2).trans s3).trans b, c, a⟩, fun l od o ρ4 S4 σ4 H4 a b => h5 l od o ρ4 S4 σ4 H4 a (t3.trans b)⟩
  · have ei : i = ds.length := by omega
    subst ei
    rw [List.drop_length] at q
    exact .inl ⟨wk.stop H' (s'.trans e'.ex), h1 ρ' S' σ' H' q (s1.trans s') e'⟩
end DL
set_option Elab.async false
set_option autoImplicit false
set_option linter.all false
set_option maxRecDepth 100000
set_option maxHeartbeats 3900000
namespace DL
open L2 PyProof.Rows PySem PySem.Spec
variable {τ : Tb}

/-! ### operators -/
def wAdd : D → D → (D → Prop) → Prop := fun x y Φ => match x, y with
  | .int a, .int b => Φ (.int (a + b))
  | .str a, .str b => a.length + b.length ≤ sizeLine ∧ Φ (.str (a ++ b))
  | .lst a, .lst b => a.length + b.length ≤ sizeLine ∧ Φ (.lst (a ++ b))
  | .tup a, .tup b => a.length + b.length ≤ sizeLine ∧ Φ (.tup (a ++ b))
  | _, _ => False
def wSub : D → D → (D → Prop) → Prop := fun x y Φ => match x, y with
  | .int a, .int b => Φ (.int (a - b))
  | _, _ => False
def wMul : D → D → (D → Prop) → Prop := fun x y Φ => match x, y with
  | .int a, .int b => CMul a b ∧ Φ (.int (a * b))
  | .lst a, .int k => -(2 ^ 63) ≤ k ∧ k < 2 ^ 63 ∧ a.length * k.toNat ≤ sizeLine ∧ Φ (.lst (List.replicate k.toNat a).flatten)
  | _, _ => False
def wMod : D → D → (D → Prop) → Prop := fun x y Φ => match x, y with
  | .int a, .int b => 0 < b ∧ Φ (.int (a % b))
  | _, _ => False
def wDiv : D → D → (D → Prop) → Prop := fun x y Φ => match x, y with
  | .int a, .int b => CDiv a b ∧ Φ (.int (a / b))
  | _, _ => False
def wPow : D → D → (D → Prop) → Prop := fun x y Φ => match x, y with
  | .int a, .int b => CPow a b ∧ Φ (.int (a ^ b.toNat))
  | _, _ => False
def wCmp (p : Int → Int → Bool) : D → D → (D → Prop) → Prop := fun x y Φ => match x, y with
  | .int a, .int b => Φ (.bl (p a b))
  | _, _ => False
section
variable {K : Fg}
theorem ok_I0 {g : Int → Int → Int} {wr : D → D → (D → Prop) → Prop} (h : ∀ x y Φ, wr x y Φ → ∃ a b, x = .int a ∧ y = .int b ∧ Φ (.int (g a b))) : OpOk K τ (rI0 fun i j => .int (g i j)) wr := by
  intro S F H ρ σ x y dx dy Φ Q e ix iy hw hp
  obtain ⟨a, b, rfl, rfl, q⟩ := h _ _ _ hw
  cases ix
  cases iy
  exact ⟨a, b, rfl, rfl, hp _ _ S H q (Same.refl S) (.int _) e⟩
theorem ok_I {C : Int → Int → Prop} {g : Int → Int → Int} {wr : D → D → (D → Prop) → Prop} (h : ∀ x y Φ, wr x y Φ → ∃ a b, x = .int a ∧ y = .int b ∧ C a b ∧ Φ (.int (g a b))) : OpOk K τ (rI C fun i j => .int (g i j)) wr := by
  intro S F H ρ σ x y dx dy Φ Q e ix iy hw hp
  obtain ⟨a, b, rfl, rfl, hc, q⟩ := h _ _ _ hw
  cases ix
  cases iy
  exact ⟨a, b, rfl, rfl, hc, hp _ _ S H q (Same.refl S) (.int _) e⟩
theorem ok_B0 {p : Int → Int → Bool} : OpOk K τ (rI0 fun i j => .bl (p i j)) (wCmp p) := by
  intro S F H ρ σ x y dx dy Φ Q e ix iy hw hp
  unfold wCmp at hw
  split at hw
  · cases ix
    cases iy
    exact ⟨_, _, rfl, rfl, hp _ _ S H hw (Same.refl S) (.bl _) e⟩
  · exact hw.elim
theorem ok_sub : OpOk K τ (rI0 fun i j => .int (i - j)) wSub := ok_I0 fun x y Φ h => by
  unfold wSub at h
  split at h
  · exact ⟨_, _, rfl, rfl, h⟩
  · exact h.elim
theorem ok_mod : OpOk K τ (rI (fun _ j => 0 < j) fun i j => .int (i % j)) wMod := ok_I fun x y Φ h => by
  unfold wMod at h
  split at h
  · exact ⟨_, _, rfl, rfl, h.1, h.2⟩
  · exact h.elim
theorem ok_div : OpOk K τ (rI CDiv fun i j => .int (i / j)) wDiv := ok_I fun x y Φ h => by
  unfold wDiv at h
  split at h
  · exact ⟨_, _, rfl, rfl, h.1, h.2⟩
  · exact h.elim
theorem ok_pow : OpOk K τ (rI CPow fun i j => .int (i ^ j.toNat)) wPow := ok_I fun x y Φ h => by
  unfold wPow at h
  split at h
  · exact ⟨_, _, rfl, rfl, h.1, h.2⟩
  · exact h.elim
def rAddD (K : Fg) : R2 := fun x y H Q => rI0 (fun i j => .int (i + j)) x y H Q ∨ (∃ i j, x = .str i ∧ y = .str j ∧ i.length + j.length ≤ sizeLine ∧ Q (.str (i ++ j)) H) ∨ rCat x y H Q ∨ rCatA K x y H Q
theorem ok_add : OpOk K τ (rAddD K) wAdd := by
  intro S F H ρ σ x y dx dy Φ Q e ix iy hw hp
  unfold wAdd at hw
  split at hw
  · cases ix
    cases iy
    exact .inl ⟨_, _, rfl, rfl, hp _ _ S H hw (Same.refl S) (.int _) e⟩
  · cases ix
    cases iy
    exact .inr (.inl ⟨_, _, rfl, rfl, hw.1, hp _ _ S H hw.2 (Same.refl S) (.str _) e⟩)
  · cases ix with
    | lst a1 a2 =>
      cases iy with
      | lst b1 b2 =>
        refine .inr (.inr (.inl ⟨_, _, _, _, rfl, rfl, e.ex _ _ a1, e.ex _ _ b1, by rw [a2.length, b2.length]; exact hw.1, fun p hp1 => ?_⟩))
        exact hp _ _ _ _ hw.2 (e.sn hp1) (.lst upd_same ((a2.append b2).mono (e.sn hp1))) (e.new hp1)
  · cases ix with
    | tup a1 a2 =>
      cases iy with
      | tup b1 b2 =>
        refine .inr (.inr (.inr ⟨_, _, _, _, rfl, rfl, .inl (.inl (e.ex _ _ a1)), .inl (.inl (e.ex _ _ b1)), by rw [a2.length, b2.length]; exact hw.1, ?_⟩))
        refine ⟨fun z => ?_, fun z1 z2 => ?_, fun _ _ p hp1 => hp _ _ _ _ hw.2 (e.sn hp1) (.tup upd_same ((a2.append b2).mono (e.sn hp1))) (e.new hp1)⟩
        · subst z
          cases a2
          exact hp _ _ S H hw.2 (Same.refl S) (.tup b1 b2) e
        · subst z2
          cases b2
          exact hp _ _ S H (by rw [List.append_nil] at hw; exact hw.2) (Same.refl S) (.tup a1 a2) e
  · exact hw.elim
def rMulD : R2 := fun x y H Q => rI CMul (fun i j => .int (i * j)) x y H Q ∨ rRep x y H Q
theorem isAll_rep {S : Hp} {xs : List V} {ds : List D} (h : IsAll K S xs ds) : ∀ n : Nat, IsAll K S (List.replicate n xs).flatten (List.replicate n ds).flatten
  | 0 => .nil
  | n + 1 => by
    simp only [List.replicate_succ, List.flatten_cons]
    exact h.append (isAll_rep h n)
theorem ok_mul : OpOk K τ rMulD wMul := by
  intro S F H ρ σ x y dx dy Φ Q e ix iy hw hp
  unfold wMul at hw
  split at hw
  · cases ix
    cases iy
    exact .inl ⟨_, _, rfl, rfl, hw.1, hp _ _ S H hw.2 (Same.refl S) (.int _) e⟩
  · cases ix with
    | lst a1 a2 =>
      cases iy
      obtain ⟨h1, h2, h3, h4⟩ := hw
      exact .inr ⟨_, _, _, rfl, rfl, e.ex _ _ a1, h1, h2, by rw [a2.length]; exact h3, fun p hp1 => hp _ _ _ _ h4 (e.sn hp1) (.lst upd_same ((isAll_rep a2 _).mono (e.sn hp1))) (e.new hp1)⟩
  · exact hw.elim
end
theorem or_add {X : Cx} : OpR X (binaryOp .Add) (rAddD X.K) := op_add.or (op_add_str.or (op_cat.or op_catA))
theorem or_mul {X : Cx} : OpR X (binaryOp .Mult) rMulD := op_mul.or op_rep

/-! ### plain data as the model's -/
mutual
def pyOf : D → Option PyData
  | .non => some .none
  | .bl b => some (.bool b)
  | .int i => some (.int i)
  | .str s => some (.str s)
  | .lst xs => match pyOfL xs with
    | some ps => some (.list ps)
    | none => none
  | .tup xs => match pyOfL xs with
    | some ps => some (.tuple ps)
    | none => none
  | .obj _ _ _ => none
  | .dic _ _ => none
  | .scr _ => none
  | .raw _ => none
  | .exn _ _ _ _ => none
def pyOfL : List D → Option (List PyData)
  | [] => some []
  | x :: xs => match pyOf x, pyOfL xs with
    | some p, some ps => some (p :: ps)
    | _, _ => none
end
section
variable {K : Fg} {S H : Hp}
theorem both_dp (ex : Same S H) : (∀ v d, Is K S v d → ∀ p, pyOf d = some p → Dp K H v p) ∧ (∀ vs ds, IsAll K S vs ds → ∀ ps, pyOfL ds = some ps → DpAll K H vs ps) := by
  have h1 : ∀ {a : Addr} {vs : List V} {ds : List D}, S a = some (.lst vs) → IsAll K S vs ds → (∀ ps, pyOfL ds = some ps → DpAll K H vs ps) → ∀ p, pyOf (.lst ds) = some p → Dp K H (.ref a) p := fun {a vs ds} h _ ih p hp => by
    unfold pyOf at hp
    split at hp
    · rename_i ps hps
      cases hp
      exact .lst (.inl (.inl (ex _ _ h))) (ih _ hps)
    · cases hp
  have h2 : ∀ {a : Addr} {vs : List V} {ds : List D}, S a = some (.tup vs) → IsAll K S vs ds → (∀ ps, pyOfL ds = some ps → DpAll K H vs ps) → ∀ p, pyOf (.tup ds) = some p → Dp K H (.ref a) p := fun {a vs ds} h _ ih p hp => by
    unfold pyOf at hp
    split at hp
    · rename_i ps hps
      cases hp
      exact .tup (.inl (.inl (ex _ _ h))) (ih _ hps)
    · cases hp
  have h3 : ∀ ps, pyOfL [] = some ps → DpAll K H [] ps := fun ps h => by
    unfold pyOfL at h
    cases h
    exact .nil
  have h4 : ∀ {v : V} {vs : List V} {d : D} {ds : List D}, Is K S v d → IsAll K S vs ds → (∀ p, pyOf d = some p → Dp K H v p) → (∀ ps, pyOfL ds = some ps → DpAll K H vs ps) → ∀ ps, pyOfL (d :: ds) = some ps → DpAll K H (v :: vs) ps := fun {v vs d ds} _ _ a b ps h => by
    unfold pyOfL at h
    split at h
    · rename_i p ps' e1 e2
      cases h
      exact .cons (a _ e1) (b _ e2)
    · cases h
  refine ⟨fun v d h => ?_, fun vs ds h => ?_⟩
  · exact Is.rec (motive_1 := fun v d _ => ∀ p, pyOf d = some p → Dp K H v p) (motive_2 := fun vs ds _ => ∀ ps, pyOfL ds = some ps → DpAll K H vs ps)
      (fun p h => by unfold pyOf at h; cases h; exact .non) (fun b p h => by unfold pyOf at h; cases h; exact .bl b) (fun i p h => by unfold pyOf at h; cases h; exact .int i) (fun x p h => by unfold pyOf at h; cases h; exact .str x)
      h1 h2 (fun _ _ _ _ p h => by unfold pyOf at h; cases h) (fun _ _ _ _ p h => by unfold pyOf at h; cases h) (fun _ p h => by unfold pyOf at h; cases h) (fun _ p h => by unfold pyOf at h; cases h) (fun _ _ _ p h => by unfold pyOf at h; cases h) h3 h4 h
  · exact IsAll.rec (motive_1 := fun v d _ => ∀ p, pyOf d = some p → Dp K H v p) (motive_2 := fun vs ds _ => ∀ ps, pyOfL ds = some ps → DpAll K H vs ps)
      (fun p h => by unfold pyOf at h; cases h; exact .non) (fun b p h => by unfold pyOf at h; cases h; exact .bl b) (fun i p h => by unfold pyOf at h; cases h; exact .int i) (fun x p h => by unfold pyOf at h; cases h; exact .str x)
      h1 h2 (fun _ _ _ _ p h => by unfold pyOf at h; cases h) (fun _ _ _ _ p h => by unfold pyOf at h; cases h) (fun _ p h => by unfold pyOf at h; cases h) (fun _ p h => by unfold pyOf at h; cases h) (fun _ _ _ p h => by unfold pyOf at h; cases h) h3 h4 h
theorem Is.dp {v : V} {d : D} {p : PyData} (h : Is K S v d) (ex : Same S H) (hp : pyOf d = some p) : Dp K H v p := (both_dp ex).1 v d h p hp
end
def wEq (neg : Bool) : D → D → (D → Prop) → Prop := fun x y Φ => ∃ p q, pyOf x = some p ∧ pyOf y = some q ∧ SeqAt.shaped p = true ∧ SeqAt.shaped q = true ∧ Φ (.bl (if neg = true then !PyData.eqv p q else PyData.eqv p q))
theorem ok_eq {K : Fg} : OpOk K τ (rEqD K) (wEq false) := by
  intro S F H ρ σ x y dx dy Φ Q e ix iy ⟨p, q, h1, h2, h3, h4, h5⟩ hp
  exact ⟨p, q, ix.dp e.ex h1, iy.dp e.ex h2, h3, h4, hp _ _ S H h5 (Same.refl S) (.bl _) e⟩
theorem ok_ne {K : Fg} : OpOk K τ (rNeD K) (wEq true) := by
  intro S F H ρ σ x y dx dy Φ Q e ix iy ⟨p, q, h1, h2, h3, h4, h5⟩ hp
  exact ⟨p, q, ix.dp e.ex h1, iy.dp e.ex h2, h3, h4, hp _ _ S H h5 (Same.refl S) (.bl _) e⟩
/-- is None, is not None -/
def isNon : D → Option Bool
  | .non => some true
  | .raw _ => none
  | .exn _ _ _ _ => none
  | _ => some false
def wIsN (neg : Bool) : D → D → (D → Prop) → Prop := fun x y Φ => y = .non ∧ ∃ b, isNon x = some b ∧ Φ (.bl (if neg = true then !b else b))
theorem Is.isN {K : Fg} {S : Hp} {v : V} {d : D} {b : Bool} (h : Is K S v d) (hb : isNon d = some b) : decide (v = .non) = b := by
  cases h <;> (unfold isNon at hb; cases hb) <;> first | exact decide_eq_true rfl | exact decide_eq_false (fun z => nomatch z)
theorem ok_isN {K : Fg} : OpOk K τ (fun x y H Q => y = .non ∧ Q (.bl (decide (x = .non))) H) (wIsN false) := by
  rintro S F H ρ σ x y dx dy Φ Q e ix iy ⟨rfl, b, h1, h2⟩ hp
  cases iy
  refine ⟨rfl, hp _ _ S H h2 (Same.refl S) ?_ e⟩
  rw [ix.isN h1]
  exact .bl b
theorem ok_notN {K : Fg} : OpOk K τ (fun x y H Q => y = .non ∧ Q (.bl (!decide (x = .non))) H) (wIsN true) := by
  rintro S F H ρ σ x y dx dy Φ Q e ix iy ⟨rfl, b, h1, h2⟩ hp
  cases iy
  refine ⟨rfl, hp _ _ S H h2 (Same.refl S) ?_ e⟩
  rw [ix.isN h1]
  exact .bl (!b)

/-! ### items and slices -/
def wIx : D → D → (D → Prop) → Prop := fun x y Φ => match x, y with
  | .lst ds, .int i => ∃ d, atI ds i = some d ∧ Φ d
  | .tup ds, .int i => ∃ d, atI ds i = some d ∧ Φ d
  | .scr is, .int i => ∃ n, atI is i = some n ∧ Φ (.int n)
  | .str z, .int i => ∃ c, z.length ≤ sizeLine ∧ atI z.cps.toList i = some c ∧ Φ (.str ⟨#[c]⟩)
  | _, _ => False
theorem atI_all {K : Fg} {S : Hp} {vs : List V} {ds : List D} {i : Int} {d : D} (h : IsAll K S vs ds) (e : atI ds i = some d) : ∃ v, atI vs i = some v ∧ Is K S v d := by
  unfold atI at e ⊢
  rw [h.length]
  cases q : ixN ds.length i with
  | none => exact absurd (q ▸ e) (by intro z; cases z)
  | some j => rw [q] at e; exact h.get e
theorem ok_ix {K : Fg} : OpOk K τ (rIx K) wIx := by
  intro S F H ρ σ x y dx dy Φ Q e ix iy hw hp
  unfold wIx at hw
  split at hw
  · obtain ⟨d, h1, h2⟩ := hw
    cases ix with
    | lst a1 a2 =>
      cases iy
      obtain ⟨v, h3, h4⟩ := atI_all a2 h1
      exact .inl ⟨_, _, _, v, rfl, rfl, .inl (.inl (e.ex _ _ a1)), h3, hp _ _ S H h2 (Same.refl S) h4 e⟩
  · obtain ⟨d, h1, h2⟩ := hw
    cases ix with
    | tup a1 a2 =>
      cases iy
      obtain ⟨v, h3, h4⟩ := atI_all a2 h1
      exact .inr (.inl ⟨_, _, _, v, rfl, rfl, .inl (.inl (e.ex _ _ a1)), h3, hp _ _ S H h2 (Same.refl S) h4 e⟩)
  · obtain ⟨n, h1, h2⟩ := hw
    cases ix with
    | scr a1 =>
      cases iy
      refine .inl ⟨_, _, _, .int n, rfl, rfl, e.ex.seq a1, ?_, hp _ _ S H h2 (Same.refl S) (.int n) e⟩
      unfold atI at h1 ⊢
      rw [List.length_map]
      cases q : ixN _ _ with
      | none => rw [q] at h1; cases h1
      | some j =>
        rw [q] at h1
        rw [Option.bind_some] at h1 ⊢
        rw [List.getElem?_map, h1]
        rfl
  · obtain ⟨c, h1, h2, h3⟩ := hw
    cases ix
    cases iy
    exact .inr (.inr ⟨_, _, c, rfl, rfl, h1, h2, hp _ _ S H h3 (Same.refl S) (.str _) e⟩)
  · exact hw.elim
abbrev WO := Rho → XC → (Option Int → Rho → Prop) → Prop
def lO (K : Fg) (τ : Tb) (W : WX) (w : WO) : TO := fun σ H Q => ∃ ρ S F χ Φ, ER K τ S F H ρ σ ∧ w ρ χ Φ ∧ XOk K τ F W S χ ∧ ∀ o ρ' S' H', Φ o ρ' → Same S S' → ER K τ S' F H' ρ' σ → Q o H'
def woNone : WO := fun ρ _ Φ => Φ none ρ
def woSome (wa : WE) : WO := fun ρ χ Φ => wa ρ χ fun d ρ1 => match d with
  | .int i => Φ (some i) ρ1
  | _ => False
def cutD {α : Type} (xs : List α) (lo hi : Option Int) : List α := (xs.drop (HT.sIx xs.length 0 lo)).take (HT.sIx xs.length xs.length hi - HT.sIx xs.length 0 lo)
def wSl (wa : WE) (wl wh : WO) : WE := fun ρ χ Φ => wa ρ χ fun x ρ1 => wl ρ1 χ fun lo ρ2 => wh ρ2 χ fun hi ρ3 => match x with
  | .lst ds => Φ (.lst (cutD ds lo hi)) ρ3
  | .tup ds => Φ (.tup (cutD ds lo hi)) ρ3
  | _ => False
def rSlD (K : Fg) : V → Option Int → Option Int → Hp → VK → Prop := fun x lo hi H Q => rSlL K x lo hi H Q ∨ rSlA K x lo hi H Q
theorem SlR.or {X : Cx} {r r' : V → Option Int → Option Int → Hp → VK → Prop} (h : SlR X r) (h' : SlR X r') : SlR X (fun x lo hi H Q => r x lo hi H Q ∨ r' x lo hi H Q) := by
  intro _ _ _ _ _ _ _ _ _ _ _ _ I rx hs pl pu q
  exact q.elim (h _ _ _ _ _ _ _ _ _ _ _ _ I rx hs pl pu) (h' _ _ _ _ _ _ _ _ _ _ _ _ I rx hs pl pu)
theorem l_sl {K : Fg} {W : WX} {wa : WE} {wl wh : WO} : ∀ σ H Q, lE K τ W (wSl wa wl wh) σ H Q → tSl (rSlD K) (lE K τ W wa) (lO K τ W wl) (lO K τ W wh) σ H Q := by
  rintro σ H Q ⟨ρ, S, F, χ, Φ, e, hw, hx, hp⟩
  refine ⟨ρ, S, F, χ, _, e, hw, hx, fun x dx ρ1 S1 H1 h1 s1 i1 e1 => ?_⟩
  refine ⟨ρ1, S1, F, χ, _, e1, h1, hx.mono s1, fun lo ρ2 S2 H2 h2 s2 e2 => ?_⟩
  refine ⟨ρ2, S2, F, χ, _, e2, h2, hx.mono (s1.trans s2), fun hi ρ3 S3 H3 h3 s3 e3 => ?_⟩
  have i3 := i1.mono (s2.trans s3)
  have t3 := (s1.trans s2).trans s3
  cases i3 with
  | lst a1 a2 =>
    refine .inl ⟨_, _, rfl, .inl (.inl (e3.ex _ _ a1)), fun p hp1 => ?_⟩
    refine hp _ _ ρ3 _ _ h3 (t3.trans (e3.sn hp1)) (.lst upd_same ?_) (e3.new hp1)
    unfold cutV cutD
    rw [← a2.length]
    exact ((a2.drop _).take _).mono (e3.sn hp1)
  | tup a1 a2 =>
    refine .inr ⟨_, _, rfl, .inl (.inl (e3.ex _ _ a1)), fun z => ?_, fun _ p hp1 => ?_⟩
    · refine hp _ _ ρ3 S3 H3 h3 t3 ?_ e3
      unfold cutD
      rw [a2.length] at z
      rw [z.1, z.2, List.drop_zero, Nat.sub_zero, List.take_length]
      exact .tup a1 a2
    · refine hp _ _ ρ3 _ _ h3 (t3.trans (e3.sn hp1)) (.tup upd_same ?_) (e3.new hp1)
      unfold cutV cutD
      rw [← a2.length]
      exact ((a2.drop _).take _).mono (e3.sn hp1)
  | _ => exact False.elim h3
theorem o_none {K : Fg} {W : WX} : ∀ σ H Q, lO K τ W woNone σ H Q → tNoPart σ H Q := by
  rintro σ H Q ⟨ρ, S, F, χ, Φ, e, hw, hx, hp⟩
  exact hp none ρ S H hw (Same.refl S) e
theorem o_some {K : Fg} {W : WX} {wa : WE} : ∀ σ H Q, lO K τ W (woSome wa) σ H Q → tPart (lE K τ W wa) σ H Q := by
  rintro σ H Q ⟨ρ, S, F, χ, Φ, e, hw, hx, hp⟩
  refine ⟨ρ, S, F, χ, _, e, hw, hx, fun x dx ρ1 S1 H1 h1 s1 i1 e1 => ?_⟩
  cases i1 with
  | int i => exact ⟨i, rfl, hp _ ρ1 S1 H1 h1 s1 e1⟩
  | _ => exact False.elim h1
end DL
set_option Elab.async false
set_option autoImplicit false
set_option linter.all false
set_option maxRecDepth 100000
set_option maxHeartbeats 3900000
namespace DL
open L2 PyProof.Rows PySem PySem.Spec
variable {τ : Tb}

theorem CallR.or {X : Cx} {f : Value} {r r' : List V → Hp → VK → Prop} (h : CallR X f r) (h' : CallR X f r') : CallR X f (fun xs H Q => r xs H Q ∨ r' xs H Q) := by
  intro _ _ _ _ _ _ _ I r q
  exact q.elim (h _ _ _ _ _ _ _ I r) (h' _ _ _ _ _ _ _ I r)
/-! ### built-ins by name -/
abbrev WCl := List D → (D → Prop) → Prop
def wLen : WCl := fun ds Φ => match ds with
  | [.lst xs] => Φ (.int xs.length)
  | [.tup xs] => Φ (.int xs.length)
  | [.scr is] => Φ (.int is.length)
  | [.str z] => z.length ≤ sizeLine ∧ Φ (.int z.length)
  | _ => False
def rLenD (K : Fg) : List V → Hp → VK → Prop := fun xs H Q => (∃ p ys, xs = [.ref p] ∧ (SqL K H p ys ∨ SqT K H p ys) ∧ Q (.int ys.length) H) ∨ ∃ z, xs = [.str z] ∧ z.length ≤ sizeLine ∧ Q (.int z.length) H
theorem cr_lenD {X : Cx} : CallR X (.builtin "len") (rLenD X.K) := CallR.or call_len_seq call_len_str
theorem isAll1 {K : Fg} {S : Hp} {vs : List V} {d : D} (h : IsAll K S vs [d]) : ∃ v, vs = [v] ∧ Is K S v d := by
  cases h with
  | cons a b => cases b; exact ⟨_, rfl, a⟩
theorem isAll2 {K : Fg} {S : Hp} {vs : List V} {d e : D} (h : IsAll K S vs [d, e]) : ∃ v u, vs = [v, u] ∧ Is K S v d ∧ Is K S u e := by
  cases h with
  | cons a b => cases b with
    | cons b c => cases c; exact ⟨_, _, rfl, a, b⟩
section
variable {K : Fg}
theorem ok_len : CallOk K τ (rLenD K) wLen := by
  intro S F H ρ σ vs ds Φ Q e hi hw hp
  unfold wLen at hw
  split at hw
  · obtain ⟨v, rfl, iv⟩ := isAll1 hi
    cases iv with
    | lst a1 a2 => exact .inl ⟨_, _, rfl, .inl (.inl (.inl (e.ex _ _ a1))), by rw [a2.length]; exact hp _ _ S H hw (Same.refl S) (.int _) e⟩
  · obtain ⟨v, rfl, iv⟩ := isAll1 hi
    cases iv with
    | tup a1 a2 => exact .inl ⟨_, _, rfl, .inr (.inl (.inl (e.ex _ _ a1))), by rw [a2.length]; exact hp _ _ S H hw (Same.refl S) (.int _) e⟩
  · obtain ⟨v, rfl, iv⟩ := isAll1 hi
    cases iv with
    | scr a1 => exact .inl ⟨_, _, rfl, .inl (e.ex.seq a1), by rw [List.length_map]; exact hp _ _ S H hw (Same.refl S) (.int _) e⟩
  · obtain ⟨v, rfl, iv⟩ := isAll1 hi
    cases iv
    exact .inr ⟨_, rfl, hw.1, hp _ _ S H hw.2 (Same.refl S) (.int _) e⟩
  · exact hw.elim
def wAbs : WCl := fun ds Φ => match ds with
  | [.int i] => Φ (.int (if i < 0 then -i else i))
  | _ => False
theorem ok_abs : CallOk K τ (fun xs H Q => ∃ i, xs = [.int i] ∧ Q (.int (if i < 0 then -i else i)) H) wAbs := by
  intro S F H ρ σ vs ds Φ Q e hi hw hp
  unfold wAbs at hw
  split at hw
  · obtain ⟨v, rfl, iv⟩ := isAll1 hi
    cases iv
    exact ⟨_, rfl, hp _ _ S H hw (Same.refl S) (.int _) e⟩
  · exact hw.elim
def wMin2 : WCl := fun ds Φ => match ds with
  | [.int i, .int j] => Φ (.int (if j < i then j else i))
  | _ => False
def wMax2 : WCl := fun ds Φ => match ds with
  | [.int i, .int j] => Φ (.int (if j > i then j else i))
  | _ => False
theorem ok_min2 : CallOk K τ (fun xs H Q => ∃ i j, xs = [.int i, .int j] ∧ Q (.int (if j < i then j else i)) H) wMin2 := by
  intro S F H ρ σ vs ds Φ Q e hi hw hp
  unfold wMin2 at hw
  split at hw
  · obtain ⟨v, u, rfl, iv, iu⟩ := isAll2 hi
    cases iv
    cases iu
    exact ⟨_, _, rfl, hp _ _ S H hw (Same.refl S) (.int _) e⟩
  · exact hw.elim
theorem ok_max2 : CallOk K τ (fun xs H Q => ∃ i j, xs = [.int i, .int j] ∧ Q (.int (if j > i then j else i)) H) wMax2 := by
  intro S F H ρ σ vs ds Φ Q e hi hw hp
  unfold wMax2 at hw
  split at hw
  · obtain ⟨v, u, rfl, iv, iu⟩ := isAll2 hi
    cases iv
    cases iu
    exact ⟨_, _, rfl, hp _ _ S H hw (Same.refl S) (.int _) e⟩
  · exact hw.elim
def wInt : WCl := fun ds Φ => match ds with
  | [.int i] => Φ (.int i)
  | [.bl k] => Φ (.int (if k then 1 else 0))
  | _ => False
theorem ok_int : CallOk K τ (fun xs H Q => (∃ i, xs = [.int i] ∧ Q (.int i) H) ∨ ∃ k, xs = [.bl k] ∧ Q (.int (if k then 1 else 0)) H) wInt := by
  intro S F H ρ σ vs ds Φ Q e hi hw hp
  unfold wInt at hw
  split at hw
  · obtain ⟨v, rfl, iv⟩ := isAll1 hi
    cases iv
    exact .inl ⟨_, rfl, hp _ _ S H hw (Same.refl S) (.int _) e⟩
  · obtain ⟨v, rfl, iv⟩ := isAll1 hi
    cases iv
    exact .inr ⟨_, rfl, hp _ _ S H hw (Same.refl S) (.int _) e⟩
  · exact hw.elim
def wStr : WCl := fun ds Φ => match ds with
  | [.int i] => i.natAbs.log2 < 1920 ∧ Φ (.str (toString i))
  | _ => False
theorem ok_str : CallOk K τ (fun xs H Q => ∃ i, xs = [.int i] ∧ i.natAbs.log2 < 1920 ∧ Q (.str (toString i)) H) wStr := by
  intro S F H ρ σ vs ds Φ Q e hi hw hp
  unfold wStr at hw
  split at hw
  · obtain ⟨v, rfl, iv⟩ := isAll1 hi
    cases iv
    exact ⟨_, rfl, hw.1, hp _ _ S H hw.2 (Same.refl S) (.str _) e⟩
  · exact hw.elim
def wTupOf : WCl := fun ds Φ => match ds with
  | [.lst xs] => Φ (.tup xs)
  | [.tup xs] => Φ (.tup xs)
  | _ => False
theorem ok_tupOf : CallOk K τ (fun xs H Q => ∃ p ys, xs = [.ref p] ∧ ((SqL K H p ys ∧ ∀ l, H l = none → Q (.ref l) (upd H l (.tup ys))) ∨ (SqT K H p ys ∧ Q (.ref p) H))) wTupOf := by
  intro S F H ρ σ vs ds Φ Q e hi hw hp
  unfold wTupOf at hw
  split at hw
  · obtain ⟨v, rfl, iv⟩ := isAll1 hi
    cases iv with
    | lst a1 a2 => exact ⟨_, _, rfl, .inl ⟨.inl (.inl (e.ex _ _ a1)), fun p hp1 => hp _ _ _ _ hw (e.sn hp1) (.tup upd_same (a2.mono (e.sn hp1))) (e.new hp1)⟩⟩
  · obtain ⟨v, rfl, iv⟩ := isAll1 hi
    cases iv with
    | tup a1 a2 => exact ⟨_, _, rfl, .inr ⟨.inl (.inl (e.ex _ _ a1)), hp _ _ S H hw (Same.refl S) (.tup a1 a2) e⟩⟩
  · exact hw.elim
def wLstOf : WCl := fun ds Φ => match ds with
  | [.lst xs] => Φ (.lst xs)
  | [.tup xs] => Φ (.lst xs)
  | _ => False
theorem ok_lstOf : CallOk K τ (fun xs H Q => ∃ p ys, xs = [.ref p] ∧ (SqL K H p ys ∨ SqT K H p ys) ∧ ∀ l, H l = none → Q (.ref l) (upd H l (.lst ys))) wLstOf := by
  intro S F H ρ σ vs ds Φ Q e hi hw hp
  unfold wLstOf at hw
  split at hw
  · obtain ⟨v, rfl, iv⟩ := isAll1 hi
    cases iv with
    | lst a1 a2 => exact ⟨_, _, rfl, .inl (.inl (.inl (e.ex _ _ a1))), fun p hp1 => hp _ _ _ _ hw (e.sn hp1) (.lst upd_same (a2.mono (e.sn hp1))) (e.new hp1)⟩
  · obtain ⟨v, rfl, iv⟩ := isAll1 hi
    cases iv with
    | tup a1 a2 => exact ⟨_, _, rfl, .inr (.inl (.inl (e.ex _ _ a1))), fun p hp1 => hp _ _ _ _ hw (e.sn hp1) (.lst upd_same (a2.mono (e.sn hp1))) (e.new hp1)⟩
  · exact hw.elim
end

/-! ### repr -/
mutual
theorem noDict_of : ∀ (d : D) (p : PyData), pyOf d = some p → p.hasDict = false
  | .non, p, h => by unfold pyOf at h; cases h; simp only [PyData.hasDict]
  | .bl _, p, h => by unfold pyOf at h; cases h; simp only [PyData.hasDict]
  | .int _, p, h => by unfold pyOf at h; cases h; simp only [PyData.hasDict]
  | .str _, p, h => by unfold pyOf at h; cases h; simp only [PyData.hasDict]
  | .lst xs, p, h => by
    unfold pyOf at h
    split at h
    · rename_i ps e
      cases h
      simp only [PyData.hasDict]
      exact noDict_ofL xs ps e
    · cases h
  | .tup xs, p, h => by
    unfold pyOf at h
    split at h
    · rename_i ps e
      cases h
      simp only [PyData.hasDict]
      exact noDict_ofL xs ps e
    · cases h
  | .obj _ _ _, p, h => by unfold pyOf at h; cases h
  | .dic _ _, p, h => by unfold pyOf at h; cases h
  | .scr _, p, h => by unfold pyOf at h; cases h
  | .raw _, p, h => by unfold pyOf at h; cases h
  | .exn _ _ _ _, p, h => by unfold pyOf at h; cases h
theorem noDict_ofL : ∀ (ds : List D) (ps : List PyData), pyOfL ds = some ps → PyData.hasDictAll ps = false
  | [], ps, h => by unfold pyOfL at h; cases h; simp only [PyData.hasDictAll]
  | d :: ds, ps, h => by
    unfold pyOfL at h
    split at h
    · rename_i p ps' e1 e2
      cases h
      simp only [PyData.hasDictAll]
      rw [noDict_of d p e1, noDict_ofL ds ps' e2]
      rfl
    · cases h
end
def wRepr : WCl := fun ds Φ => ∃ d p, ds = [d] ∧ pyOf d = some p ∧ p.showable = true ∧ p.depth ≤ 64 ∧ p.shown.length ≤ sizeLine ∧ Φ (.str p.shown)
def rRepr (K : Fg) : List V → Hp → VK → Prop := fun xs H Q => ∃ v p, xs = [v] ∧ Dp K H v p ∧ p.showable = true ∧ p.hasDict = false ∧ p.depth ≤ 64 ∧ p.shown.length ≤ sizeLine ∧ Q (.str p.shown) H
theorem ok_repr {K : Fg} : CallOk K τ (rRepr K) wRepr := by
  rintro S F H ρ σ vs ds Φ Q e hi ⟨d, p, rfl, h1, h2, h3, h4, h5⟩ hp
  obtain ⟨v, rfl, iv⟩ := isAll1 hi
  exact ⟨v, p, rfl, iv.dp e.ex h1, h2, noDict_of d p h1, h3, h4, hp _ _ S H h5 (Same.refl S) (.str _) e⟩
theorem cr_repr {X : Cx} {W : WX} {k : Nat} (c : Cok X W k) : CallR X (.builtin "repr") (rRepr X.K) := by
  rintro pins s σ H xs us Q I r ⟨v, p, rfl, dp, hs, hn, hd, hz, q⟩
  obtain ⟨u, rfl, ru⟩ := vals1 r; obtain ⟨as, rd⟩ := Dp.reads I p v u dp ru
  have hu := c.rm.un
  cases dp with
  | non => cases ru; exact PySem.P.repr_of_none ⟨.str _, H, I.tok _, ⟨_, rfl⟩, by simpa only [PyData.shown] using q⟩
  | bl b => cases ru; exact PySem.P.repr_of_bool ⟨.str _, H, I.tok _, ⟨_, rfl⟩, by simpa only [PyData.shown] using q⟩
  | int i =>
    obtain ⟨t, rfl⟩ := ru
    exact PySem.P.repr_of_int (by simpa [PyData.showable] using hs) ⟨.str _, H, I.tok _, ⟨_, rfl⟩, by simpa only [PyData.shown] using q⟩
  | str x =>
    obtain ⟨t, rfl⟩ := ru
    exact PySem.P.repr_of_str ⟨.str _, H, I.tok _, ⟨_, rfl⟩, by simpa only [PyData.shown] using q⟩ (by simpa only [PyData.shown] using hz)
  | lst a b =>
    cases ru
    exact repr_of_reads' (h₀ := s.heap) rd hs (fun e => by rw [hn] at e; cases e) c.gd (by omega) (fun _ _ e => e) (fun h' u tk hk => ⟨.str _, H, I.kept hk, ⟨_, rfl⟩, q⟩) hz
  | tup a b =>
    cases ru
    exact repr_of_reads' (h₀ := s.heap) rd hs (fun e => by rw [hn] at e; cases e) c.gd (by omega) (fun _ _ e => e) (fun h' u tk hk => ⟨.str _, H, I.kept hk, ⟨_, rfl⟩, q⟩) hz

/-! ### fields -/
def lookD : List Str → List D → Str → Option D
  | n :: ns, d :: ds, f => if n = f then some d else lookD ns ds f
  | _, _, _ => none
theorem look_fs {K : Fg} {S : Hp} {f : Str} : ∀ {vs : List (Str × V)} {ds : List D} {d : D}, IsAll K S (vs.map (·.2)) ds → lookD (vs.map (·.1)) ds f = some d → ∃ v, vs.lookup f = some v ∧ Is K S v d
  | [], ds, d, hi, h => by cases hi; cases h
  | (n, v) :: vs, ds, d, hi, h => by
    cases hi with
    | cons a b =>
      have h : (if n = f then some _ else lookD (vs.map (·.1)) _ f) = some d := h
      by_cases e : n = f
      · rw [if_pos e] at h
        cases h
        subst e
        exact ⟨v, by simp [List.lookup], a⟩
      · rw [if_neg e] at h
        obtain ⟨u, h1, h2⟩ := look_fs b h
        refine ⟨u, ?_, h2⟩
        have e' : (f == n) = false := by simpa using fun z => e z.symm
        simp [List.lookup, e', h1]
def wFld (C : Addr) (f : Str) (wa : WE) : WE := fun ρ χ Φ => wa ρ χ fun x ρ1 => match x with
  | .obj c ns ds => c = C ∧ ∃ d, lookD ns ds f = some d ∧ Φ d ρ1
  | _ => False
theorem l_fld {K : Fg} {W : WX} {C : Addr} {f : Str} {wa : WE} (hc : Cls K C) (hn : NoAttr K C f) : ∀ σ H Q, lE K τ W (wFld C f wa) σ H Q → tFld K (lE K τ W wa) f σ H Q := by
  rintro σ H Q ⟨ρ, S, F, χ, Φ, e, hw, hx, hp⟩
  refine ⟨ρ, S, F, χ, _, e, hw, hx, fun x dx ρ1 S1 H1 h1 s1 i1 e1 => ?_⟩
  cases i1 with
  | obj a1 a2 a3 =>
    obtain ⟨rfl, d, h2, h3⟩ := h1
    subst a2
    obtain ⟨v, h4, h5⟩ := look_fs a3 h2
    exact ⟨_, _, _, _, v, rfl, e1.ex _ _ a1, hc, hn, h4, hp v d ρ1 S1 H1 h3 s1 h5 e1⟩
  | _ => exact False.elim h1

/-! ### texts -/
def wM1 (wr : Str → D → (D → Prop) → Prop) (wa wb : WE) : WE := fun ρ χ Φ => wa ρ χ fun x ρ1 => match x with
  | .str a => wb ρ1 χ fun y ρ2 => wr a y fun z => Φ z ρ2
  | _ => False
def wM0 (wr : Str → (D → Prop) → Prop) (wa : WE) : WE := fun ρ χ Φ => wa ρ χ fun x ρ1 => match x with
  | .str a => wr a fun z => Φ z ρ1
  | _ => False
def wJoin : Str → D → (D → Prop) → Prop := fun a y Φ => match y with
  | .lst ds => ∃ ys : List Str, ds = ys.map D.str ∧ (ys.map (·.length)).sum + ys.length * a.length ≤ 16777216 ∧ Φ (.str (Txt.join a ys))
  | _ => False
def wSplit : Str → D → (D → Prop) → Prop := fun a y Φ => match y with
  | .str b => (b.length == 0) = false ∧ a.length + 2 ≤ sizeLine ∧ Φ (.lst ((Txt.split a b).map D.str))
  | _ => False
def MtOk (K : Fg) (τ : Tb) (r : V → List V → Hp → VK → Prop) (wr : Str → D → (D → Prop) → Prop) : Prop := ∀ (S F H : Hp) (ρ : Rho) (σ : L2.St) (a : Str) (y : V) (dy : D) (Φ : D → Prop) (Q : VK), ER K τ S F H ρ σ → Is K S y dy → wr a dy Φ →
  (∀ v d S' H', Φ d → Same S S' → Is K S' v d → ER K τ S' F H' ρ σ → Q v H') → r (.str a) [y] H Q
theorem l_m1 {K : Fg} {W : WX} {wa wb : WE} {r : V → List V → Hp → VK → Prop} {wr : Str → D → (D → Prop) → Prop} (hr : MtOk K τ r wr) : ∀ σ H Q, lE K τ W (wM1 wr wa wb) σ H Q → tM1 r (lE K τ W wa) (lE K τ W wb) σ H Q := by
  rintro σ H Q ⟨ρ, S, F, χ, Φ, e, hw, hx, hp⟩
  refine ⟨ρ, S, F, χ, _, e, hw, hx, fun x dx ρ1 S1 H1 h1 s1 i1 e1 => ?_⟩
  cases i1 with
  | str a => exact ⟨⟨a, rfl⟩, ρ1, S1, F, χ, _, e1, h1, hx.mono s1, fun y dy ρ2 S2 H2 h2 s2 i2 e2 => hr S2 F H2 ρ2 σ a y dy _ Q e2 i2 h2 fun v d S3 H3 h3 s3 i3 e3 => hp v d ρ2 S3 H3 h3 ((s1.trans s2).trans s3) i3 e3⟩
  | _ => exact False.elim h1
theorem isAll_str {K : Fg} {S : Hp} : ∀ {ys : List Str} {vs : List V}, IsAll K S vs (ys.map D.str) → vs = ys.map V.str
  | [], _, h => by cases h; rfl
  | y :: ys, _, h => by
    cases h with
    | cons a b =>
      cases a
      rw [isAll_str b]
      rfl
theorem isAll_of_str {K : Fg} {S : Hp} : ∀ ys : List Str, IsAll K S (ys.map V.str) (ys.map D.str)
  | [] => .nil
  | y :: ys => .cons (.str y) (isAll_of_str ys)
abbrev rJoin (K : Fg) : V → List V → Hp → VK → Prop := fun x xs H Q => ∃ a p, ∃ ys : List Str, x = .str a ∧ xs = [.ref p] ∧ (SqL K H p (ys.map V.str) ∨ SqT K H p (ys.map V.str)) ∧ (ys.map (·.length)).sum + ys.length * a.length ≤ 16777216 ∧ Q (.str (Txt.join a ys)) H
theorem ok_join {K : Fg} : MtOk K τ (rJoin K) wJoin := by
  intro S F H ρ σ a y dy Φ Q e iy hw hp
  unfold wJoin at hw
  split at hw
  · obtain ⟨ys, h1, h2, h3⟩ := hw
    subst h1
    cases iy with
    | lst a1 a2 =>
      rw [isAll_str a2] at a1
      exact ⟨a, _, ys, rfl, rfl, .inl (.inl (.inl (e.ex _ _ a1))), h2, hp _ _ S H h3 (Same.refl S) (.str _) e⟩
  · exact hw.elim
theorem ok_split {K : Fg} : MtOk K τ (fun x xs H Q => ∃ a b, x = .str a ∧ xs = [.str b] ∧ (b.length == 0) = false ∧ a.length + 2 ≤ sizeLine ∧ rNewStrs (Txt.split a b) H Q) wSplit := by
  intro S F H ρ σ a y dy Φ Q e iy hw hp
  unfold wSplit at hw
  split at hw
  · cases iy
    exact ⟨a, _, rfl, rfl, hw.1, hw.2.1, fun p hp1 => hp _ _ _ _ hw.2.2 (e.sn hp1) (.lst upd_same (isAll_of_str _)) (e.new hp1)⟩
  · exact hw.elim

/-! ### tuple(range(..)), list(range(..)) -/
def wRgT (wi : WL) : WE := fun ρ χ Φ => wi ρ χ fun ds ρ1 => match ds with
  | [.int n] => RgOk 0 n ∧ Φ (.tup (rgD 0 n.toNat)) ρ1
  | _ => False
def wRgL (wi : WL) : WE := fun ρ χ Φ => wi ρ χ fun ds ρ1 => match ds with
  | [.int n] => RgOk 0 n ∧ Φ (.lst (rgD 0 n.toNat)) ρ1
  | _ => False
theorem isAll_rg {K : Fg} {S : Hp} (a b : Int) : IsAll K S (rgV a b) (rgD a (b - a).toNat) := by
  unfold rgV rgD
  generalize (b - a).toNat = n
  have : ∀ l : List Nat, IsAll K S (l.map fun i => V.int (a + (i : Nat))) (l.map fun i => D.int (a + (i : Nat))) := fun l => by
    induction l with
    | nil => exact .nil
    | cons x l ih => exact .cons (.int _) ih
  exact this _
theorem l_rgT {K : Fg} {W : WX} {wa : WE} : ∀ σ H Q, lE K τ W (wRgT (wCons wa wNil)) σ H Q → tTupRg (tRg1 (lE K τ W wa)) σ H Q := by
  rintro σ H Q ⟨ρ, S, F, χ, Φ, e, hw, hx, hp⟩
  refine ⟨ρ, S, F, χ, _, e, hw, hx, fun x dx ρ1 S1 H1 h1 s1 i1 e1 => ?_⟩
  unfold wNil at h1
  cases i1 with
  | int n =>
    refine ⟨n, rfl, h1.1, fun p hp1 => hp _ _ ρ1 _ _ h1.2 (s1.trans (e1.sn hp1)) (.tup upd_same ?_) (e1.new hp1)⟩
    have z := isAll_rg (K := K) (S := upd S1 p (.tup (rgV 0 n))) 0 n
    rw [Int.sub_zero] at z
    exact z
  | _ => exact False.elim h1
theorem l_rgL {K : Fg} {W : WX} {wa : WE} : ∀ σ H Q, lE K τ W (wRgL (wCons wa wNil)) σ H Q → tLstRg (tRg1 (lE K τ W wa)) σ H Q := by
  rintro σ H Q ⟨ρ, S, F, χ, Φ, e, hw, hx, hp⟩
  refine ⟨ρ, S, F, χ, _, e, hw, hx, fun x dx ρ1 S1 H1 h1 s1 i1 e1 => ?_⟩
  unfold wNil at h1
  cases i1 with
  | int n =>
    refine ⟨n, rfl, h1.1, fun p hp1 => hp _ _ ρ1 _ _ h1.2 (s1.trans (e1.sn hp1)) (.lst upd_same ?_) (e1.new hp1)⟩
    have z := isAll_rg (K := K) (S := upd S1 p (.lst (rgV 0 n))) 0 n
    rw [Int.sub_zero] at z
    exact z
  | _ => exact False.elim h1
end DL
set_option Elab.async false
set_option autoImplicit false
set_option linter.all false
set_option maxRecDepth 100000
set_option maxHeartbeats 3900000
namespace DL
open L2 PyProof.Rows PySem PySem.Spec
variable {τ : Tb}

/-! ### comprehensions -/
theorem wipe_set_out {σ : L2.St} {i : Nat} {x : Option V} : ∀ {vs : List Nat}, i ∉ vs → wipe (σ.set i x) vs = (wipe σ vs).set i x
  | [], _ => rfl
  | v :: vs, h => by
    have h1 : i ≠ v := fun z => h (by rw [z]; exact List.mem_cons_self)
    have h2 : i ∉ vs := fun z => h (List.mem_cons_of_mem _ z)
    unfold wipe
    rw [wipe_set_out h2, List.set_comm _ _ h1]
theorem wipe_set {σ : L2.St} {i : Nat} {x : Option V} : ∀ {vs : List Nat}, i ∈ vs → wipe (σ.set i x) vs = wipe σ vs
  | [], h => by cases h
  | v :: vs, h => by
    unfold wipe
    by_cases hi : i ∈ vs
    · rw [wipe_set hi]
    · have e : i = v := (List.mem_cons.mp h).resolve_right hi
      subst e
      rw [wipe_set_out hi, List.set_set]
theorem wipe_in {σ : L2.St} : ∀ {vs us : List Nat}, (∀ v ∈ us, v ∈ vs) → wipe (wipe σ us) vs = wipe σ vs
  | vs, [], _ => rfl
  | vs, u :: us, h => by
    show wipe ((wipe σ us).set u none) vs = _
    rw [wipe_set (h u List.mem_cons_self)]
    exact wipe_in fun v hv => h v (List.mem_cons_of_mem _ hv)
theorem wipe_wipe {σ : L2.St} {vs : List Nat} : wipe (wipe σ vs) vs = wipe σ vs := wipe_in fun _ h => h
def wipeR (ρ : Rho) : List Nat → Rho
  | [] => ρ
  | v :: vs => (wipeR ρ vs).set v .un
def backR (ρ0 ρ : Rho) : List Nat → Rho
  | [] => ρ
  | v :: vs => (backR ρ0 ρ vs).set v (match ρ0[v]? with
    | some (.val d) => .val d
    | _ => .un)
section
variable {K : Fg} {S F H : Hp} {ρ ρ0 : Rho} {σ : L2.St}
theorem wipeR_len : ∀ vs : List Nat, (wipeR ρ vs).length = ρ.length
  | [] => rfl
  | v :: vs => by unfold wipeR; rw [List.length_set]; exact wipeR_len vs
theorem backR_len : ∀ vs : List Nat, (backR ρ0 ρ vs).length = ρ.length
  | [] => rfl
  | v :: vs => by unfold backR; rw [List.length_set]; exact backR_len vs
theorem wipeR_at {i : Nat} {s : Sl} : ∀ {vs : List Nat}, (wipeR ρ vs)[i]? = some s → s = .un ∨ (i ∉ vs ∧ ρ[i]? = some s)
  | [], h => .inr ⟨by simp, h⟩
  | v :: vs, h => by
    unfold wipeR at h
    by_cases hi : v = i
    · subst hi
      have hv : v < (wipeR ρ vs).length := by
        have := (List.getElem?_eq_some_iff.mp h).1
        rwa [List.length_set] at this
      rw [List.getElem?_set_self hv] at h
      cases h
      exact .inl rfl
    · replace h := (List.getElem?_set_ne hi).symm.trans h
      rcases wipeR_at h with z | ⟨z1, z2⟩
      · exact .inl z
      · exact .inr ⟨by simp only [List.mem_cons, not_or]; exact ⟨fun e => hi e.symm, z1⟩, z2⟩
theorem backR_at {i : Nat} {s : Sl} : ∀ {vs : List Nat}, (backR ρ0 ρ vs)[i]? = some s → s = .un ∨ (i ∈ vs ∧ (∃ d, s = .val d) ∧ ρ0[i]? = some s) ∨ (i ∉ vs ∧ ρ[i]? = some s)
  | [], h => .inr (.inr ⟨by simp, h⟩)
  | v :: vs, h => by
    unfold backR at h
    by_cases hi : v = i
    · subst hi
      have hv : v < (backR ρ0 ρ vs).length := by
        have := (List.getElem?_eq_some_iff.mp h).1
        rwa [List.length_set] at this
      rw [List.getElem?_set_self hv] at h
      have h' := Option.some.inj h
      split at h'
      · rename_i d hd
        subst h'
        exact .inr (.inl ⟨List.mem_cons_self, ⟨d, rfl⟩, hd⟩)
      · exact .inl h'.symm
    · replace h := (List.getElem?_set_ne hi).symm.trans h
      rcases backR_at h with z | ⟨z1, z2⟩ | ⟨z1, z2⟩
      · exact .inl z
      · exact .inr (.inl ⟨List.mem_cons_of_mem _ z1, z2⟩)
      · exact .inr (.inr ⟨by simp only [List.mem_cons, not_or]; exact ⟨fun e => hi e.symm, z1⟩, z2⟩)
theorem wipe_get {i : Nat} {x : Option V} : ∀ {vs : List Nat}, i ∉ vs → (wipe σ vs)[i]? = σ[i]?
  | [], _ => rfl
  | v :: vs, h => by
    unfold wipe
    rw [List.getElem?_set_ne (fun z => h (by rw [z]; exact List.mem_cons_self))]
    exact wipe_get (x := x) fun z => h (List.mem_cons_of_mem _ z)
theorem ER.wipe (e : ER K τ S F H ρ σ) (vs : List Nat) : ER K τ S F H (wipeR ρ vs) (wipe σ vs) := by
  refine ⟨by rw [wipeR_len, wipe_length]; exact e.len, e.ex, e.fr, fun i d h => ?_, fun i l od h => ?_, fun i j l o o' h1 h2 => ?_, e.tb⟩
  · rcases wipeR_at h with z | ⟨z1, z2⟩
    · cases z
    · rw [wipe_get (x := none) z1]; exact e.val i d z2
  · rcases wipeR_at h with z | ⟨z1, z2⟩
    · cases z
    · rw [wipe_get (x := none) z1]; exact e.own i l od z2
  · rcases wipeR_at h1 with z | ⟨_, z2⟩
    · cases z
    · rcases wipeR_at h2 with z | ⟨_, z4⟩
      · cases z
      · exact e.dis i j l o o' z2 z4
theorem ER.restore {S1 F1 H1 : Hp} {vs : List Nat} (e1 : ER K τ S1 F1 H1 ρ0 σ) (s : Same S1 S) (e : ER K τ S F H ρ (L2.wipe σ vs)) : ER K τ S F H (backR ρ0 ρ vs) σ := by
  refine ⟨by rw [backR_len, e.len, wipe_length], e.ex, e.fr, fun i d h => ?_, fun i l od h => ?_, fun i j l o o' h1 h2 => ?_, e.tb⟩
  · rcases backR_at h with z | ⟨z1, _, z2⟩ | ⟨z1, z2⟩
    · cases z
    · obtain ⟨v, a, b⟩ := e1.val i d z2
      exact ⟨v, a, b.mono s⟩
    · obtain ⟨v, a, b⟩ := e.val i d z2
      rw [wipe_get (x := none) z1] at a
      exact ⟨v, a, b⟩
  · rcases backR_at h with z | ⟨_, ⟨d, z⟩, _⟩ | ⟨z1, z2⟩
    · cases z
    · cases z
    · have q := e.own i l od z2
      rw [wipe_get (x := none) z1] at q
      exact q
  · rcases backR_at h1 with z | ⟨_, ⟨d, z⟩, _⟩ | ⟨_, z2⟩
    · cases z
    · cases z
    · rcases backR_at h2 with z | ⟨_, ⟨d, z⟩, _⟩ | ⟨_, z4⟩
      · cases z
      · cases z
      · exact e.dis i j l o o' z2 z4
/-- a new object that others own -/
theorem ER.addF {p : Addr} {o : HO} (e : ER K τ S F H ρ σ) (hp : H p = none) : ER K τ S (upd F p o) (upd H p o) ρ σ := by
  have sp := e.sp hp
  refine ⟨e.len, fun b u h => by rw [upd_ne (ne_of_none h sp)]; exact e.ex b u h, fun a u h => ?_, e.val, fun i l od h => ?_, e.dis, e.tb.newF hp (e.fp hp)⟩
  · by_cases ha : a = p
    · subst ha; rw [upd_same] at h ⊢; exact ⟨h, sp⟩
    · rw [upd_ne ha] at h ⊢; exact e.fr a u h
  · obtain ⟨h1, h2, h3, ob, h4, h5⟩ := e.own i l od h
    have ne := ne_of_none h4 hp
    rw [upd_ne ne, upd_ne ne]
    exact ⟨h1, h2, h3, ob, h4, h5⟩
/-- it changes -/
theorem ER.chF {p : Addr} {o o' : HO} (e : ER K τ S (upd F p o) H ρ σ) (gp : τ.gf p = none) (nc : ∀ c q, o ≠ LamX.CodeO c q) : ER K τ S (upd F p o') (upd H p o') ρ σ := by
  obtain ⟨hp, sp⟩ := e.fr p o upd_same
  refine ⟨e.len, fun b u h => by rw [upd_ne (ne_of_none h sp)]; exact e.ex b u h, fun a u h => ?_, e.val, fun i l od h => ?_, e.dis, ?tb⟩
  case tb =>
    have n1 : ∀ ps, o ≠ .tbl ps ∨ ∀ q ∈ τ.t, q.1 ≠ p := fun _ => .inr e.tb.inF
    refine ⟨fun q hq => ?_, e.tb.nS, fun q hq => by rw [upd_ne (e.tb.inF q hq)]; have := e.tb.nF q hq; rw [upd_ne (e.tb.inF q hq)] at this; exact this, e.tb.ks, fun b u z => by have := e.tb.kf b u z; rw [upd_ne (ne_of_none z gp)] at this ⊢; exact this⟩
    obtain ⟨ps, h1, h2, h3⟩ := e.tb.tab q hq
    refine ⟨ps, by rw [upd_ne (e.tb.inF q hq)]; exact h1, h2, fun pos cv hc => ?_⟩
    obtain ⟨c, e1, e2⟩ := h3 pos cv hc
    have ncp : c ≠ p := fun z => by rw [z, hp] at e2; exact nc _ _ (Option.some.inj e2)
    exact ⟨c, e1, by rw [upd_ne ncp]; exact e2⟩
  · by_cases ha : a = p
    · subst ha; rw [upd_same] at h ⊢; exact ⟨h, sp⟩
    · rw [upd_ne ha] at h ⊢; exact e.fr a u (by rw [upd_ne ha]; exact h)
  · obtain ⟨h1, h2, h3, ob, h4, h5⟩ := e.own i l od h
    have ne : l ≠ p := fun z => by rw [z, upd_same] at h3; cases h3
    rw [upd_ne ne] at h3
    rw [upd_ne ne, upd_ne ne]
    exact ⟨h1, h2, h3, ob, h4, h5⟩
/-- it is done: it never changes any more -/
theorem ER.doneF {p : Addr} {o : HO} (e : ER K τ S (upd F p o) H ρ σ) (fp : F p = none) (gp : τ.gf p = none) : ER K τ (upd S p o) F H ρ σ ∧ Same S (upd S p o) := by
  obtain ⟨hp, sp⟩ := e.fr p o upd_same
  have sS : Same S (upd S p o) := fun b u h => by rw [upd_ne (ne_of_none h sp)]; exact h
  refine ⟨⟨e.len, fun b u h => ?_, fun a u h => ?_, fun i d h => ?_, fun i l od h => ?_, e.dis, ⟨e.tb.tab, fun q hq => by rw [upd_ne (e.tb.inF q hq)]; exact e.tb.nS q hq, (e.tb.lessF fp gp).nF, (fun b u z => by rw [upd_ne (ne_of_none (e.tb.ks b u z) sp)]; exact e.tb.ks b u z), (e.tb.lessF fp gp).kf⟩⟩, sS⟩
  · by_cases hb : b = p
    · subst hb; rw [upd_same] at h; cases h; exact hp
    · rw [upd_ne hb] at h; exact e.ex b u h
  · have ne := ne_of_none h fp
    obtain ⟨a1, a2⟩ := e.fr a u (by rw [upd_ne ne]; exact h)
    rw [upd_ne ne]; exact ⟨a1, a2⟩
  · obtain ⟨v, a1, a2⟩ := e.val i d h
    exact ⟨v, a1, a2.mono sS⟩
  · obtain ⟨h1, h2, h3, ob, h4, h5⟩ := e.own i l od h
    have ne : l ≠ p := fun z => by rw [z, upd_same] at h3; cases h3
    rw [upd_ne ne] at h3
    rw [upd_ne ne]
    exact ⟨h1, h2, h3, ob, h4, h5.mono sS⟩
end
/-- a target within a comprehension: its slots are the comprehension's own -/
def lGc (K : Fg) (τ : Tb) (vs : List Nat) (g : WG) : TG := fun x σ H Q => ∃ ρ S F d Φ, ER K τ S F H ρ σ ∧ Is K S x d ∧ g d ρ Φ ∧ ∀ ρ' S' σ' H', Φ ρ' → Same S S' → ER K τ S' F H' ρ' σ' → wipe σ' vs = wipe σ vs → Q σ' H'
def lGcs (K : Fg) (τ : Tb) (vs : List Nat) (g : WGs) : TGs := fun xs σ H Q => ∃ ρ S F ds Φ, ER K τ S F H ρ σ ∧ IsAll K S xs ds ∧ g ds ρ Φ ∧ ∀ ρ' S' σ' H', Φ ρ' → Same S S' → ER K τ S' F H' ρ' σ' → wipe σ' vs = wipe σ vs → Q σ' H'
section
variable {K : Fg} {vs : List Nat}
theorem gc_name {i : Nat} (hi : i ∈ vs) : ∀ x σ H Q, lGc K τ vs (wgName i) x σ H Q → gName i x σ H Q := by
  rintro x σ H Q ⟨ρ, S, F, d, Φ, e, hx, hg, hp⟩
  exact hp _ S _ H hg (Same.refl S) (e.set hx) (wipe_set hi)
theorem gc_nil : ∀ x σ H Q, lGcs K τ vs wgNil x σ H Q → gNil x σ H Q := by
  rintro x σ H Q ⟨ρ, S, F, d, Φ, e, hi, ⟨h1, hg⟩, hp⟩
  subst h1
  cases hi
  exact ⟨rfl, hp _ S _ H hg (Same.refl S) e rfl⟩
theorem gc_cons {g : WG} {gs : WGs} : ∀ x σ H Q, lGcs K τ vs (wgCons g gs) x σ H Q → gCons (lGc K τ vs g) (lGcs K τ vs gs) x σ H Q := by
  rintro x σ H Q ⟨ρ, S, F, ds, Φ, e, hi, hg, hp⟩
  cases hi with
  | nil => exact hg.elim
  | cons a b => exact ⟨_, _, rfl, ρ, S, F, _, _, e, a, hg, fun ρ' S' σ' H' q s' e' w' => ⟨ρ', S', F, _, _, e', b.mono s', q, fun ρ2 S2 σ2 H2 q2 s2 e2 w2 => hp ρ2 S2 σ2 H2 q2 (s'.trans s2) e2 (w2.trans w')⟩⟩
theorem gc_tup {n : Nat} {gs : WGs} : ∀ x σ H Q, lGc K τ vs (wgTup n gs) x σ H Q → gTup K n (lGcs K τ vs gs) x σ H Q := by
  rintro x σ H Q ⟨ρ, S, F, d, Φ, e, hi, hg, hp⟩
  cases hi with
  | tup h1 h2 => exact ⟨_, _, rfl, .inl (.inl (e.ex _ _ h1)), h2.length.trans hg.1, ρ, S, F, _, Φ, e, h2, hg.2, hp⟩
  | _ => exact False.elim hg
end
def wTrue : WT := fun ρ _ Φ => Φ true ρ
theorem l_yes {K : Fg} {W : WX} : ∀ σ H Q, lT K τ W wTrue σ H Q → tYes σ H Q := by
  rintro σ H Q ⟨ρ, S, F, χ, Φ, e, hw, hx, hp⟩
  exact hp true ρ S H hw (Same.refl S) e
def wLcL (g : WG) (wt : WT) (we : WE) (vs : List Nat) : List D → List D → Rho → (List D → Rho → Prop) → Prop
  | [], acc, ρ, Φ => Φ acc ρ
  | d :: ds, acc, ρ, Φ => g d ρ fun ρ1 => wt ρ1 χ0 fun b ρ2 => if b = true then we ρ2 χ0 fun y ρ3 => acc.length < sizeLine ∧ wLcL g wt we vs ds (acc ++ [y]) (wipeR ρ3 vs) Φ else wLcL g wt we vs ds acc (wipeR ρ2 vs) Φ
def wLc (wi : WL) (g : WG) (wt : WT) (we : WE) (vs : List Nat) : WE := fun ρ χ Φ => wi ρ χ fun ds ρ1 => wLcL g wt we vs ds [] (wipeR ρ1 vs) fun ys ρ2 => Φ (.lst ys) (backR ρ1 ρ2 vs)
theorem l_lc {K : Fg} {W : WX} {wi : WL} {g : WG} {wt : WT} {we : WE} {vs : List Nat} : ∀ σ H Q, lE K τ W (wLc wi g wt we vs) σ H Q → tLc (lI K τ W wi) (lGc K τ vs g) (lT K τ W0 wt) (lE K τ W0 we) vs σ H Q := by
  rintro σ H Q ⟨ρ, S, F, χ, Φ, e, hw, hx, hp⟩
  refine ⟨ρ, S, F, χ, _, e, hw, hx, fun J ds ρ1 S1 H1 q1 s1 e1 wk => fun L hL => ?_⟩
  have fL := e1.fp hL
  have gL := e1.tb.free fL
  refine ⟨fun i m H' => m = ds.length - i ∧ i ≤ ds.length ∧ ∃ ρ' S' us acc, Same S1 S' ∧ ER K τ S' (upd F L (.lst us)) H' ρ' (wipe σ vs) ∧ IsAll K S' us acc ∧ wLcL g wt we vs (ds.drop i) acc ρ' (fun ys ρ2 => Φ (.lst ys) (backR ρ1 ρ2 vs)),
    ⟨_, rfl, Nat.zero_le _, wipeR ρ1 vs, S1, [], [], Same.refl S1, (e1.wipe vs).addF hL, .nil, q1⟩, ?_⟩
  rintro i m H' ⟨rfl, hi, ρ', S', us, acc, s', e', iu, q⟩
  by_cases hlt : i < ds.length
  · refine .inr ⟨wk.go i H' hlt (s'.trans e'.ex), fun H2 => ∃ ρ2 S2 us2 acc2, Same S1 S2 ∧ ER K τ S2 (upd F L (.lst us2)) H2 ρ2 (wipe σ vs) ∧ IsAll K S2 us2 acc2 ∧ wLcL g wt we vs (ds.drop (i + 1)) acc2 ρ2 (fun ys ρ3 => Φ (.lst ys) (backR ρ1 ρ3 vs)), fun H2 n2 => ⟨ds.length - (i + 1), by omega, rfl, hlt, n2⟩, fun x H2 y => ?_⟩
    obtain ⟨d, hd, y2⟩ := wk.yld i H' x H2 hlt (s'.trans e'.ex) y
    obtain ⟨S2, s2, i2, e2⟩ := y2 S' _ ρ' _ s' e'
    have ed : ds.drop i = d :: ds.drop (i + 1) := by
      rw [(List.drop_eq_getElem_cons hlt)]
      rw [List.getElem?_eq_getElem hlt] at hd
      rw [Option.some.inj hd]
    rw [ed] at q
    refine ⟨ρ', S2, _, d, _, e2, i2, q, fun ρ3 S3 σ3 H3 q3 s3 e3 w3 => ⟨w3.trans wipe_wipe, ?_⟩⟩
    have w3' : wipe σ3 vs = wipe σ vs := w3.trans wipe_wipe
    refine ⟨ρ3, S3, _, χ0, _, e3, q3, XOk.none, fun b ρ4 S4 H4 q4 s4 e4 => ?_⟩
    cases b with
    | false =>
      rw [if_neg Bool.false_ne_true] at q4 ⊢
      have e5 := e4.wipe vs
      rw [w3'] at e5
      exact ⟨_, S4, us, acc, ((s'.trans s2).trans s3).trans s4, e5, iu.mono ((s2.trans s3).trans s4), q4⟩
    | true =>
      rw [if_pos rfl] at q4 ⊢
      refine ⟨ρ4, S4, _, χ0, _, e4, q4, XOk.none, fun v dv ρ5 S5 H5 q5 s5 i5 e5 => ?_⟩
      obtain ⟨hl, q5⟩ := q5
      obtain ⟨h5, _⟩ := e5.fr L _ upd_same
      have iu5 := iu.mono (((s2.trans s3).trans s4).trans s5)
      refine ⟨us, h5, by rw [iu.length]; exact hl, ?_⟩
      have e6 := (e5.wipe vs).chF (o' := .lst (us ++ [v])) gL (fun c q z => by unfold LamX.CodeO at z; cases z)
      rw [w3'] at e6
      exact ⟨_, S5, us ++ [v], acc ++ [dv], (((s'.trans s2).trans s3).trans s4).trans s5, e6, iu5.append (.cons i5 .nil), q5⟩
  · have ei : i = ds.length := by omega
    subst ei
    rw [List.drop_length] at q
    refine .inl ⟨wk.stop H' (s'.trans e'.ex), ?_⟩
    obtain ⟨e7, s7⟩ := e'.doneF fL gL
    exact hp _ _ _ _ H' q ((s1.trans s').trans s7) (.lst upd_same (iu.mono s7)) (e1.restore (s'.trans s7) e7)
end DL
set_option Elab.async false
set_option autoImplicit false
set_option linter.all false
set_option maxRecDepth 100000
set_option maxHeartbeats 3900000
namespace DL
open L2 PyProof.Rows PySem PySem.Spec
variable {τ : Tb}

/-! ### objects of one's own -/
section
variable {K : Fg} {S F H : Hp} {ρ : Rho} {σ : L2.St}
theorem ER.addH {p : Addr} {o : HO} (e : ER K τ S F H ρ σ) (hp : H p = none) : ER K τ S F (upd H p o) ρ σ := by
  have sp := e.sp hp
  refine ⟨e.len, fun b u h => by rw [upd_ne (ne_of_none h sp)]; exact e.ex b u h, fun a u h => ?_, e.val, fun i l od h => ?_, e.dis, e.tb.newH hp⟩
  · obtain ⟨a1, a2⟩ := e.fr a u h
    rw [upd_ne (ne_of_none a1 hp)]; exact ⟨a1, a2⟩
  · obtain ⟨h1, h2, h3, ob, h4, h5⟩ := e.own i l od h
    have ne := ne_of_none h4 hp
    rw [upd_ne ne]
    exact ⟨h1, h2, h3, ob, h4, h5⟩
theorem ER.notOwn {p : Addr} (e : ER K τ S F H ρ σ) (hp : H p = none) : ∀ (j : Nat) (o2 : OD), ρ[j]? ≠ some (Sl.own p o2) := fun j o2 h => by
  obtain ⟨_, _, _, ob, h4, _⟩ := e.own j p o2 h
  rw [hp] at h4; cases h4
end
abbrev WEO := Rho → XC → (Addr → OD → Rho → Prop) → Prop
def lEO (K : Fg) (τ : Tb) (W : WX) (w : WEO) : TE := fun σ H Q => ∃ ρ S F χ Φ, ER K τ S F H ρ σ ∧ w ρ χ Φ ∧ XOk K τ F W S χ ∧ ∀ l od o ρ' S' H', Φ l od ρ' → Same S S' → H' l = some o → OIs K S' o od → S' l = none → F l = none → (∀ (j : Nat) (o2 : OD), ρ'[j]? ≠ some (Sl.own l o2)) → ER K τ S' F H' ρ' σ → Q (.ref l) H'
def woLst (wl : WL) : WEO := fun ρ χ Φ => wl ρ χ fun xs ρ1 => xs.length ≤ sizeLine ∧ ∀ l, Φ l (.l xs) ρ1
def woLstOf (wa : WL) : WEO := fun ρ χ Φ => wa ρ χ fun ds ρ1 => match ds with
  | [.lst xs] => ∀ l, Φ l (.l xs) ρ1
  | [.tup xs] => ∀ l, Φ l (.l xs) ρ1
  | _ => False
def woDic : WEO := fun ρ _ Φ => ∀ l, Φ l (.k [] []) ρ
def woLc (wi : WL) (g : WG) (wt : WT) (we : WE) (vs : List Nat) : WEO := fun ρ χ Φ => wi ρ χ fun ds ρ1 => wLcL g wt we vs ds [] (wipeR ρ1 vs) fun ys ρ2 => ∀ l, Φ l (.l ys) (backR ρ1 ρ2 vs)
section
variable {K : Fg} {W : WX} {wl : WL}
theorem lo_lst : ∀ σ H Q, lEO K τ W (woLst wl) σ H Q → tLst (lL K τ W wl) σ H Q := by
  rintro σ H Q ⟨ρ, S, F, χ, Φ, e, hw, hx, hp⟩
  refine ⟨ρ, S, F, χ, _, e, hw, hx, fun xs ds ρ1 S1 H1 h1 s1 i1 e1 => ⟨by rw [i1.length]; exact h1.1, fun p hp1 => ?_⟩⟩
  exact hp p _ _ ρ1 S1 _ (h1.2 p) s1 upd_same (.l i1) (e1.sp hp1) (e1.fp hp1) (e1.notOwn hp1) (e1.addH hp1)
theorem lo_lstOf : ∀ σ H Q, lEO K τ W (woLstOf wl) σ H Q → tCB (fun xs H Q => ∃ p ys, xs = [.ref p] ∧ (SqL K H p ys ∨ SqT K H p ys) ∧ ∀ l, H l = none → Q (.ref l) (upd H l (.lst ys))) (lL K τ W wl) σ H Q := by
  rintro σ H Q ⟨ρ, S, F, χ, Φ, e, hw, hx, hp⟩
  refine ⟨ρ, S, F, χ, _, e, hw, hx, fun xs ds ρ1 S1 H1 h1 s1 i1 e1 => ?_⟩
  split at h1
  · obtain ⟨v, rfl, iv⟩ := isAll1 i1
    cases iv with
    | lst a1 a2 => exact ⟨_, _, rfl, .inl (.inl (.inl (e1.ex _ _ a1))), fun p hp1 => hp p _ _ ρ1 S1 _ (h1 p) s1 upd_same (.l a2) (e1.sp hp1) (e1.fp hp1) (e1.notOwn hp1) (e1.addH hp1)⟩
  · obtain ⟨v, rfl, iv⟩ := isAll1 i1
    cases iv with
    | tup a1 a2 => exact ⟨_, _, rfl, .inr (.inl (.inl (e1.ex _ _ a1))), fun p hp1 => hp p _ _ ρ1 S1 _ (h1 p) s1 upd_same (.l a2) (e1.sp hp1) (e1.fp hp1) (e1.notOwn hp1) (e1.addH hp1)⟩
  · exact h1.elim
theorem lo_dic : ∀ σ H Q, lEO K τ W woDic σ H Q → tDNewK σ H Q := by
  rintro σ H Q ⟨ρ, S, F, χ, Φ, e, hw, hx, hp⟩
  intro p hp1
  exact hp p _ _ ρ S _ (hw p) (Same.refl S) upd_same (.k rfl .nil) (e.sp hp1) (e.fp hp1) (e.notOwn hp1) (e.addH hp1)
theorem lo_lc {wi : WL} {g : WG} {wt : WT} {we : WE} {vs : List Nat} : ∀ σ H Q, lEO K τ W (woLc wi g wt we vs) σ H Q → tLc (lI K τ W wi) (lGc K τ vs g) (lT K τ W0 wt) (lE K τ W0 we) vs σ H Q := by
  rintro σ H Q ⟨ρ, S, F, χ, Φ, e, hw, hx, hp⟩
  refine ⟨ρ, S, F, χ, _, e, hw, hx, fun J ds ρ1 S1 H1 q1 s1 e1 wk => fun L hL => ?_⟩
  have fL := e1.fp hL
  have gL := e1.tb.free fL
  refine ⟨fun i m H' => m = ds.length - i ∧ i ≤ ds.length ∧ ∃ ρ' S' us acc, Same S1 S' ∧ ER K τ S' (upd F L (.lst us)) H' ρ' (wipe σ vs) ∧ IsAll K S' us acc ∧ wLcL g wt we vs (ds.drop i) acc ρ' (fun ys ρ2 => ∀ l, Φ l (.l ys) (backR ρ1 ρ2 vs)),
    ⟨_, rfl, Nat.zero_le _, wipeR ρ1 vs, S1, [], [], Same.refl S1, (e1.wipe vs).addF hL, .nil, q1⟩, ?_⟩
  rintro i m H' ⟨rfl, hi, ρ', S', us, acc, s', e', iu, q⟩
  by_cases hlt : i < ds.length
  · refine .inr ⟨wk.go i H' hlt (s'.trans e'.ex), fun H2 => ∃ ρ2 S2 us2 acc2, Same S1 S2 ∧ ER K τ S2 (upd F L (.lst us2)) H2 ρ2 (wipe σ vs) ∧ IsAll K S2 us2 acc2 ∧ wLcL g wt we vs (ds.drop (i + 1)) acc2 ρ2 (fun ys ρ3 => ∀ l, Φ l (.l ys) (backR ρ1 ρ3 vs)), fun H2 n2 => ⟨ds.length - (i + 1), by omega, rfl, hlt, n2⟩, fun x H2 y => ?_⟩
    obtain ⟨d, hd, y2⟩ := wk.yld i H' x H2 hlt (s'.trans e'.ex) y
    obtain ⟨S2, s2, i2, e2⟩ := y2 S' _ ρ' _ s' e'
    have ed : ds.drop i = d :: ds.drop (i + 1) := by
      rw [(List.drop_eq_getElem_cons hlt)]
      rw [List.getElem?_eq_getElem hlt] at hd
      rw [Option.some.inj hd]
    rw [ed] at q
    refine ⟨ρ', S2, _, d, _, e2, i2, q, fun ρ3 S3 σ3 H3 q3 s3 e3 w3 => ⟨w3.trans wipe_wipe, ?_⟩⟩
    have w3' : wipe σ3 vs = wipe σ vs := w3.trans wipe_wipe
    refine ⟨ρ3, S3, _, χ0, _, e3, q3, XOk.none, fun b ρ4 S4 H4 q4 s4 e4 => ?_⟩
    cases b with
    | false =>
      rw [if_neg Bool.false_ne_true] at q4 ⊢
      have e5 := e4.wipe vs
      rw [w3'] at e5
      exact ⟨_, S4, us, acc, ((s'.trans s2).trans s3).trans s4, e5, iu.mono ((s2.trans s3).trans s4), q4⟩
    | true =>
      rw [if_pos rfl] at q4 ⊢
      refine ⟨ρ4, S4, _, χ0, _, e4, q4, XOk.none, fun v dv ρ5 S5 H5 q5 s5 i5 e5 => ?_⟩
      obtain ⟨hl, q5⟩ := q5
      obtain ⟨h5, _⟩ := e5.fr L _ upd_same
      have iu5 := iu.mono (((s2.trans s3).trans s4).trans s5)
      refine ⟨us, h5, by rw [iu.length]; exact hl, ?_⟩
      have e6 := (e5.wipe vs).chF (o' := .lst (us ++ [v])) gL (fun c q z => by unfold LamX.CodeO at z; cases z)
      rw [w3'] at e6
      exact ⟨_, S5, us ++ [v], acc ++ [dv], (((s'.trans s2).trans s3).trans s4).trans s5, e6, iu5.append (.cons i5 .nil), q5⟩
  · have ei : i = ds.length := by omega
    subst ei
    rw [List.drop_length] at q
    refine .inl ⟨wk.stop H' (s'.trans e'.ex), ?_⟩
    obtain ⟨hL2, sL2⟩ := e'.fr L _ upd_same
    have e8 : ER K τ S' F H' ρ' (wipe σ vs) := by
      refine ⟨e'.len, e'.ex, fun a o h => e'.fr a o (by rw [upd_ne (ne_of_none h fL)]; exact h), e'.val, fun i l od h => ?_, e'.dis, e'.tb.lessF fL gL⟩
      obtain ⟨a1, a2, a3, a4⟩ := e'.own i l od h
      have ne : l ≠ L := fun z => by rw [z, upd_same] at a3; cases a3
      rw [upd_ne ne] at a3
      exact ⟨a1, a2, a3, a4⟩
    refine hp L _ _ _ S' H' (q L) (s1.trans s') hL2 (.l iu) sL2 fL (fun j o2 h => ?_) (e1.restore s' e8)
    rcases backR_at h with z | ⟨_, ⟨d, z⟩, _⟩ | ⟨_, z2⟩
    · cases z
    · cases z
    · have a3 := (e'.own j L o2 z2).2.2.1
      rw [upd_same] at a3
      cases a3
end
def wAsgO (i : Nat) (wo : WEO) : WS := fun ρ Δ => wo ρ Δ.xc fun l od ρ1 => Δ.nx (ρ1.set i (.own l od))
theorem l_asgO {K : Fg} {W : WX} {wo : WEO} {i : Nat} : ∀ D σ H, lS K τ W (wAsgO i wo) D σ H → tAsg (lEO K τ W wo) (gName i) D σ H := by
  rintro D σ H ⟨ρ, S, F, Δ, e, hw, hx, h1, h2, h3, h4, h5⟩
  exact ⟨ρ, S, F, _, _, e, hw, hx, fun l od o ρ' S' H' q s' a1 a2 a3 a4 a5 e' => h1 _ S' _ H' q s' (e'.setOwn a1 a3 a4 a2 a5)⟩
theorem l_retO {K : Fg} {W : WX} {wo : WEO} : ∀ D σ H, lS K τ W (wRetO wo) D σ H → tRet (lEO K τ W wo) D σ H := by
  rintro D σ H ⟨ρ, S, F, Δ, e, hw, hx, h1, h2, h3, h4, h5⟩
  exact ⟨ρ, S, F, _, _, e, hw, hx, fun l od o ρ' S' H' q s' a1 a2 a3 a4 a5 e' => h5 l od o ρ' S' _ H' q s' a1 a2 a3 a4 e'⟩
/-- x[e] of one's own list -/
def wIxO (i : Nat) (wi : WE) : WE := fun ρ χ Φ => (∃ l xs, ρ[i]? = some (Sl.own l (.l xs))) ∧ wi ρ χ fun k ρ1 => match k, ρ1[i]? with
  | .int j, some (.own _ (.l xs)) => ∃ d, atI xs j = some d ∧ Φ d ρ1
  | _, _ => False
/-- len(x) of one's own list -/
def wLenO (i : Nat) : WE := fun ρ _ Φ => match ρ[i]? with
  | some (.own _ (.l xs)) => Φ (.int xs.length) ρ
  | _ => False
/-- x.append(e) -/
def wApp (i : Nat) (wa : WE) : WS := fun ρ Δ => (∃ l xs, ρ[i]? = some (Sl.own l (.l xs))) ∧ wa ρ Δ.xc fun d ρ1 => match ρ1[i]? with
  | some (.own l (.l xs)) => xs.length < sizeLine ∧ Δ.nx (ρ1.set i (.own l (.l (xs ++ [d]))))
  | _ => False
/-- x[k] = e -/
def wSetO (i : Nat) (wk wa : WE) : WS := fun ρ Δ => wa ρ Δ.xc fun d ρ1 => (∃ l xs, ρ1[i]? = some (Sl.own l (.l xs))) ∧ wk ρ1 Δ.xc fun k ρ2 => match k, ρ2[i]? with
  | .int z, some (.own l (.l xs)) => ∃ j, ixN xs.length z = some j ∧ Δ.nx (ρ2.set i (.own l (.l (xs.set j d))))
  | _, _ => False
section
variable {K : Fg} {W : WX} {wa wk : WE} {i : Nat}
theorem l_ixO : ∀ σ H Q, lE K τ W (wIxO i wk) σ H Q → tOp (rIx K) (tVar i) (lE K τ W wk) σ H Q := by
  rintro σ H Q ⟨ρ, S, F, χ, Φ, e, ⟨⟨l, xs, hl⟩, hw⟩, hx, hp⟩
  obtain ⟨hσ, _⟩ := e.own i l _ hl
  refine ⟨.ref l, hσ, ρ, S, F, χ, _, e, hw, hx, fun x dx ρ1 S1 H1 h1 s1 i1 e1 => ?_⟩
  split at h1
  · rename_i j l' ys hl'
    obtain ⟨b1, b2, b3, ob, b4, b5⟩ := e1.own i l' _ hl'
    rw [hσ] at b1
    cases b1
    cases i1
    cases b5 with
    | l b6 =>
      obtain ⟨d, h2, h3⟩ := h1
      obtain ⟨v, h4, h5⟩ := atI_all b6 h2
      exact .inl ⟨_, _, _, v, rfl, rfl, .inl (.inl b4), h4, hp v d ρ1 S1 H1 h3 s1 h5 e1⟩
  · exact h1.elim
theorem l_lenO : ∀ σ H Q, lE K τ W (wLenO i) σ H Q → tCB (rLenD K) (tCons (tVar i) tNil) σ H Q := by
  rintro σ H Q ⟨ρ, S, F, χ, Φ, e, hw, hx, hp⟩
  unfold wLenO at hw
  split at hw
  · rename_i l xs hl
    obtain ⟨b1, b2, b3, ob, b4, b5⟩ := e.own i l _ hl
    cases b5 with
    | l b6 => exact ⟨.ref l, b1, .inl ⟨l, _, rfl, .inl (.inl (.inl b4)), by rw [b6.length]; exact hp _ _ ρ S H hw (Same.refl S) (.int _) e⟩⟩
  · exact hw.elim
theorem l_app : ∀ D σ H, lS K τ W (wApp i wa) D σ H → tDrop (tBM K "list" rAppend (tVar i) (tCons (lE K τ W wa) tNil)) D σ H := by
  rintro D σ H ⟨ρ, S, F, Δ, e, ⟨⟨l, xs, hl⟩, hw⟩, hx, h1, h2, h3, h4, h5⟩
  obtain ⟨hσ, a2, a3, ob, a4, a5⟩ := e.own i l _ hl
  cases a5 with
  | l a6 =>
    refine ⟨.ref l, hσ, .inl ⟨rfl, _, .inl (.inl a4)⟩, ρ, S, F, _, _, e, hw, hx, fun x dx ρ1 S1 H1 q1 s1 i1 e1 => ?_⟩
    split at q1
    · rename_i l' ys hl'
      obtain ⟨b1, b2, b3, ob, b4, b5⟩ := e1.own i l' _ hl'
      rw [hσ] at b1
      cases b1
      cases b5 with
      | l b6 => exact ⟨l, _, x, rfl, rfl, b4, by rw [b6.length]; exact q1.1, h1 _ S1 _ _ q1.2 s1 (e1.wr hl' (.l (b6.append (.cons i1 .nil))))⟩
    · exact q1.elim
theorem l_setO : ∀ D σ H, lS K τ W (wSetO i wk wa) D σ H → tAsg (lE K τ W wa) (gSub (tVar i) (lE K τ W wk) rSetL) D σ H := by
  rintro D σ H ⟨ρ, S, F, Δ, e, hw, hx, h1, h2, h3, h4, h5⟩
  refine ⟨ρ, S, F, _, _, e, hw, hx, fun x dx ρ1 S1 H1 q1 s1 i1 e1 => ?_⟩
  obtain ⟨⟨l, xs, hl⟩, q1⟩ := q1
  obtain ⟨hσ, _⟩ := e1.own i l _ hl
  refine ⟨.ref l, hσ, ρ1, S1, F, _, _, e1, q1, hx.mono s1, fun y dy ρ2 S2 H2 q2 s2 i2 e2 => ?_⟩
  split at q2
  · rename_i z l' ys hl'
    obtain ⟨b1, b2, b3, ob, b4, b5⟩ := e2.own i l' _ hl'
    rw [hσ] at b1
    cases b1
    cases i2
    cases b5 with
    | l b6 =>
      obtain ⟨j, q3, q4⟩ := q2
      exact ⟨l, _, z, j, rfl, rfl, b4, by rw [b6.length]; exact q3, h1 _ S2 _ _ q4 (s1.trans s2) (e2.wr hl' (.l (IsAll.set (i1.mono s2) j b6)))⟩
  · exact q2.elim
end

/-! ### dicts -/
def keyD : D → Option Key
  | .int i => some (.inl i)
  | .str s => some (.inr s)
  | _ => none
def valD : List Key → List D → Key → Option D
  | k :: ks, d :: ds, x => if k = x then some d else valD ks ds x
  | _, _, _ => none
theorem keyD_is {K : Fg} {S : Hp} {v : V} {d : D} {k : Key} (h : Is K S v d) (e : keyD d = some k) : v = kV k := by
  cases h <;> unfold keyD at e <;> cases e <;> rfl
theorem valD_is {K : Fg} {S : Hp} {x : Key} : ∀ {kvs : List (Key × V)} {ds : List D}, IsAll K S (kvs.map (·.2)) ds → (valD (kvs.map (·.1)) ds x = none ∧ valV kvs x = none) ∨ ∃ d v, valD (kvs.map (·.1)) ds x = some d ∧ valV kvs x = some v ∧ Is K S v d
  | [], ds, hi => by
    cases hi
    exact .inl ⟨rfl, rfl⟩
  | (k, v) :: kvs, ds, hi => by
    cases hi with
    | @cons _ _ d ds' a b =>
      by_cases e : k = x
      · exact .inr ⟨d, v, by show (if k = x then some d else _) = _; rw [if_pos e], valV_pos e, a⟩
      · have q := valD_is (x := x) b
        have e1 : valD (((k, v) :: kvs).map (·.1)) (d :: ds') x = valD (kvs.map (·.1)) ds' x := by show (if k = x then some d else _) = _; rw [if_neg e]
        rw [e1, valV_neg (p := (k, v)) e]
        exact q
def wDGet (wa wk : WE) : WE := fun ρ χ Φ => wa ρ χ fun x ρ1 => wk ρ1 χ fun y ρ2 => match x with
  | .dic ks ds => ∃ k d, keyD y = some k ∧ valD ks ds k = some d ∧ Φ d ρ2
  | _ => False
def wDGet2 (wa wk wz : WE) : WE := fun ρ χ Φ => wa ρ χ fun x ρ1 => match x with
  | .dic ks ds => wk ρ1 χ fun y ρ2 => wz ρ2 χ fun z ρ3 => ∃ k, keyD y = some k ∧ Φ ((valD ks ds k).getD z) ρ3
  | _ => False
def wDIn (neg : Bool) (wk wa : WE) : WE := fun ρ χ Φ => wk ρ χ fun y ρ1 => wa ρ1 χ fun x ρ2 => match x with
  | .dic ks ds => ∃ k, keyD y = some k ∧ Φ (.bl (if neg = true then !(valD ks ds k).isSome else (valD ks ds k).isSome)) ρ2
  | _ => False
section
variable {K : Fg} {W : WX} {wa wk wz : WE}
theorem l_dget : ∀ σ H Q, lE K τ W (wDGet wa wk) σ H Q → tDGet (lE K τ W wa) (lE K τ W wk) σ H Q := by
  rintro σ H Q ⟨ρ, S, F, χ, Φ, e, hw, hx, hp⟩
  refine ⟨ρ, S, F, χ, _, e, hw, hx, fun x dx ρ1 S1 H1 h1 s1 i1 e1 => ?_⟩
  refine ⟨ρ1, S1, F, χ, _, e1, h1, hx.mono s1, fun y dy ρ2 S2 H2 h2 s2 i2 e2 => ?_⟩
  cases i1.mono s2 with
  | dic a1 a2 a3 =>
    obtain ⟨k, d, h3, h4, h5⟩ := h2
    subst a2
    rw [keyD_is i2 h3]
    rcases valD_is (x := k) a3 with ⟨z, _⟩ | ⟨d', v, z1, z2, z3⟩
    · rw [h4] at z; cases z
    · rw [h4] at z1
      cases z1
      refine ⟨_, v, rfl, ?_, hp v d ρ2 S2 H2 h5 (s1.trans s2) z3 e2⟩
      rw [← z2]
      exact DGet.k (e2.ex _ _ a1)
  | _ => exact False.elim h2
theorem l_dget2 : ∀ σ H Q, lE K τ W (wDGet2 wa wk wz) σ H Q → tDGet2 (lE K τ W wa) (lE K τ W wk) (lE K τ W wz) σ H Q := by
  rintro σ H Q ⟨ρ, S, F, χ, Φ, e, hw, hx, hp⟩
  refine ⟨ρ, S, F, χ, _, e, hw, hx, fun x dx ρ1 S1 H1 h1 s1 i1 e1 => ?_⟩
  cases i1 with
  | dic a1 a2 a3 =>
    refine ⟨_, rfl, .inl ⟨_, .inl (e1.ex _ _ a1)⟩, ρ1, S1, F, χ, _, e1, h1, hx.mono s1, fun y dy ρ2 S2 H2 h2 s2 i2 e2 => ?_⟩
    refine ⟨ρ2, S2, F, χ, _, e2, h2, hx.mono (s1.trans s2), fun z dz ρ3 S3 H3 h3 s3 i3 e3 => ?_⟩
    obtain ⟨k, h4, h5⟩ := h3
    subst a2
    rw [keyD_is i2 h4]
    refine ⟨_, DGet.k (e3.ex _ _ (s3 _ _ (s2 _ _ a1))), ?_⟩
    rcases valD_is (x := k) a3 with ⟨z1, z2⟩ | ⟨d', v, z1, z2, z3⟩
    · rw [z1] at h5
      rw [z2]
      exact hp _ _ ρ3 S3 H3 h5 ((s1.trans s2).trans s3) i3 e3
    · rw [z1] at h5
      rw [z2]
      exact hp _ _ ρ3 S3 H3 h5 ((s1.trans s2).trans s3) (z3.mono (s2.trans s3)) e3
  | _ => exact False.elim h1
theorem l_din : ∀ σ H Q, lE K τ W (wDIn false wk wa) σ H Q → tDIn (lE K τ W wk) (lE K τ W wa) σ H Q := by
  rintro σ H Q ⟨ρ, S, F, χ, Φ, e, hw, hx, hp⟩
  refine ⟨ρ, S, F, χ, _, e, hw, hx, fun y dy ρ1 S1 H1 h1 s1 i1 e1 => ?_⟩
  refine ⟨ρ1, S1, F, χ, _, e1, h1, hx.mono s1, fun x dx ρ2 S2 H2 h2 s2 i2 e2 => ?_⟩
  cases i2 with
  | dic a1 a2 a3 =>
    obtain ⟨k, h3, h4⟩ := h2
    subst a2
    rw [keyD_is i1 h3]
    refine ⟨_, _, rfl, DGet.k (e2.ex _ _ a1), ?_⟩
    rcases valD_is (x := k) a3 with ⟨z1, z2⟩ | ⟨d', v, z1, z2, z3⟩
    · rw [z1] at h4
      rw [z2]
      exact hp _ _ ρ2 S2 H2 h4 (s1.trans s2) (.bl _) e2
    · rw [z1] at h4
      rw [z2]
      exact hp _ _ ρ2 S2 H2 h4 (s1.trans s2) (.bl _) e2
  | _ => exact False.elim h2
theorem l_dnin : ∀ σ H Q, lE K τ W (wDIn true wk wa) σ H Q → tDNotIn (lE K τ W wk) (lE K τ W wa) σ H Q := by
  rintro σ H Q ⟨ρ, S, F, χ, Φ, e, hw, hx, hp⟩
  refine ⟨ρ, S, F, χ, _, e, hw, hx, fun y dy ρ1 S1 H1 h1 s1 i1 e1 => ?_⟩
  refine ⟨ρ1, S1, F, χ, _, e1, h1, hx.mono s1, fun x dx ρ2 S2 H2 h2 s2 i2 e2 => ?_⟩
  cases i2 with
  | dic a1 a2 a3 =>
    obtain ⟨k, h3, h4⟩ := h2
    subst a2
    rw [keyD_is i1 h3]
    refine ⟨_, _, rfl, DGet.k (e2.ex _ _ a1), ?_⟩
    rcases valD_is (x := k) a3 with ⟨z1, z2⟩ | ⟨d', v, z1, z2, z3⟩
    · rw [z1] at h4
      rw [z2]
      exact hp _ _ ρ2 S2 H2 h4 (s1.trans s2) (.bl _) e2
    · rw [z1] at h4
      rw [z2]
      exact hp _ _ ρ2 S2 H2 h4 (s1.trans s2) (.bl _) e2
  | _ => exact False.elim h2
end
end DL
set_option Elab.async false
set_option autoImplicit false
set_option linter.all false
set_option maxRecDepth 100000
set_option maxHeartbeats 3900000
namespace DL
open L2 PyProof.Rows PySem PySem.Spec
variable {τ : Tb}

/-! ### f-strings -/
def wJs : List WE → Str → Rho → XC → (Str → Rho → Prop) → Prop
  | [], acc, ρ, _, Φ => Φ acc ρ
  | w :: ws, acc, ρ, χ, Φ => w ρ χ fun x ρ1 => match x with
    | .str y => (acc ++ y).length ≤ sizeLine ∧ wJs ws (acc ++ y) ρ1 χ Φ
    | _ => False
def wFmt (wa : WE) : WE := fun ρ χ Φ => wa ρ χ fun x ρ1 => match x with
  | .str y => y.length ≤ sizeLine ∧ Φ (.str y) ρ1
  | .int i => i.natAbs.log2 < 1920 ∧ Φ (.str (toString i)) ρ1
  | _ => False
def wFs (ws : List WE) : WE := fun ρ χ Φ => wJs ws Str.empty ρ χ fun z ρ1 => Φ (.str z) ρ1
section
variable {K : Fg} {W : WX}
theorem l_fmt {wa : WE} : ∀ σ H Q, lE K τ W (wFmt wa) σ H Q → tFmt (lE K τ W wa) σ H Q := by
  rintro σ H Q ⟨ρ, S, F, χ, Φ, e, hw, hx, hp⟩
  refine ⟨ρ, S, F, χ, _, e, hw, hx, fun x dx ρ1 S1 H1 h1 s1 i1 e1 => ?_⟩
  cases i1 with
  | str y => exact .inl ⟨y, rfl, h1.1, hp _ _ ρ1 S1 H1 h1.2 s1 (.str _) e1⟩
  | int i => exact .inr ⟨i, rfl, h1.1, hp _ _ ρ1 S1 H1 h1.2 s1 (.str _) e1⟩
  | _ => exact False.elim h1
theorem l_js : ∀ (ws : List WE) (acc : Str) σ H (Q : Str → Hp → Prop) ρ S F χ Φ, ER K τ S F H ρ σ → wJs ws acc ρ χ Φ → XOk K τ F W S χ → (∀ z ρ' S' H', Φ z ρ' → Same S S' → ER K τ S' F H' ρ' σ → Q z H') → tJs (ws.map (lE K τ W)) acc σ H Q
  | [], acc, σ, H, Q, ρ, S, F, χ, Φ, e, hw, hx, hp => hp acc ρ S H hw (Same.refl S) e
  | w :: ws, acc, σ, H, Q, ρ, S, F, χ, Φ, e, hw, hx, hp => by
    refine ⟨ρ, S, F, χ, _, e, hw, hx, fun x dx ρ1 S1 H1 h1 s1 i1 e1 => ?_⟩
    cases i1 with
    | str y => exact ⟨y, rfl, h1.1, l_js ws _ σ H1 Q ρ1 S1 F χ Φ e1 h1.2 (hx.mono s1) fun z ρ' S' H' q s' e' => hp z ρ' S' H' q (s1.trans s') e'⟩
    | _ => exact False.elim h1
theorem l_fs {ws : List WE} : ∀ σ H Q, lE K τ W (wFs ws) σ H Q → tJs (ws.map (lE K τ W)) Str.empty σ H fun out H1 => Q (.str out) H1 := by
  rintro σ H Q ⟨ρ, S, F, χ, Φ, e, hw, hx, hp⟩
  exact l_js ws _ σ H _ ρ S F χ _ e hw hx fun z ρ' S' H' q s' e' => hp _ _ ρ' S' H' q s' (.str z) e'
end

/-! ### two names at once -/
def wPar (i j : Nat) (wl : WL) : WS := fun ρ Δ => wl ρ Δ.xc fun ds ρ1 => match ds with
  | [d, d'] => Δ.nx ((ρ1.set i (.val d)).set j (.val d'))
  | _ => False
def wParO (i j : Nat) (wa : WE) (wo : WEO) : WS := fun ρ Δ => wa ρ Δ.xc fun d ρ1 => wo ρ1 Δ.xc fun l od ρ2 => Δ.nx ((ρ2.set i (.val d)).set j (.own l od))
def wPar3 (i j k : Nat) (wl : WL) : WS := fun ρ Δ => wl ρ Δ.xc fun ds ρ1 => match ds with
  | [d, d', d''] => Δ.nx (((ρ1.set i (.val d)).set j (.val d')).set k (.val d''))
  | _ => False
section
variable {K : Fg} {W : WX}
theorem l_par {i j : Nat} {wl : WL} : ∀ D σ H, lS K τ W (wPar i j wl) D σ H → tPar i j (lL K τ W wl) D σ H := by
  rintro D σ H ⟨ρ, S, F, Δ, e, hw, hx, h1, h2, h3, h4, h5⟩
  refine ⟨ρ, S, F, _, _, e, hw, hx, fun vs ds ρ1 S1 H1 q1 s1 i1 e1 => ?_⟩
  split at q1
  · obtain ⟨v, u, rfl, iv, iu⟩ := isAll2 i1
    exact ⟨v, u, rfl, h1 _ S1 _ _ q1 s1 ((e1.set iv).set iu)⟩
  · exact q1.elim
theorem l_par3 {i j k : Nat} {wl : WL} : ∀ D σ H, lS K τ W (wPar3 i j k wl) D σ H → tPar3 i j k (lL K τ W wl) D σ H := by
  rintro D σ H ⟨ρ, S, F, Δ, e, hw, hx, h1, h2, h3, h4, h5⟩
  refine ⟨ρ, S, F, _, _, e, hw, hx, fun vs ds ρ1 S1 H1 q1 s1 i1 e1 => ?_⟩
  split at q1
  · cases i1 with
    | cons iv i1 => cases i1 with
      | cons iu i1 => cases i1 with
        | cons it i1 => cases i1; exact ⟨_, _, _, rfl, h1 _ S1 _ _ q1 s1 (((e1.set iv).set iu).set it)⟩
  · exact q1.elim
theorem notOwn_set {ρ : Rho} {i : Nat} {d : D} {l : Addr} (h : ∀ (j : Nat) (o2 : OD), ρ[j]? ≠ some (Sl.own l o2)) : ∀ (j : Nat) (o2 : OD), (ρ.set i (.val d))[j]? ≠ some (Sl.own l o2) := fun j o2 q => by
  by_cases hj : j = i
  · subst hj
    have hi : j < ρ.length := by
      have := (List.getElem?_eq_some_iff.mp q).1
      rwa [List.length_set] at this
    rw [List.getElem?_set_self hi] at q; cases q
  · rw [List.getElem?_set_ne (Ne.symm hj)] at q; exact h j o2 q
theorem l_parO {i j : Nat} {wa : WE} {wo : WEO} : ∀ D σ H, lS K τ W (wParO i j wa wo) D σ H → tPar i j (tCons (lE K τ W wa) (tCons (lEO K τ W wo) tNil)) D σ H := by
  rintro D σ H ⟨ρ, S, F, Δ, e, hw, hx, h1, h2, h3, h4, h5⟩
  refine ⟨ρ, S, F, _, _, e, hw, hx, fun v d ρ1 S1 H1 q1 s1 i1 e1 => ?_⟩
  refine ⟨ρ1, S1, F, _, _, e1, q1, hx.mono s1, fun l od o ρ2 S2 H2 q2 s2 a1 a2 a3 a4 a5 e2 => ?_⟩
  exact ⟨v, _, rfl, h1 _ S2 _ _ q2 (s1.trans s2) ((e2.set (i1.mono s2)).setOwn a1 a3 a4 a2 (notOwn_set a5))⟩
end

/-! ### a def as a whole -/
theorem er_more {K : Fg} {S F H : Hp} {ρ : Rho} {σ : L2.St} (e : ER K τ S F H ρ σ) (k : Nat) : ER K τ S F H (ρ ++ List.replicate k .un) (σ ++ List.replicate k none) := by
  have at_ : ∀ {i : Nat} {s : Sl}, (ρ ++ List.replicate k Sl.un)[i]? = some s → s = .un ∨ ρ[i]? = some s := fun {i s} h => by
    by_cases hi : i < ρ.length
    · rw [List.getElem?_append_left hi] at h; exact .inr h
    · rw [List.getElem?_append_right (by omega)] at h
      have h2 := List.mem_of_getElem? h
      exact .inl (List.eq_of_mem_replicate h2)
  have go : ∀ {i : Nat} {s : Sl}, ρ[i]? = some s → (σ ++ List.replicate k none)[i]? = σ[i]? := fun {i s} h => by
    have hi := (List.getElem?_eq_some_iff.mp h).1
    rw [List.getElem?_append_left (by rw [← e.len]; exact hi)]
  refine ⟨by rw [List.length_append, List.length_append, e.len, List.length_replicate, List.length_replicate], e.ex, e.fr, fun i d h => ?_, fun i l od h => ?_, fun i j l o o' h1 h2 => ?_, e.tb⟩
  · rcases at_ h with z | z
    · cases z
    · rw [go z]; exact e.val i d z
  · rcases at_ h with z | z
    · cases z
    · rw [go z]; exact e.own i l od z
  · rcases at_ h1 with z | z
    · cases z
    · rcases at_ h2 with z2 | z2
      · cases z2
      · exact e.dis i j l o o' z z2
theorem isAll_of_er {K : Fg} {S F H : Hp} : ∀ {ds : List D} {vs : List V}, ER K τ S F H (args none ds) (vs.map some) → IsAll K S vs ds := by
  intro ds vs e
  have hl : ds.length = vs.length := by have := e.len; rw [args_none, List.length_map, List.length_map] at this; exact this
  have hv : ∀ i d, ds[i]? = some d → ∃ v, vs[i]? = some v ∧ Is K S v d := fun i d h => by
    obtain ⟨v, h1, h2⟩ := e.val i d (by rw [args_none, List.getElem?_map, h]; rfl)
    rw [List.getElem?_map] at h1
    cases q : vs[i]? with
    | none => rw [q] at h1; cases h1
    | some u => rw [q] at h1; cases h1; exact ⟨v, q, h2⟩
  clear e
  induction ds generalizing vs with
  | nil => cases vs with
    | nil => exact .nil
    | cons v vs => cases hl
  | cons d ds ih => cases vs with
    | nil => cases hl
    | cons v vs =>
      obtain ⟨u, h1, h2⟩ := hv 0 d rfl
      cases h1
      exact .cons h2 (ih (by simpa using hl) fun i d h => hv (i + 1) d h)
theorem isAll_of_erO {K : Fg} {S F H : Hp} {ds : List D} {l : Addr} {o : OD} {vs : List V} (e : ER K τ S F H (args (some (l, o)) ds) (vs.map some)) : ∃ us, vs = .ref l :: us ∧ IsAll K S us ds := by
  cases vs with
  | nil => have := e.len; cases this
  | cons v us =>
    obtain ⟨h1, _⟩ := e.own 0 l o rfl
    have h1' : some (some v) = some (some (V.ref l)) := h1
    cases h1'
    refine ⟨us, rfl, ?_⟩
    have hl : ds.length = us.length := by have := e.len; simpa [args] using this
    have hv : ∀ i d, ds[i]? = some d → ∃ v, us[i]? = some v ∧ Is K S v d := fun i d h => by
      obtain ⟨v, h1, h2⟩ := e.val (i + 1) d (by show (ds.map Sl.val)[i]? = _; rw [List.getElem?_map, h]; rfl)
      have h1 : (us.map some)[i]? = some (some v) := h1
      rw [List.getElem?_map] at h1
      cases q : us[i]? with
      | none => rw [q] at h1; cases h1
      | some u => rw [q] at h1; cases h1; exact ⟨v, q, h2⟩
    clear e
    induction ds generalizing us with
    | nil => cases us with
      | nil => exact .nil
      | cons v vs => cases hl
    | cons d ds ih => cases us with
      | nil => cases hl
      | cons v vs =>
        obtain ⟨u, h1, h2⟩ := hv 0 d rfl
        cases h1
        exact .cons h2 (ih vs rfl (by simpa using hl) fun i d h => hv (i + 1) d h)
def outs (hl : Option (Addr × OD)) (ρ : Rho) (P : Option OD → Prop) : Prop := match hl with
  | none => P none
  | some p => ∃ o, ρ[0]? = some (Sl.own p.1 o) ∧ P (some o)
def dEnds (hl : Option (Addr × OD)) (Ψ : D → Option OD → Prop) (Ξ : Addr → Str → D → Prop) : DE where
  nx := fun ρ => outs hl ρ (Ψ .non)
  rt := fun d ρ => outs hl ρ (Ψ d)
  bk := fun _ => False
  ct := fun _ => False
  xc := fun C f d _ => Ξ C f d
section
variable {P : Program} {w : World} {K : Fg} {mg : Str → Option Value} {base : Heap} {x qual : Str} {params : Arguments} {body : List Stmt} {scope : Scope} {dvs : List V} {kws : List (Str × V)} {f : Addr} {fd : FuncData} {N ps : List Str} {k n : Nat}
abbrev wishOf (E : XK) : WX := fun cls d _ H' => E cls d H'
theorem defG {t : List (Addr × Str)} {sp : Spc} {ws : WS} (F : FunD K x qual params body scope dvs kws f fd) (Sc : FnScope N ps scope) (hps : ps.length = n)
    (hd : ∀ (cdv : Value) (A : Around) (outer : List Env) (s : Shared) (H : Hp) (E : XK), codeOf8 K f = some cdv → Cok (cxOf (L2.CX P w) P w K mg base N qual scope f cdv A outer s H E) (wishOf E) k → PSs (cxOf (L2.CX P w) P w K mg base N qual scope f cdv A outer s H E) body (lS K (tb0 t) (wishOf E) ws))
    (hm : ∀ hl ds Ψ Ξ, (args hl ds).length = n → sp (hl.map (·.2)) ds Ψ Ξ → ws (args hl ds ++ List.replicate (N.length - n) .un) (dEnds hl Ψ Ξ)) : FnG P w K mg base (k + 1) f fd ps (lSp K t n sp) := by
  refine fnG_of F Sc (fun vs H Q E h => ?_) fun cdv A outer s H vs Q E hcv c h => ⟨_, hd cdv A outer s H E hcv c, ?_⟩
  · obtain ⟨_, _, _, _, _, _, h, _⟩ := h
    rw [h, hps]
  · obtain ⟨S, Fr, hl, ds, Ψ, Ξ, hn, e, hs, hq, hx⟩ := h
    have la : (args hl ds).length = n := by rw [e.len, List.length_map, hn]
    have ee := er_more e (N.length - n)
    have es : L2.start N vs = vs.map some ++ List.replicate (N.length - n) none := by unfold L2.start; rw [hn]
    -- the arguments behind any steps
    have back : ∀ {d : D} {v : V} {ρ' S' σ' H'}, outs hl ρ' (Ψ d) → Same S S' → Is K S' v d → ER K (tb0 t) S' Fr H' ρ' σ' → Q v H' := by
      intro d v ρ' S' σ' H' q s' iv e'
      cases hl with
      | none => exact hq d v none S' H' q rfl s' iv (er_args ((isAll_of_er e).mono s') e'.ex e'.tb e'.fr)
      | some p =>
        obtain ⟨l, o⟩ := p
        obtain ⟨o', h1, h2⟩ := q
        obtain ⟨us, rfl, iu⟩ := isAll_of_erO e
        obtain ⟨_, b2, b3, ob, b4, b5⟩ := e'.own 0 l o' h1
        exact hq d v (some o') S' H' h2 rfl s' iv (er_argsO (iu.mono s') e'.ex e'.tb e'.fr b4 b2 b3 b5)
    rw [es]
    refine ⟨_, S, Fr, _, ee, hm hl ds Ψ Ξ la hs, ?_, fun ρ' S' σ' H' q s' e' => back q s' .non e', fun d v ρ' S' σ' H' q s' iv e' => back q s' iv e', fun ρ' S' σ' H' q => q.elim, fun ρ' S' σ' H' q => q.elim, fun l od o ρ' S' σ' H' q => q.elim⟩
    exact fun C f d v dd ρ' S' σ' H' q s' e' hd' iv => hx C f d v dd S' H' q s' e'.ex e'.tb e'.fr hd' iv
/-- a def that hands back a new object, its caller's own -/
abbrev SpcO := List D → (OD → Prop) → Prop
def lSpO (K : Fg) (t : List (Addr × Str)) (n : Nat) (sp : SpcO) : Sp := fun vs H Q _ => ∃ S F ds Ψ, vs.length = n ∧ ER K (tb0 t) S F H (args none ds) (vs.map some) ∧ sp ds Ψ ∧
  ∀ od l o S' H', Ψ od → Same S S' → H' l = some o → OIs K S' o od → S' l = none → F l = none → ER K (tb0 t) S' F H' (args none ds) (vs.map some) → Q (.ref l) H'
theorem defO {t : List (Addr × Str)} {sp : SpcO} {ws : WS} (F : FunD K x qual params body scope dvs kws f fd) (Sc : FnScope N ps scope) (hps : ps.length = n)
    (hd : ∀ (cdv : Value) (A : Around) (outer : List Env) (s : Shared) (H : Hp) (E : XK), codeOf8 K f = some cdv → Cok (cxOf (L2.CX P w) P w K mg base N qual scope f cdv A outer s H E) (wishOf E) k → PSs (cxOf (L2.CX P w) P w K mg base N qual scope f cdv A outer s H E) body (lS K (tb0 t) (wishOf E) ws))
    (hm : ∀ ds Ψ, ds.length = n → sp ds Ψ → ws (args none ds ++ List.replicate (N.length - n) .un) { nx := fun _ => False, rt := fun _ _ => False, bk := fun _ => False, ct := fun _ => False, xc := χ0, ro := fun _ od _ => Ψ od }) : FnG P w K mg base (k + 1) f fd ps (lSpO K t n sp) := by
  refine fnG_of F Sc (fun vs H Q E h => ?_) fun cdv A outer s H vs Q E hcv c h => ⟨_, hd cdv A outer s H E hcv c, ?_⟩
  · obtain ⟨_, _, _, _, h, _⟩ := h
    rw [h, hps]
  · obtain ⟨S, Fr, ds, Ψ, hn, e, hs, hq⟩ := h
    have ee := er_more e (N.length - n)
    have es : L2.start N vs = vs.map some ++ List.replicate (N.length - n) none := by unfold L2.start; rw [hn]
    have iu := isAll_of_er e
    rw [es]
    refine ⟨_, S, Fr, _, ee, hm ds Ψ (by rw [← iu.length]; exact hn) hs, XOk.none, fun ρ' S' σ' H' q => q.elim, fun d v ρ' S' σ' H' q => q.elim, fun ρ' S' σ' H' q => q.elim, fun ρ' S' σ' H' q => q.elim, fun l od o ρ' S' σ' H' q s' a1 a2 a3 a4 e' => ?_⟩
    exact hq od l o S' H' q s' a1 a2 a3 a4 (er_args (iu.mono s') e'.ex e'.tb e'.fr)
end

/-! ### calls of such defs; a first argument that was just made -/
def woCall (n : Nat) (sp : SpcO) (wa : WL) : WEO := fun ρ χ Φ => wa ρ χ fun ds ρ1 => ds.length = n ∧ sp ds fun od => ∀ l, Φ l od ρ1
def wCallT (n : Nat) (sp : Spc) (wo : WEO) (wa : WL) : WE := fun ρ χ Φ => wo ρ χ fun _ od ρ1 => wa ρ1 χ fun ds ρ2 => ds.length = n ∧ sp (some od) ds (fun d _ => Φ d ρ2) fun _ _ _ => False
section
variable {K : Fg} {W : WX} {n : Nat} {gV : List V → List V → List V}
theorem lo_call {sp : SpcO} {wa : WL} (hg : ∀ vs, gV vs [] = vs) : ∀ σ H Q, lEO K τ W (woCall n sp wa) σ H Q → tCallG W n 0 (lSpO K τ.t n sp) gV (lL K τ W wa) tNil σ H Q := by
  rintro σ H Q ⟨ρ, S, F, χ, Φ, e, hw, hx, hp⟩
  refine ⟨ρ, S, F, χ, _, e, hw, hx, fun vs ds ρ1 S1 H1 h1 s1 i1 e1 => ?_⟩
  obtain ⟨l1, h2⟩ := h1
  have l1' : vs.length = n := by rw [i1.length]; exact l1
  have fr : ∀ a o, others τ.t S1 H1 (fun _ => False) a = some o → H1 a = some o ∧ S1 a = none := fun a o h => by
    obtain ⟨_, a1, a2⟩ := others_inv h
    exact ⟨a2, a1⟩
  refine ⟨l1', rfl, S1, others τ.t S1 H1 fun _ => False, ds, _, by rw [hg, l1'], by rw [hg]; exact er_args i1 e1.ex e1.tb.oth fr, h2, fun od l o S' H' q s' a1 a2 a3 a4 er => ?_⟩
  have hl : H1 l = none := by
    have s1l : S1 l = none := by
      cases h : S1 l with
      | none => rfl
      | some u => rw [s' l u h] at a3; cases a3
    cases h : H1 l with
    | none => rfl
    | some u =>
      have nl : l ∉ τ.t.map (·.1) := fun z => by
        obtain ⟨q, hq, rfl⟩ := List.mem_map.mp z
        obtain ⟨ps, h6⟩ := er.tb.at hq
        rw [a1] at h6; exact a2.notX.1 ps (Option.some.inj h6)
      rw [others_of (p := fun _ => False) nl (fun z => z) s1l h] at a4; cases a4
  exact hp l od o ρ1 S' H' (q l) (s1.trans s') a1 a2 a3 (e1.fp hl) (e1.notOwn hl) (e1.back s' er.ex er.tb.tab er.tb.nS (fun a o n a1 a2 => others_of n (fun z => z) a1 a2) er.fr)
theorem ER.lessF {S F H : Hp} {ρ : Rho} {σ : L2.St} {p : Addr} {o : HO} (e : ER K τ S (upd F p o) H ρ σ) (fp : F p = none) (gp : τ.gf p = none) : ER K τ S F H ρ σ := by
  refine ⟨e.len, e.ex, fun a u h => e.fr a u (by rw [upd_ne (ne_of_none h fp)]; exact h), e.val, fun i l od h => ?_, e.dis, e.tb.lessF fp gp⟩
  obtain ⟨a1, a2, a3, a4⟩ := e.own i l od h
  have ne : l ≠ p := fun z => by rw [z, upd_same] at a3; cases a3
  rw [upd_ne ne] at a3
  exact ⟨a1, a2, a3, a4⟩
theorem l_callT {sp : Spc} {wo : WEO} {wa : WL} (hg : ∀ vs, gV vs [] = vs) : ∀ σ H Q, lE K τ W (wCallT n sp wo wa) σ H Q → tCallG W (n + 1) 0 (lSp K τ.t (n + 1) sp) gV (tCons (lEO K τ W wo) (lL K τ W wa)) tNil σ H Q := by
  rintro σ H Q ⟨ρ, S, F, χ, Φ, e, hw, hx, hp⟩
  refine ⟨ρ, S, F, χ, _, e, hw, hx, fun l od o ρ1 S1 H1 h1 s1 a1 a2 a3 a4 a5 e1 => ?_⟩
  have eF : ER K τ S1 (upd F l o) H1 ρ1 σ := by
    refine ⟨e1.len, e1.ex, fun a u h => ?_, e1.val, fun i m od2 h => ?_, e1.dis, e1.tb.addF a1 a4 a2.notX.1⟩
    · by_cases ha : a = l
      · subst ha; rw [upd_same] at h; cases h; exact ⟨a1, a3⟩
      · rw [upd_ne ha] at h; exact e1.fr a u h
    · obtain ⟨b1, b2, b3, b4⟩ := e1.own i m od2 h
      have ne : m ≠ l := fun z => by subst z; exact a5 i od2 h
      exact ⟨b1, b2, by rw [upd_ne ne]; exact b3, b4⟩
  have hx' : XOk K τ (upd F l o) W S1 χ := fun C f d v dd ρ' S' σ' H' b1 b2 b3 b4 b5 => hx C f d v dd ρ' S' σ' H' b1 (s1.trans b2) (b3.lessF a4 (e1.tb.free a4)) b4 b5
  refine ⟨ρ1, S1, upd F l o, χ, _, eF, h1, hx', fun vs ds ρ2 S2 H2 h2 s2 i2 e2 => ?_⟩
  obtain ⟨l1, h2⟩ := h2
  have l1' : vs.length = n := by rw [i2.length]; exact l1
  obtain ⟨hl, sl⟩ := e2.fr l o upd_same
  refine ⟨by rw [List.length_cons, l1'], rfl, S2, others τ.t S2 H2 (fun a => a = l), some (l, od), ds, _, _, by rw [hg, List.length_cons, l1'], ?_, h2, fun d v o2 S' H' q hs s' iv er => ?_, fun C f d v dd S' H' q => q.elim⟩
  · rw [hg]
    exact er_argsO i2 e2.ex e2.tb.oth (fun a o h => by obtain ⟨_, a1, a2⟩ := others_inv h; exact ⟨a2, a1⟩) hl sl (by unfold others; rw [if_pos (.inl rfl)]) (a2.mono s2)
  · have e3 : ER K τ S2 F H2 ρ2 σ := e2.lessF a4 (e1.tb.free a4)
    have no : ∀ (j : Nat) (o2 : OD), ρ2[j]? ≠ some (Sl.own l o2) := fun j o2 h => by
      have b3 := (e2.own j l o2 h).2.2.1
      rw [upd_same] at b3; cases b3
    -- back to the caller: all but l is kept
    have e4 : ER K τ S' F H' ρ2 σ := by
      have keep : ∀ a u, a ∉ τ.t.map (·.1) → a ≠ l → S2 a = none → H2 a = some u → H' a = some u ∧ S' a = none := fun a u n b0 b1 b2 => er.fr a u (others_of (p := fun a => a = l) n b0 b1 b2)
      have nt : ∀ a o, F a = some o → a ∉ τ.t.map (·.1) := fun a o h z => by
        obtain ⟨q, hq, rfl⟩ := List.mem_map.mp z
        rw [e3.tb.nF q hq] at h; cases h
      refine ⟨e3.len, er.ex, fun a u h => ?_, fun i d h => ?_, fun i m od2 h => ?_, e3.dis, ⟨er.tb.tab, er.tb.nS, e3.tb.nF, fun a o h => s' _ _ (e3.tb.ks a o h), e3.tb.kf⟩⟩
      · obtain ⟨b1, b2⟩ := e3.fr a u h
        exact keep a u (nt a u h) (fun z => by rw [z, a4] at h; cases h) b2 b1
      · obtain ⟨v, b1, b2⟩ := e3.val i d h
        exact ⟨v, b1, b2.mono s'⟩
      · obtain ⟨b1, b2, b3, ob, b4, b5⟩ := e3.own i m od2 h
        have ne : m ≠ l := fun z => by subst z; exact no i od2 h
        obtain ⟨b6, b7⟩ := keep m ob (e3.nTb h) ne b2 b4
        exact ⟨b1, b7, b3, ob, b6, b5.mono s'⟩
    exact hp v d ρ2 S' H' q ((s1.trans s2).trans s') iv e4
end
end DL
set_option Elab.async false
set_option autoImplicit false
set_option linter.all false
set_option maxRecDepth 100000
set_option maxHeartbeats 3900000
namespace PySem
namespace DLK
open PySem.W PySem.Calls PyProof.Rows PySem.HandSPX
/-! ### own error classes that stand over KeyError: as the library's for ValueError, the class between being one more -/
abbrev keTail : List Value := [.type "KeyError", .type "LookupError", .type "Exception", .type "BaseException", .type "object"]
section
variable {prog : Program} {w : World} {A : Around} {R : Result → Shared → Prop} {hp : Heap} {g : Array GenState} {d : Drawn} {tk : Nat} {os : OsState} {nm qn : Str} {C N fI : Addr} {bs sub zs : List Value} {sn : List Str} {ab : Bool} {col : Option Bool} {dd : Option Addr} {k0 k1 k2 k3 k5 : Option Value}
abbrev keO (C t : Addr) : Obj := { cls := .ref C, data := .fields #[.ref t, .none, .none, .none, .bool false, .none] }
theorem ke_in (X : String) : (Value.ref C :: keTail).contains (.type X) = keTail.contains (.type X) := by rw [List.contains_cons]; rfl
theorem ke_check {M : Model} {E : Value → Shared → Prop} {Q : Unit → Shared → Prop} (hC : hp.get? C = some (excClassObj nm qn C N bs keTail true sn sub ab col dd k0 k1 k2 k3 k5 "LookupError.__new__")) (hq : Q () ⟨hp, g, d, tk, os⟩) :
    wpAny M A (checkBuiltinCall "LookupError.__new__" ⟨.ref C :: zs, []⟩) Q E ⟨hp, g, d, tk, os⟩ := by
  have F := PySem.F.excBase_LookupError
  have hB : (Value.ref C :: keTail).contains (.type "LookupError") = true := (ke_in _).trans (by decide +kernel)
  have hs := F.noStar
  (simp only [checkBuiltinCall, F.newKind, F.newSplit, F.newRow])
  (repeat (first | refine wpAny_loadPart_at hC ?_ | (refine wpAny_isSubtype_exc hC ?_; rw [hB]) | refine wpAny_staticBase_exc hC ?_ | refine wpAny_madeBy_exc hC ?_ | simp only [bne_self_eq_false, Bool.false_eq_true, if_false] | wp_step))
  exact hq
theorem ke_new (hC : hp.get? C = some (excClassObj nm qn C N bs keTail true sn sub ab col dd k0 k1 k2 k3 k5 "LookupError.__new__")) (hq : R (.ok (.ret (.ref (hp.objs.size + 1)))) ⟨(hp.push (PySem.W.kdv_tup zs)).push (keO C hp.objs.size), g, d, tk, os⟩) (hz : zs.length ≤ sizeLine) :
    codeAny (model prog w) A (.builtin "LookupError.__new__" ⟨.ref C :: zs, []⟩) R ⟨hp, g, d, tk, os⟩ := by
  have F := PySem.F.excBase_LookupError
  have he := F.ends
  have hB : (Value.ref C :: keTail).contains (.type "LookupError") = true := (ke_in _).trans (by decide +kernel)
  have hA : (Value.ref C :: keTail).contains (.type "AttributeError") = false := (ke_in _).trans (by decide +kernel)
  have hN : (Value.ref C :: keTail).contains (.type "NameError") = false := (ke_in _).trans (by decide +kernel)
  refine codeAny_builtinAt F.entry ?_; unfold Builtin.«BaseException.__new__»; refine wpAt_bind ?_
  show wpAt _ _ _ (stack >>= _) _ _ _
  refine wpAt_bind (wpAt_stack fun p below => wpAt_of_wpAny ?_); wp_walk; refine wpAt_of_wpAny ?_; rw [F.owner]
  repeat (first | with_reducible refine wpAny_madeHere_exc F.canon hC ?_ | with_reducible refine wpAny_loadPart_at hC ?_ | (with_reducible refine wpAny_isSubtype_exc hC ?_; first | rw [hB] | rw [hA] | rw [hN]) | wp_step)
  show R _ _
  rw [Heap.size_push]; exact hq
theorem ke_type {Q : Fin → Shared → Prop} {E : Value → Shared → Prop} (hC : hp.get? C = some (excClassObj nm qn C N bs keTail true sn sub ab col dd k0 k1 k2 k3 k5 "LookupError.__new__"))
    (hi : W.Looks (model prog w) hp (typeLookup (.ref C) "__init__") (some (.ref fI))) (hb : ∀ self, W.Looks (model prog w) hp (bindSpecial (.ref fI) self) (.ref fI, [self])) (hz : zs.length ≤ sizeLine)
    (hq : codeAny (model prog w) A (.call (.ref fI) ⟨.ref (hp.objs.size + 1) :: zs, []⟩) (fun r s' => match r with | .ok (.ret v) => v = .none ∧ Q (.done (.ret (.ref (hp.objs.size + 1)))) s' | .ok _ => False | .error e => E e s') ⟨(hp.push (W.kdv_tup zs)).push (keO C hp.objs.size), g, d, tk, os⟩) :
    wpAny (model prog w) A (Builtin.«type.__call__» ⟨.ref C :: zs, []⟩) Q E ⟨hp, g, d, tk, os⟩ := by
  (repeat (first | with_reducible refine wpAny_loadPart_at hC ?_ | with_reducible refine wpAny_madeBy_exc hC ?_ | wp_step))
  refine codeAny_call_builtin_code (Code.quiet_builtin _ PySem.F.excBase_LookupError.quiet) (ke_check hC ?_)
  refine ke_new hC ?_ hz
  show wpAny _ _ _ _ _ _
  have kk : ∀ b o, hp.get? b = some o → ((hp.push (W.kdv_tup zs)).push (keO C hp.objs.size)).get? b = some o := fun b o e => Heap.get?_push_of_some _ (Heap.get?_push_of_some _ e)
  have c1 := kk _ _ hC
  have c2 : ((hp.push (W.kdv_tup zs)).push (keO C hp.objs.size)).get? (hp.objs.size + 1) = some (keO C hp.objs.size) := by heap_get
  have c3 : (Value.ref C :: keTail).contains (.ref C) = true := by simp
  have i1 := hi.keeps kk; have b1 := (hb (.ref (hp.objs.size + 1))).keeps kk; unfold isInstance
  (repeat (first | with_reducible refine wpAny_loadPart_at c2 ?_ | (with_reducible refine wpAny_isSubtype_exc c1 ?_; rw [c3]) | wp_step))
  show wpAny _ _ (typeLookup (.ref C) _) _ _ _
  refine i1.at ?_; refine wpAny_holding (wpAny_bind (b1.at ?_)); refine wpAny_bind (wpAny_call (codeAny_mono hq fun r s' z => ?_))
  rcases r with e | (v | _ | _ | _) <;> first | exact z | exact z.elim | skip
  obtain ⟨rfl, z⟩ := z
  first | exact wpAny_pure (wpAny_pure z) | (wp_walk; exact z)
theorem ke_call (hC : hp.get? C = some (excClassObj nm qn C N bs keTail true sn sub ab col dd k0 k1 k2 k3 k5 "LookupError.__new__"))
    (hi : W.Looks (model prog w) hp (typeLookup (.ref C) "__init__") (some (.ref fI))) (hb : ∀ self, W.Looks (model prog w) hp (bindSpecial (.ref fI) self) (.ref fI, [self])) (hz : zs.length ≤ sizeLine)
    (hq : codeAny (model prog w) (A.under (.builtin "type.__call__" ⟨.ref C :: zs, []⟩)) (.call (.ref fI) ⟨.ref (hp.objs.size + 1) :: zs, []⟩) (W.InitBack (hp.objs.size + 1) R) ⟨(hp.push (W.kdv_tup zs)).push (keO C hp.objs.size), g, d, tk, os⟩) :
    codeAny (model prog w) A (.call (.ref C) ⟨zs, []⟩) R ⟨hp, g, d, tk, os⟩ := by
  have f1 := tc_lookup
  have f2 := tc_bind (.ref C)
  have hTy : (⟨hp, g, d, tk, os⟩ : Shared).TypeIs (.ref C) "type" := ⟨_, hC, rfl⟩
  refine codeAny_of_tree ?_
  show wpAny _ _ (callAny (.ref C) _) _ _ _
  repeat (any_goals (first | assumption | with_reducible refine wpAny_loadPart_at hC ?_ | wp_step))
  refine ⟨rfl, ?_⟩
  refine codeAny_call_builtin_at (Code.quiet_builtin _ (by decide +kernel)) entry_typeCall (wpAny_check_type_call_sub hC (ke_type hC hi hb hz ?_))
  refine codeAny_mono hq fun r s' z => ?_
  rcases r with e | (v | _ | _ | _) <;> exact z
end
end DLK
end PySem
set_option Elab.async false
set_option autoImplicit false
set_option linter.all false
set_option maxRecDepth 100000
set_option maxHeartbeats 3900000
namespace PySem
namespace DLK
open PySem.W PySem.Calls PyProof.Rows PySem.HandSPX PySem.F
open Builtin Builtin.ObjectAttr
theorem ke_pass (self : Value) : refuseLoop self "__setattr__" keTail = pure () := by kernel_rfl
section
variable {prog : Program} {w : World} {A : Around} {R : Result → Shared → Prop} {hp : Heap} {g : Array GenState} {d : Drawn} {t : Nat} {os : OsState} {K : W.Frag} {name : Str} {tk : Tok} {v : Value} {x C : Addr} {fv : Array Value} {cd : ClassData}
theorem ke_store (X : K.In hp) (hx : hp.get? x = some { cls := .ref C, data := .fields fv }) (hcd : W.clsIn K C = some cd) (hm : cd.mro = .ref C :: keTail) (hh : cd.hasDict = true) (ha : W.findIn K (.ref C) name = some none)
    (hq : ∀ h' tk' dx, (∀ b o, b ≠ x → hp.get? b = some o → h'.get? b = some o) → hp.objs.size ≤ dx → dx ≠ x → h'.get? x = some { cls := .ref C, dict := some dx, data := .fields fv } → h'.Ns1 dx (fun y => if y = name then some v else none) → R (.ok (.ret .none)) ⟨h', g, d, tk', os⟩) :
    codeAny (model prog w) A (.call (.builtin "object.__setattr__") ⟨[.ref x, .str name tk, v], []⟩) R ⟨hp, g, d, t, os⟩ := by
  have I : W.InstAt hp x { cls := .ref C, data := .fields fv } C none := ⟨hx, rfl, rfl, trivial⟩
  have G := F.store_object
  have hob : cd.mro.contains (.type "object") = true := by rw [hm]; exact (ke_in _).trans (by decide +kernel)
  have hne : cd.mro.isEmpty = false := by rw [hm]; rfl
  have nx : x ≠ hp.objs.size := Nat.ne_of_lt (Heap.lt_size hx)
  have sb : W.Looks (model prog w) hp (isInstance (.ref x) (.type "object")) true := I.type.andThen (W.looks_mroIn X (by unfold W.mroIn; rw [hcd, Option.bind_some, if_neg (by rw [hne]; decide), hob]))
  refine codeAny_call_builtin G.slot.plain G.entry (@W.check_slot (model prog w) _ _ ⟨hp, g, d, t, os⟩ "object.__setattr__" "object" "__setattr__" (.ref x) [.str name tk, v] [] _ G.kind G.split sb (G.args (.ref x) (.str name tk) v) ?_)
  have m1 : W.Looks (model prog w) hp (mroOf (.ref C)) cd.mro := (W.looks_clsIn X hcd).andThen .now
  have m2 : W.Looks (model prog w) hp (storeTaker? none) none := .now
  have m3 : W.Looks (model prog w) hp (classData C) cd := W.looks_clsIn X hcd
  rw [W.osa_eq, refuse_eq]; refine wpAny_bind (wpAny_bind (I.type.at (wpAny_bind (m1.at ?_))))
  rw [hm, refuseLoop_ref, ke_pass]; refine wpAny_pure (wpAny_bind (I.type.at (wpAny_bind ((W.looks_findIn X ha).at (wpAny_bind (m2.at ?_))))))
  show wpAny _ _ (storeInOwnDict (.ref x) (.ref C) (.str name tk) name v false) _ _ _
  obtain ⟨nm, bs, mro, ns, qn, hd, sn, sb', ab, col, del⟩ := cd
  dsimp only at hh; subst hh; unfold storeInOwnDict ownDictForStores
  repeat (first | with_reducible refine store_in_new ?_ ?_ | with_reducible refine wpAny_loadPart_at hx ?_ | with_reducible refine m3.at ?_ | wp_step)
  · exact ⟨_, #[], _, (Heap.get?_update_ne _ _ _ _ nx.symm).trans (Heap.get?_push_at rfl rfl), rfl, fun e he => absurd he (by simp), fun _ => rfl⟩
  · intro h' tk' hn' hs
    have hx1 : (hp.push { cls := .type "dict", data := .dict #[] }).get? x = some { cls := .ref C, data := .fields fv } := Heap.get?_push_of_some _ hx
    refine hq h' tk' hp.objs.size (fun b o hb ho => ?_) (Nat.le_refl _) nx.symm ?_ hn'
    · exact (hs.2 b (Nat.ne_of_lt (Heap.lt_size ho))).trans ((Heap.get?_update_ne _ _ _ _ hb).trans (Heap.get?_push_of_some _ ho))
    · exact (hs.2 x nx).trans (Heap.get?_update_self _ hx1 rfl)
end
end DLK
end PySem
namespace L2
open PySem PySem.Spec PyProof.Rows PySem.DLK
structure OexK (K : PySem.W.Frag) (C : Addr) : Prop where
  cls : ∃ nm q N bs sn sub ab col dd k0 k1 k2 k3 k5, K.lookup C = some (excClassObj nm q C N bs keTail true sn sub ab col dd k0 k1 k2 k3 k5 "LookupError.__new__")
  sa : PySem.W.findIn K (.ref C) "__setattr__" = some (some (.builtin "object.__setattr__"))
  exC : PySem.W.subIn K (.ref C) (.type "BaseException") = some true
  tyC : PySem.W.typeIn K (.ref C) = some (.type "type")
  kC : PySem.W.keepIn K (.ref C) = true
section
variable {X : Cx} {pins : List (Addr × Obj)} {σ : St} {H : Hp} {s : Shared} {a C dx : Addr} {f : Str} {y : V} {u : Value} {Q : Unit → Shared → Prop} {E : Value → Shared → Prop} {A : Around}
/-- self.f = y -/
theorem ke_ost (T : OexK X.K C) (I : Inv X pins σ H s) (e : H a = some (exo a C none)) (hno : PySem.W.findIn X.K (.ref C) f = some none) (ry : RelV y u) (h : ∀ dx s', H dx = none → dx ≠ a → Inv X pins σ (upd (upd H dx (exd dx [(f, y)])) a (exo a C (some dx))) s' → Q () s') :
    wpAny (model X.prog X.w) A (setAttr (.ref a) f u) Q E s := by
  obtain ⟨nm, q, N, bs, sn, sub, ab, col, dd, k0, k1, k2, k3, k5, hC⟩ := T.cls
  have hcl : PySem.W.clsIn X.K C = some { name := nm, bases := bs, mro := .ref C :: keTail, ns := N, qualname := q, hasDict := true, slotNames := sn, subclasses := sub, abstract := ab, collection := col, hasDel := false } := by unfold PySem.W.clsIn; rw [hC] <;> rfl
  obtain ⟨t1, ho⟩ := exo_at I.hok e
  obtain ⟨hp, g, d, t, os⟩ := s
  refine PySem.W.set_plain I.kIn (ox := { cls := .ref C, dict := none, data := .fields #[.ref t1, .none, .none, .none, .bool false, .none] }) (od := none) ⟨ho, rfl, rfl, trivial⟩ T.sa ?_
  refine ke_store I.kIn ho hcl rfl rfl hno fun h' tk' dx k dn dne hx hn => ?_
  have n1 : H dx = none := I.hok.fresh dn
  have n2 : ∀ {b : Addr} {o : Obj}, hp.get? b = some o → b ≠ dx := fun {b o} q => Nat.ne_of_lt (Nat.lt_of_lt_of_le (Heap.lt_size q) dn)
  have n3 : ∀ {b : Addr}, H b = none → b ≠ a := fun {b} n z => by rw [z, e] at n; cases n
  have U : Un X.fs [] H (upd (upd H dx (exd dx [(f, y)])) a (exo a C (some dx))) hp h' := by
    refine ⟨fun b o q n _ _ => k b o (n3 n) q, fun b o q n _ _ => ⟨o.slots, k b o (n3 n) q⟩, fun b o q n _ => by rw [upd_ne (n3 n), upd_ne (n2 q)]; exact n, fun b o q _ => ?_, fun b xs q => ?_, fun b o v q => ?_, fun b ps q => ⟨#[], ?_⟩⟩
    · by_cases hb : b = a
      · exact ⟨_, by rw [hb]; exact hx⟩
      · exact ⟨o, k b o hb q⟩
    · rw [upd_ne (at_ne e q exo_tup), upd_ne (ne_of_none q n1)]; exact q
    · rw [upd_ne (at_ne e q exo_frz), upd_ne (ne_of_none q n1)]; exact q
    · rw [upd_ne (at_ne e q exo_tbl), upd_ne (ne_of_none q n1), q]; simp
  refine h dx _ n1 dne (I.un (t' := tk') U fun b o q => ?_)
  by_cases hb : b = a
  · subst hb; rw [upd_same] at q; cases q; exact exo_ok hx
  · rw [upd_ne hb] at q
    by_cases hd : b = dx
    · subst hd; rw [upd_same] at q; cases q; exact exd_ok hn (relO_put (fs := []) ry fun g => True.intro)
    · rw [upd_ne hd] at q
      refine (I.hok b o q).stay (fun c v hc z => k c v ?_ z) (fun c hc => by rw [upd_ne (at_ne e hc exo_own), upd_ne (ne_of_none hc n1)]; exact hc) (fun c xs hc => by rw [upd_ne (at_ne e hc exo_tup), upd_ne (ne_of_none hc n1)]; exact hc)
      rcases hc with hc | hc
      · rw [hc]; exact hb
      · exact at_ne e hc exo_own
/-- the reading of self.f = e in such an __init__ -/
def tOstK (K : PySem.W.Frag) (f : Str) (to te : TE) : TS := fun D σ H => te σ H fun y H1 => to σ H1 fun x H2 => ∃ a C : Addr, x = .ref a ∧ OexK K C ∧ PySem.W.findIn K (.ref C) f = some none ∧
  H2 a = some (exo a C none) ∧ ∀ dx, H2 dx = none → dx ≠ a → D.nx σ (upd (upd H2 dx (exd dx [(f, y)])) a (exo a C (some dx)))
theorem ps_ostK {o e : Expr} {to te : TE} {p' pos : Pos} (ho : PE X o to) (he : PE X e te) (hs : swapsWith e (some (.Attribute o f p')) pos.line X.env = pure false := by rfl) : PS X (.Assign [.Attribute o f p'] e pos) (tOstK X.K f to te) := by
  constructor; intro pins s σ H D I h
  refine plainObj_wpAny_Assign_Attribute (thn (he.run pins s σ H _ I h) fun v s1 ⟨y, H1, I1, r1, q1⟩ => thn (ho.run pins s1 σ H1 _ I1 q1) fun u s2 ⟨x, H2, I2, r2, a, C, ex, T, hno, ea, q⟩ => ?_) hs
  subst ex
  obtain rfl : u = Value.ref a := r2
  exact ke_ost T I2 ea hno r1 fun dx s' n ne J => ⟨σ, _, J, q dx n ne⟩
theorem pmk_oexK {CX : CXT} {x : Str} {fI : Addr} {k : Nat} {fd : FuncData} {ps : List Str} {sp : Sp} {e : Expr} {es : List Expr} {ta : TA} {p pos : Pos} (T : OexK X.K C) (iC : PySem.W.findIn X.K (.ref C) "__init__" = some (some (.ref fI))) (tI : PySem.W.typeIn X.K (.ref fI) = some (.type "function"))
    (F1 : FnOk X.prog X.w X.K X.mg X.base CX k fI fd ps sp) (hr : Room (k + 1) X.A) (hb : Binds X.K fd ps []) (hx : Passes CX X (fun _ _ _ => False)) (hg : Gl X x) (hm : X.mg x = some (.ref C)) (ha : PA X (e :: es) ta) (hdb : (x == ("__debug__" : Str)) = false := by decide)
    (he : starEach (e :: es) X.env = (false, eval e X.env) :: starEach es X.env := by rfl) (hpl : (backTo pos (starEach es X.env)).any (·.1) = false := by rfl) : PMk X (.Call (.Name x p) (e :: es) [] pos) (tMkO C sp [] ta) := by
  intro pins s σ H Q I h
  obtain ⟨nm, q, N, bs, sn, sub, ab, col, dd, k0, k1, k2, k3, k5, hC⟩ := T.cls
  refine wpAny_Call_Name_kw (ld_glob I hg hm ?_ hdb) <;> refine PySem.W.callWith_K (h₀ := X.base) I.ok.mod.kin T.kC (thn (ha.run pos pins s σ H _ I h) fun us s1 ⟨vs, H1, I1, r1, hz, q1⟩ => ⟨I1.kIn, ?_⟩) he hpl
  show wpAny _ _ (call (.ref C) us) _ _ _
  obtain ⟨hp, g, dr, tk, os⟩ := s1
  have z1 : hp.objs.size ≤ hp.objs.size + 1 := Nat.le_succ _
  have z2 : H1 (hp.objs.size + 1) = none := I1.hok.fresh z1
  have z3 := q1 (hp.objs.size + 1) z2
  rw [List.append_nil] at z3
  have kk : ∀ b o, hp.get? b = some o → ((hp.push (PySem.W.kdv_tup us)).push (keO C hp.objs.size)).get? b = some o := fun b o e => Heap.get?_push_of_some _ (Heap.get?_push_of_some _ e)
  have z4 : ((hp.push (PySem.W.kdv_tup us)).push (keO C hp.objs.size)).get? (hp.objs.size + 1) = some (keO C hp.objs.size) := by heap_get
  have I2 : Inv X pins σ (upd H1 (hp.objs.size + 1) (exo (hp.objs.size + 1) C none)) ⟨(hp.push (PySem.W.kdv_tup us)).push (keO C hp.objs.size), g, dr, tk, os⟩ :=
    I1.laid (t' := tk) (a := hp.objs.size + 1) (o := exo (hp.objs.size + 1) C none) (h' := (hp.push (PySem.W.kdv_tup us)).push (keO C hp.objs.size)) kk z1 (exo_ok z4)
  have r2 : Vals (V.ref (hp.objs.size + 1) :: vs) (Value.ref (hp.objs.size + 1) :: us) := .cons rfl r1
  have hl : (Value.ref (hp.objs.size + 1) :: us).length + ([] : List Value).length = ps.length := by have e := r2.length; rw [F1.len _ _ _ _ z3] at e; exact e.symm
  have hus : us.length ≤ sizeLine := by rw [← Paired.length r1, sizeLine_eq]; omega
  have bt := hb _ (Value.ref (hp.objs.size + 1) :: us) I2.kIn (by rw [List.append_nil]; exact hl)
  rw [List.append_nil] at bt
  refine wpAny_call (ke_call (I1.kIn _ _ hC) (PySem.W.looks_findIn I1.kIn iC) (fun self => PySem.W.bind_fn I1.kIn self tI) hus
    (codeAny_mono (F1.run _ X.stack _ _ ⟨Value.ref (hp.objs.size + 1) :: us, []⟩ (Value.ref (hp.objs.size + 1) :: us) _ _ (fun _ _ _ => False) (hr.make C us []) (I2.env0.make C us []) bt r2 z3) fun r s' hq' => ?_))
  cases r with
  | error er => exact hx pins σ _ _ er s' I2 hq'
  | ok fl =>
    cases fl with
    | ret u =>
      obtain ⟨v, H2, os2, bare2, un2, hok2, rv, ev, d, fs, ea, ed, hd1, q2⟩ := hq'
      subst ev
      obtain ⟨h2, g2, d2, t2, os'⟩ := s'
      exact ⟨rv, mk_end (raises_own T.exC T.tyC) I1 z1 kk un2 hok2 os2 bare2 ea ed hd1 q2⟩
    | next => cases hq'
    | brk => cases hq'
    | cont => cases hq'
end
end L2
set_option Elab.async false
set_option autoImplicit false
set_option linter.all false
set_option maxRecDepth 100000
set_option maxHeartbeats 3900000
namespace DL
open L2 PyProof.Rows PySem PySem.Spec
variable {τ : Tb}
/-! ### errors: raised, caught, looked at -/
section
variable {K : Fg} {S F H : Hp} {ρ : Rho} {σ : L2.St}
/-- a slot is emptied -/
theorem ER.unset (e : ER K τ S F H ρ σ) (i : Nat) : ER K τ S F H (ρ.set i .un) (σ.set i none) := by
  have nu : ∀ {j : Nat} {s : Sl}, s ≠ .un → (ρ.set i .un)[j]? = some s → ρ[j]? = some s ∧ j ≠ i := fun {j s} hs q => by
    by_cases hj : j = i
    · subst hj
      have hl : j < ρ.length := by
        have := (List.getElem?_eq_some_iff.mp q).1
        rwa [List.length_set] at this
      rw [List.getElem?_set_self hl] at q
      exact absurd (Option.some.inj q).symm hs
    · rw [List.getElem?_set_ne (Ne.symm hj)] at q
      exact ⟨q, hj⟩
  refine ⟨by rw [List.length_set, List.length_set]; exact e.len, e.ex, e.fr, fun j d q => ?_, fun j m o q => ?_, fun j k m o1 o2 q1 q2 => ?_, e.tb⟩
  · obtain ⟨q, hj⟩ := nu (by intro z; cases z) q
    rw [List.getElem?_set_ne (Ne.symm hj)]; exact e.val j d q
  · obtain ⟨q, hj⟩ := nu (by intro z; cases z) q
    rw [List.getElem?_set_ne (Ne.symm hj)]; exact e.own j m o q
  · exact e.dis _ _ _ _ _ (nu (by intro z; cases z) q1).1 (nu (by intro z; cases z) q2).1
end

/-- an own error class over ValueError or over KeyError -/
def OexA (K : Fg) (C : Addr) : Prop := OexC K C ∨ OexK K C
/-- __init__ of an error that keeps one thing: self.f = y -/
def spIni (K : Fg) (f : Str) : Sp := fun vs H Q _ => ∃ (a C : Addr) (y : V), vs = [.ref a, y] ∧ H a = some (exo a C none) ∧ OexA K C ∧ PySem.W.findIn K (.ref C) f = some none ∧
  ∀ d, H d = none → d ≠ a → Q .non (upd (upd H d (exd d [(f, y)])) a (exo a C (some d)))
section
variable {P : Program} {w : World} {K : Fg} {mg : Str → Option Value} {base : Heap} {x qual : Str} {params : Arguments} {scope : Scope} {dvs : List V} {kws : List (Str × V)} {fa : Addr} {fd : FuncData} {f s : Str} {k : Nat}
theorem ini_ok {p1 p2 p3 p4 : Pos} (F : FunD K x qual params [.Assign [.Attribute (.Name s p1) f p2] (.Name f p3) p4] scope dvs kws fa fd) (S : FnScope [s, f] [s, f] scope)
    (h0 : Vis scope s) (h1 : Vis scope f) (d0 : ((s == ("__debug__" : Str)) || (s == ("__classdict__" : Str))) = false := by decide) (d1 : ((f == ("__debug__" : Str)) || (f == ("__classdict__" : Str))) = false := by decide) :
    FnOk P w K mg base (L2.CX P w) (k + 1) fa fd [s, f] (spIni K f) := by
  obtain ⟨a0, b0⟩ := Bool.or_eq_false_iff.mp d0
  obtain ⟨a1, b1⟩ := Bool.or_eq_false_iff.mp d1
  refine F.ok S (fun vs H Q E ⟨a, C, y, e, _⟩ => by subst e; rfl) fun cdv A outer s0 H vs Q E hr ⟨a, C, y, e, ea, T, hno, q⟩ => ?_
  subst e
  rcases T with T | T
  · exact ⟨_, pss_one (ps_ost (pe_var (i := 0) rfl h0 a0 b0) (pe_var (i := 1) rfl h1 a1 b1)), y, rfl, .ref a, rfl, a, C, rfl, T, hno, .inl ⟨ea, q⟩⟩
  · exact ⟨_, pss_one (ps_ostK (pe_var (i := 0) rfl h0 a0 b0) (pe_var (i := 1) rfl h1 a1 b1)), y, rfl, .ref a, rfl, a, C, rfl, T, hno, ea, q⟩
end

/-- raise C(e) -/
def wRaise (C : Addr) (f : Str) (wa : WL) : WS := fun ρ Δ => wa ρ Δ.xc fun ds ρ1 => match ds with
  | [d] => Δ.xc C f d ρ1
  | _ => False
structure ErrC (K : Fg) (C fI : Addr) (f : Str) : Prop where
  T : OexA K C
  iC : PySem.W.findIn K (.ref C) "__init__" = some (some (.ref fI))
  tI : PySem.W.typeIn K (.ref fI) = some (.type "function")
  no : PySem.W.findIn K (.ref C) f = some none
section
variable {X : Cx} {W : WX} {k : Nat} {C fI : Addr} {fd : FuncData} {f s x : Str} {e : Expr} {p p2 pos : Pos} {wa : WL}
theorem l_raise (hC : ErrC X.K C fI f) : ∀ D σ H, lS X.K τ W (wRaise C f wa) D σ H → (fun (_ : Ends) σ H => tMkO C (spIni X.K f) [] (lL X.K τ W wa) σ H fun cls d H' => W cls d σ H') D σ H := by
  rintro D σ H ⟨ρ, S, F, Δ, e, hw, hx, -⟩
  refine ⟨ρ, S, F, _, _, e, hw, hx, fun vs ds ρ' S' H' q s' iv e' => ?_⟩
  match ds, q, iv with
  | [d], q, .cons (v := y) r .nil =>
    refine ⟨by simp, fun a ha => ⟨a, C, y, rfl, upd_same, hC.T, hC.no, fun dd h1 h2 => ⟨rfl, dd, _, upd_same, by rw [upd_ne h2]; exact upd_same, ?_, ?_⟩⟩⟩
    · rw [upd_ne h2] at h1; exact h1
    · rw [upd_ne h2] at h1
      have hz : upd (del (upd (upd (upd H' a (exo a C none)) dd (exd dd [(f, y)])) a (exo a C (some dd))) a) dd (.xd [(f, y)]) = upd H' dd (.xd [(f, y)]) := by
        funext b
        by_cases hb : b = dd
        · subst hb; rw [upd_same, upd_same]
        · rw [upd_ne hb, upd_ne hb]
          by_cases hba : b = a
          · subst hba; rw [del_same, ha]
          · rw [del_ne hba, upd_ne hba, upd_ne hb, upd_ne hba]
      rw [hz]
      exact hx C f d y dd ρ' (upd S' dd (.xd [(f, y)])) σ _ q (s'.trans (e'.sn h1)) (e'.new h1) upd_same (r.mono (e'.sn h1))
theorem ps_rs (hc : X.calm = true) (c : Cok X W (k + 1)) (hC : ErrC X.K C fI f) (F1 : FnOk X.prog X.w X.K X.mg X.base (L2.CX X.prog X.w) k fI fd [s, f] (spIni X.K f)) (hb : Binds X.K fd [s, f] []) (hx : Passes (L2.CX X.prog X.w) X (fun _ _ _ => False))
    (hg : Gl X x) (hm : X.mg x = some (.ref C)) (ha : PA X [e] (lL X.K τ W wa)) (hdb : (x == ("__debug__" : Str)) = false := by decide) (he : starEach [e] X.env = [(false, eval e X.env)] := by rfl) :
    PS X (.Raise (some (.Call (.Name x p) [e] [] pos)) none p2) (lS X.K τ W (wRaise C f wa)) :=
  hC.T.elim (fun T => PS.imp (ps_raise hc c.tk (pmk_oex (k := k) T hC.iC hC.tI F1 c.rm hb .nil hx hg hm ha hdb he rfl)) (l_raise hC))
    fun T => PS.imp (ps_raise hc c.tk (pmk_oexK (k := k) T hC.iC hC.tI F1 c.rm hb hx hg hm ha hdb he rfl)) (l_raise hC)
end

/-! ### try .. except C as n -/
def exmD (K : Fg) (C : Addr) (c : Value) : Option Bool := PySem.W.exmOne K (.ref C) c
def wTry (K : Fg) (c : Value) (i : Nat) (wb : WS) (ws : Addr → Value → Option Addr → WS) : WS := fun ρ Δ => wb ρ { Δ with
  xc := fun C f d ρ1 => ∃ b, exmD K C c = some b ∧
    (b = true → ∀ a dd, ws a (.ref C) (some dd) (ρ1.set i (.val (.exn (.ref a) dd f d))) { Δ with nx := fun ρ2 => Δ.nx (ρ2.set i .un), bk := fun ρ2 => Δ.bk (ρ2.set i .un), ct := fun ρ2 => Δ.ct (ρ2.set i .un) }) ∧
    (b = false → Δ.xc C f d ρ1) }
section
variable {K : Fg} {W : WX} {c : Value} {i : Nat} {wb : WS} {ws : Addr → Value → Option Addr → WS}
theorem l_try : ∀ D σ H, lS K τ W (wTry K c i wb ws) D σ H → (fun D σ H => lS K τ (wAs K c i (fun a cls d => lS K τ W (ws a cls d)) W D) wb D σ H) D σ H := by
  rintro D σ H ⟨ρ, S, F, Δ, e, hw, hx, h1, h2, h3, h4, h5⟩
  refine ⟨ρ, S, F, _, e, hw, fun C f d v dd ρ' S' σ' H' q s' e' hd hv => ?_, h1, h2, h3, h4, h5⟩
  obtain ⟨b, hb, yes, no⟩ := q
  refine ⟨b, hb, fun hy a ha => ?_, fun hn => hx C f d v dd ρ' S' σ' H' (no hn) s' e' hd hv⟩
  refine ⟨_, S', F, _, e'.set (v := .ref a) (i := i) (.exn (v := .ref a) hd hv), yes hy a dd, hx.mono s', fun ρ2 S2 σ2 H2 a b c => h1 _ S2 _ H2 a (s'.trans b) (c.unset i), fun d v ρ2 S2 σ2 H2 a b c f => h2 d v ρ2 S2 σ2 H2 a (s'.trans b) c f,
    fun ρ2 S2 σ2 H2 a b c => h3 _ S2 _ H2 a (s'.trans b) (c.unset i), fun ρ2 S2 σ2 H2 a b c => h4 _ S2 _ H2 a (s'.trans b) (c.unset i), fun l od o ρ2 S2 σ2 H2 a b => h5 l od o ρ2 S2 σ2 H2 a (s'.trans b)⟩
end
theorem Cok.tr {X : Cx} {W W' : WX} {k : Nat} (c : Cok X W k) (pn : List (Addr × Obj)) (xe : Value → Shared → Prop) (t : Takes (X.tr pn xe) W') : Cok (X.tr pn xe) W' k := ⟨t, c.gd, c.rm⟩

/-- e.f in the suite -/
def wXf (a : Addr) (cls : Value) (dO : Option Addr) (C : Addr) (f : Str) (wa : WE) : WE := fun ρ χ Φ => wa ρ χ fun x ρ1 => match x with
  | .exn v dd f' d => v = .ref a ∧ cls = .ref C ∧ dO = some dd ∧ f' = f ∧ Φ d ρ1
  | _ => False
theorem l_xf {K : Fg} {W : WX} {a C : Addr} {cls : Value} {dO : Option Addr} {f : Str} {wa : WE} : ∀ σ H Q, lE K τ W (wXf a cls dO C f wa) σ H Q → tXf a cls dO C f (lE K τ W wa) σ H Q := by
  rintro σ H Q ⟨ρ, S, F, χ, Φ, e, hw, hx, hp⟩
  refine ⟨ρ, S, F, χ, _, e, hw, hx, fun v d ρ' S' H' q s' iv e' => ?_⟩
  cases iv with
  | exn h1 h2 =>
    obtain ⟨rfl, hc, rfl, rfl, q⟩ := q
    exact ⟨rfl, hc, _, _, _, rfl, e'.ex _ _ h1, by simp [List.lookup], hp _ _ ρ' S' H' q s' h2 e'⟩
  | _ => exact False.elim q
/-- isinstance(e, D): e the caught error -/
def rIsX (K : Fg) (cls : Value) (dO : Option Addr) (a : Addr) : List V → Hp → VK → Prop := fun xs H Q => ∃ (C : Addr) (c : V) (cv : Value) (dd : Addr) (fs : List (Str × V)) (b : Bool), xs = [.ref a, c] ∧ cls = .ref C ∧ dO = some dd ∧ H dd = some (.xd fs) ∧ ClsV c cv ∧ ExcC K C ∧
  PySem.W.kitOne K (.ref C) cv = some b ∧ Q (.bl b) H
theorem call_isX {X : Cx} {a : Addr} {cls : Value} {dO : Option Addr} {oe : Obj} {pn : List (Addr × Obj)} (hz : Zc cls dO oe) (hf : ∃ vs, oe.data = .fields vs) : CallR (X.suite a ((a, oe) :: pn)) (.builtin "isinstance") (rIsX X.K cls dO a) := by
  rintro pins s σ H xs us Q I r ⟨C, c, cv, dd, fs, b, rfl, rfl, rfl, ea, hcv, C0, e, q⟩
  cases r with
  | cons rx rr =>
    cases rr with
    | cons rt rr =>
      cases rr; cases rx; cases hcv.eq rt
      have hget := (I.pin (a, oe) (List.mem_append_left pins List.mem_cons_self)).1
      obtain ⟨vs, hv⟩ := hf
      obtain ⟨mA, hns, hr⟩ := (show ObjOk X.prog X.w H s.heap dd (.xd fs) from I.hok dd _ ea)
      obtain ⟨od, ho, -⟩ := lookIn_ns hns
      have J : PySem.W.InstAt s.heap a oe C (some od) := ⟨hget, hz.1, by unfold PySem.W.notCls; rw [hv] <;> rfl, by rw [hz.2]; exact ho⟩
      exact PySem.W.kia_one (PySem.W.kitx_exc (by obtain ⟨cd, hc, _⟩ := PySem.W.any_some C0.hd; rw [hc]; rfl) C0.hg C0.hk C0.hs C0.ha C0.hn C0.ht C0.hm) I.kIn J e (fun z => nomatch z) fun tk => ⟨.bl b, H, I.kept (t' := tk) fun _ _ z => z, rfl, q⟩
def rIsXD (K : Fg) (cls : Value) (dO : Option Addr) (a : Addr) : List D → (D → Prop) → Prop := fun ds Φ => match ds with
  | [.exn v dd _ _, .raw c] => v = .ref a ∧ dO = some dd ∧ ∃ (C : Addr) (cv : Value) (b : Bool), cls = .ref C ∧ ClsV c cv ∧ ExcC K C ∧ PySem.W.kitOne K (.ref C) cv = some b ∧ Φ (.bl b)
  | _ => False
theorem ok_isX {K : Fg} {cls : Value} {dO : Option Addr} {a : Addr} : CallOk K τ (rIsX K cls dO a) (rIsXD K cls dO a) := by
  intro S F H ρ σ vs ds Φ Q e hi hw hp
  unfold rIsXD at hw
  split at hw
  · cases hi with
    | cons r1 hi => cases hi with
      | cons r2 hi =>
        cases hi; cases r1 with
        | exn h1 h2 =>
          cases r2
          obtain ⟨rfl, rfl, C, cv, b, rfl, hc, hC, hk, q⟩ := hw
          exact ⟨C, _, cv, _, _, b, rfl, rfl, rfl, e.ex _ _ h1, hc, hC, hk, hp _ _ S H q (Same.refl S) (.bl b) e⟩
  · exact hw.elim
end DL
set_option Elab.async false
set_option autoImplicit false
set_option linter.all false
set_option maxRecDepth 100000
set_option maxHeartbeats 3900000
namespace DL
open L2 PyProof.Rows PySem PySem.Spec
variable {τ : Tb}
/-! ### isinstance(x, C), isinstance(x, (C1, C2)) -/
structure InsC (K : Fg) (C : Addr) : Prop where
  cl : Cls K C
  ha : some (some (.builtin "object.__class__")) = PySem.W.findIn K (.ref C) "__class__"
  hn : some (some (.builtin "getset_descriptor.__get__")) = PySem.W.specialIn K (.builtin "object.__class__") "__get__"
  ht : some true = PySem.W.takesIn K (.builtin "object.__class__")
  hm : some true = PySem.W.mroIn K C (.type "object")
inductive DTy (K : Fg) : D → Value → Prop
  | non : DTy K .non (.type "NoneType")
  | bl (b : Bool) : DTy K (.bl b) (.type "bool")
  | int (i : Int) : DTy K (.int i) (.type "int")
  | str (s : Str) : DTy K (.str s) (.type "str")
  | lst (ds : List D) : DTy K (.lst ds) (.type "list")
  | tup (ds : List D) : DTy K (.tup ds) (.type "tuple")
  | dic (ks : List Key) (ds : List D) : DTy K (.dic ks ds) (.type "dict")
  | obj {C : Addr} (ns : List Str) (ds : List D) (h : InsC K C) : DTy K (.obj C ns ds) (.ref C)
theorem DTy.of {K : Fg} {S H : Hp} {v : V} {d : D} {t : Value} (h : DTy K d t) (iv : Is K S v d) (ex : Same S H) : TyX K H v t := by
  refine .base ?_
  cases h with
  | obj ns ds h => cases iv with
    | obj h1 h2 h3 => exact .ins (ex _ _ h1) h.cl h.ha.symm h.hn.symm h.ht.symm h.hm.symm
  | lst ds => cases iv with
    | lst h1 h2 => exact .lst (ex _ _ h1)
  | tup ds => cases iv with
    | tup h1 h2 => exact .tup (ex _ _ h1)
  | dic ks ds => cases iv with
    | dic h1 h2 h3 => exact .dK (ex _ _ h1)
  | non => cases iv; exact .non
  | bl b => cases iv; exact .bl b
  | int i => cases iv; exact .int i
  | str s => cases iv; exact .str s
def wIsI (K : Fg) : WCl := fun ds Φ => match ds with
  | [x, .raw c] => ∃ (u t : Value) (b : Bool), ClsV c u ∧ DTy K x t ∧ PySem.W.kitOne K t u = some b ∧ Φ (.bl b)
  | _ => False
theorem ok_isI {K : Fg} : CallOk K τ (rIsi K) (wIsI K) := by
  intro S F H ρ σ vs ds Φ Q e hi hw hp
  unfold wIsI at hw
  split at hw
  · obtain ⟨u, t, b, hc, ht, hk, q⟩ := hw
    cases hi with
    | cons r1 hi => cases hi with
      | cons r2 hi =>
        cases hi; cases r2
        exact ⟨_, _, t, u, b, rfl, hc, ht.of r1 e.ex, hk, hp _ _ S H q (Same.refl S) (.bl b) e⟩
  · exact hw.elim
inductive RawAll : List D → List V → Prop
  | nil : RawAll [] []
  | cons (v : V) {ds vs} : RawAll ds vs → RawAll (.raw v :: ds) (v :: vs)
theorem RawAll.of {K : Fg} {S : Hp} : ∀ {ds : List D} {vs ws : List V}, RawAll ds vs → IsAll K S ws ds → ws = vs
  | _, _, _, .nil, .nil => rfl
  | _, _, _, .cons v h, .cons r t => by cases r; rw [h.of t]
def wIsT (K : Fg) : WCl := fun ds Φ => match ds with
  | [x, .tup cs] => ∃ (vs : List V) (us : List Value) (t : Value) (b : Bool), RawAll cs vs ∧ Paired ClsV vs us ∧ DTy K x t ∧ PySem.W.kitAny K t us = some b ∧ Φ (.bl b)
  | _ => False
theorem ok_isT {K : Fg} : CallOk K τ (rIsiT K) (wIsT K) := by
  intro S F H ρ σ vs ds Φ Q e hi hw hp
  unfold wIsT at hw
  split at hw
  · obtain ⟨vs, us, t, b, hr, hc, ht, hk, q⟩ := hw
    cases hi with
    | cons r1 hi => cases hi with
      | cons r2 hi =>
        cases hi; cases r2 with
        | tup h1 h2 =>
          cases hr.of h2
          exact ⟨_, _, _, t, us, b, rfl, e.ex _ _ h1, hc, ht.of r1 e.ex, hk, hp _ _ S H q (Same.refl S) (.bl b) e⟩
  · exact hw.elim

/-! ### enumerate of a tuple -/
theorem enum_new {v : Value} {o : Obj} {J : Heap → Prop} (B : PySem.Begins v o J) :
    Meets (Builtin.«enumerate.__new__» ⟨[.type "enumerate", v], []⟩) (fun _ R s => J s.heap ∧
      R (.ok (.ret (.ref (s.heap.objs.size + 1)))) { s with heap := (s.heap.push o).push { cls := .type "enumerate", data := .fields #[.none, .bool false, .ref s.heap.objs.size, rawInt 0, .none, .none] } }) :=
  .of_wp fun prog w A R s j0 => by
    rcases s with ⟨hp, gs, dr, tks, os⟩
    obtain ⟨j, h⟩ := j0
    have hsub := sub_enumerate
    have z : (hp.push o).objs.size = hp.objs.size + 1 := Heap.size_push ..
    have it0 : ∀ {A' : Around} {E Q : Value → Shared → Prop}, Q (.ref hp.objs.size) ⟨hp.push o, gs, dr, tks, os⟩ → wpAny (model prog w) A' (pyIter v) Q E ⟨hp, gs, dr, tks, os⟩ := fun q => B.iter _ _ _ _ _ _ j q
    have fin : R (.ok (.ret (.ref (hp.push o).objs.size))) ⟨(hp.push o).push { cls := .type "enumerate", data := .fields #[.none, .bool false, .ref hp.objs.size, rawInt 0, .none, .none] }, gs, dr, tks, os⟩ := by rw [z]; exact h
    wp_walk using it0
    refine wpAny_stack_any fun _ => wpAny_pure ?_; split
    · rename_i c _ _ _ _ _
      cases (c == Value.type "enumerate") <;> (wp_walk using it0; exact ⟨_, rfl, fin⟩)
    · wp_walk using it0
      exact ⟨_, rfl, fin⟩
theorem call_enum {prog : Program} {w : World} {A : Around} {E Q : Value → Shared → Prop} {s : Shared} {v : Value} {o : Obj} {J : Heap → Prop} (B : PySem.Begins v o J) (j : J s.heap)
    (h : ∀ h', IsEnum h' (s.heap.objs.size + 1) s.heap.objs.size 0 .none → h'.get? s.heap.objs.size = some o → (∀ b o, s.heap.get? b = some o → h'.get? b = some o) → Q (.ref (s.heap.objs.size + 1)) { s with heap := h' }) :
    wpAny (model prog w) A (call (.type "enumerate") [v]) Q E s := by
  have z : (s.heap.push o).objs.size = s.heap.objs.size + 1 := Heap.size_push ..
  have he : IsEnum ((s.heap.push o).push { cls := .type "enumerate", data := .fields #[.none, .bool false, .ref s.heap.objs.size, rawInt 0, .none, .none] }) (s.heap.objs.size + 1) s.heap.objs.size 0 .none := by
    rw [← z]; exact Heap.get?_push_size _ rfl
  exact callType_new F.called_enumerate (by decide) (F.typeCall_enumerate_1 _) (F.newCall_enumerate_1 _) (fun ob => F.args_object_init_2 ob _) F.entry_enumerate_new (enum_new B)
    ⟨j, ⟨_, he, rfl⟩, h _ he (Heap.get?_push_of_some _ (Heap.get?_push_size _ B.free)) fun b o x => Heap.get?_push_of_some _ (Heap.get?_push_of_some _ x)⟩

/-- the tuple at a, each item in a new pair with its place -/
def Iet (K : Fg) (a : Addr) : It :=
  ⟨fun i H => ∃ (xs : List V) (x : V), SqT K H a xs ∧ xs[i]? = some x, fun i H v H' => ∃ T x, v = .ref T ∧ H T = none ∧ H' = upd H T (.tup [.int (i : Nat), x]) ∧ ∀ xs, SqT K H a xs → xs[i]? = some x, fun i H => ∃ xs : List V, SqT K H a xs ∧ xs.length = i⟩
theorem turn_enumT {P : Program} {w : World} {K : Fg} {elts : List Expr} {kk : Nat} {tpos : Pos} (a e it : Addr) :
    Turn P w K (.Tuple elts kk tpos) (Iet K a) [e, it] e (fun i h => (∃ old, IsEnum h e it ((i : Nat) : Int) old) ∧ h.IsTupleIter it a i ∧ e ≠ it ∧ a ≠ it ∧ e ≠ a) where
  mem := List.mem_cons_self
  obj := by
    rintro i h ⟨⟨old, he⟩, ⟨o, ho, hc, hd⟩, -⟩ b hb
    obtain rfl | hb := List.mem_cons.mp hb
    · exact ⟨_, he, fun v q => nomatch q⟩
    · cases List.mem_singleton.mp hb
      exact ⟨o, ho, fun v q => nomatch hd.symm.trans q⟩
  keep := by
    rintro i h h' ⟨⟨old, he⟩, hi, hne⟩ k
    exact ⟨⟨old, k e List.mem_cons_self _ he⟩, hi.at fun o q => k it (List.mem_cons_of_mem _ List.mem_cons_self) o q, hne⟩
  item := by
    rintro X rfl rfl rfl hc i pins s σ H E I hf ⟨⟨old, he⟩, hit, hne, hai, hea⟩ ⟨xs, x, hq, hx⟩
    obtain ⟨its, rv, p, -⟩ := I.tuple hq
    have ⟨u, hu, ru⟩ := rv.get hx
    have hlt : i < its.toArray.size := by
      have := (List.getElem?_eq_some_iff.mp hu).1
      simpa using this
    have hel := Heap.lt_size he
    have hil : it < s.heap.objs.size := let ⟨_, q, _⟩ := hit; Heap.lt_size q
    refine wpAny_pyNext_enum_itemD (Draws.tuple (show X.A.in1.handled = none from I.ok.hd hc) it a hai its.toArray) he ⟨hit, p⟩ hlt hne (by simp [hne, hea]) fun y h' tk hy ho st' hT hsz hk => ?_
    have ey : y = u := by
      have : its.toArray[i]? = some u := by simpa using hu
      rw [this] at hy; exact (Option.some.inj hy).symm
    subst ey
    refine ⟨_, rfl, wpAny_letOwnedTupleGo_enum (s := { s with heap := h', toks := tk + 1 }) ho fun h'' he' sb => ?_⟩
    have hT2 : h''.get? s.heap.objs.size = some { cls := .type "tuple", data := .seq #[.int i tk, y] } := (sb.2 _ (Nat.ne_of_gt hel)).trans hT
    have new : ObjOk X.prog X.w (upd H s.heap.objs.size (.tup [.int (i : Nat), x])) h'' _ (.tup [.int (i : Nat), x]) :=
      ⟨show 2 ≤ sizeLine by decide, [.int i tk, y], .cons ⟨tk, rfl⟩ (.cons ru .nil), ⟨_, hT2, rfl, _, rfl⟩⟩
    have J : Inv X pins σ (upd H s.heap.objs.size (.tup [.int (i : Nat), x])) { s with heap := h'', toks := tk + 1 } := by
      refine I.turnedNew (ch := [e, it]) (fun b ob hb q => ?_) hf (Nat.le_refl _) new
      obtain ⟨n1, n2⟩ : b ≠ e ∧ b ≠ it := by simpa using hb
      exact (sb.2 b n1).trans (hk b ob n1 n2 q)
    refine ⟨.ref s.heap.objs.size, _, J, rfl, ⟨_, x, rfl, I.hok.fresh (Nat.le_refl _), rfl, fun ys hy => by rw [I.tuple_inj hy hq]; exact hx⟩, ⟨⟨y, ?_⟩, st'.1.at fun o q => (sb.2 it (Ne.symm hne)).trans q, hne, hai, hea⟩, fun b hb => ?_⟩
    · rw [show ((i + 1 : Nat) : Int) = (i : Int) + 1 by omega]; exact he'
    · rw [upd_ne (Nat.ne_of_lt (by rcases List.mem_cons.mp hb with rfl | hb; exact hel; cases List.mem_singleton.mp hb; exact hil))]
      exact (hf b hb).1
  done := by
    rintro X rfl rfl rfl hc i pins s σ H E I hf ⟨⟨old, he⟩, hit, hne, hai, hea⟩ ⟨xs, hq, hx⟩
    obtain ⟨its, rv, p, -⟩ := I.tuple hq
    obtain ⟨f0, f1, f2, f3, f4, f5⟩ := hf it (List.mem_cons_of_mem _ List.mem_cons_self)
    have hn : i = its.toArray.size := by have := rv.length; simp; omega
    subst hn
    exact wpAny_pyNext_enum_endD (Draws.tuple (show X.A.in1.handled = none from I.ok.hd hc) it a hai its.toArray) he ⟨hit, p⟩ fun h' eb => ⟨rfl, I.turned (t' := s.toks) (fun b o hb q => eb b o hb q) f0 f1 f3 f4 f5⟩
  self := by
    rintro A i s Q E ⟨⟨_, he⟩, -⟩ h
    exact wpAny_pyIter_enum he h
def enD (ds : List D) : List D := ds.zipIdx.map fun p => .tup [.int (p.2 : Nat), p.1]
/-- enumerate(e), e a list or a tuple, whichever it is -/
def wiEnum (wa : WL) : WL := fun ρ χ Φ => wa ρ χ fun as ρ1 => match as with
  | [.lst ds] => Φ (enD ds) ρ1
  | [.tup ds] => Φ (enD ds) ρ1
  | _ => False
theorem enD_at {ds : List D} {i : Nat} (h : i < ds.length) : (enD ds)[i]? = some (.tup [.int (i : Nat), ds[i]]) := by
  unfold enD
  rw [List.getElem?_map, List.getElem?_zipIdx, List.getElem?_eq_getElem h]
  simp
theorem enD_len {ds : List D} : (enD ds).length = ds.length := by unfold enD; simp
theorem new_pair {K : Fg} {S1 F H : Hp} {ρ : Rho} {σ : L2.St} {T : Addr} {x : V} {d : D} {i : Nat} (e : ER K τ S1 F H ρ σ) (hT : H T = none) (r : Is K S1 x d) :
    ∃ S2, Same S1 S2 ∧ Is K S2 (.ref T) (.tup [.int (i : Nat), d]) ∧ ER K τ S2 F (upd H T (.tup [.int (i : Nat), x])) ρ σ :=
  ⟨_, e.sn hT, .tup upd_same (.cons (.int _) (.cons (r.mono (e.sn hT)) .nil)), e.new hT⟩
theorem dwk_enL {K : Fg} {S : Hp} {a : Addr} {vs : List V} {ds : List D} (h : S a = some (.lst vs)) (hi : IsAll K S vs ds) : DWk K τ S (Ite K a) (enD ds) := by
  have hl := hi.length
  refine ⟨fun i H h1 s => ?_, fun H s => ⟨vs, .inl (.inl (s _ _ h)), by rw [enD_len]; omega⟩, fun i H x H' h1 s y => ?_⟩
  · rw [enD_len] at h1
    exact ⟨vs, vs[i]'(by omega), .inl (.inl (s _ _ h)), by simp⟩
  · rw [enD_len] at h1
    obtain ⟨T, v, rfl, hT, rfl, hv⟩ := y
    obtain ⟨v', q1, q2⟩ := hi.get (i := i) (d := ds[i]) (by simp [h1])
    cases q1.symm.trans (hv vs (.inl (.inl (s _ _ h))))
    exact ⟨_, enD_at h1, fun S1 F ρ σ s1 e => new_pair e hT (q2.mono s1)⟩
theorem dwk_enT {K : Fg} {S : Hp} {a : Addr} {vs : List V} {ds : List D} (h : S a = some (.tup vs)) (hi : IsAll K S vs ds) : DWk K τ S (Iet K a) (enD ds) := by
  have hl := hi.length
  refine ⟨fun i H h1 s => ?_, fun H s => ⟨vs, .inl (.inl (s _ _ h)), by rw [enD_len]; omega⟩, fun i H x H' h1 s y => ?_⟩
  · rw [enD_len] at h1
    exact ⟨vs, vs[i]'(by omega), .inl (.inl (s _ _ h)), by simp⟩
  · rw [enD_len] at h1
    obtain ⟨T, v, rfl, hT, rfl, hv⟩ := y
    obtain ⟨v', q1, q2⟩ := hi.get (i := i) (d := ds[i]) (by simp [h1])
    cases q1.symm.trans (hv vs (.inl (.inl (s _ _ h))))
    exact ⟨_, enD_at h1, fun S1 F ρ σ s1 e => new_pair e hT (q2.mono s1)⟩
theorem d_enum {X : Cx} {W : WX} {wa : WL} {e : Expr} {p pos tpos : Pos} {elts : List Expr} {kk : Nat} (hg : Gl X "enumerate") (hm : X.mg "enumerate" = none) (ha : PA X [e] (lL X.K τ W wa)) (hs : starEach [e] X.env = [(false, eval e X.env)] := by rfl) :
    PI X (.Tuple elts kk tpos) (.Call (.Name "enumerate" p) [e] [] pos) (lI X.K τ W (wiEnum wa)) := by
  constructor; rintro pins s σ H R I ⟨ρ, S, F, χ, Φ, e0, hw, hx, hp⟩
  have h' : lL X.K τ W wa σ H (fun vs H1 => ∃ a, vs = [.ref a] ∧ ((∃ xs, SqL X.K H1 a xs ∧ R (Ite X.K a) H1) ∨ ∃ xs, SqT X.K H1 a xs ∧ R (Iet X.K a) H1)) := by
    refine ⟨ρ, S, F, χ, _, e0, hw, hx, fun vs as ρ' S' H' q s' iv e' => ?_⟩
    split at q
    · cases iv with
      | cons r rr => cases rr; cases r with
        | lst h1 h2 => exact ⟨_, rfl, .inl ⟨_, .inl (.inl (e'.ex _ _ h1)), hp _ _ ρ' S' H' q s' e' (dwk_enL h1 h2)⟩⟩
    · cases iv with
      | cons r rr => cases rr; cases r with
        | tup h1 h2 => exact ⟨_, rfl, .inr ⟨_, .inl (.inl (e'.ex _ _ h1)), hp _ _ ρ' S' H' q s' e' (dwk_enT h1 h2)⟩⟩
    · exact q.elim
  refine Call_ (ld_blt I hg hm boot_enumerate (PyProof.Rows.callWith_type1 (thn (ha.run pos pins s σ H _ I h') fun us s1 ⟨vs, H1, I1, r1, a, ex, q1⟩ => ?_) hs rfl))
  subst ex
  rcases r1 with _ | ⟨r, rr⟩
  cases rr; cases r
  have fresh : ∀ b ∈ [s1.heap.objs.size + 1, s1.heap.objs.size], FpOk X pins H1 b := fun b hb => by
    have old : s1.heap.objs.size ≤ b := by
      obtain rfl | hb := List.mem_cons.mp hb
      · exact Nat.le_succ _
      · cases List.mem_singleton.mp hb; exact Nat.le_refl _
    exact I1.fpOk old (I1.hok.fresh old)
  rcases q1 with ⟨xs, hq, q⟩ | ⟨xs, hq, q⟩
  · obtain ⟨its, -, p', -⟩ := I1.list hq
    exact call_enum (PySem.begins_list a its.toArray) p'.isList fun h' he hit hk => wpAny_pyIter_enum he ⟨_, _, _, _, H1, rfl, I1.kept (t' := s1.toks) hk, turn_enum a _ s1.heap.objs.size, ⟨⟨.none, he⟩, ⟨_, hit, rfl, rfl⟩, Nat.succ_ne_self _⟩, fresh, q⟩
  · obtain ⟨its, -, p', -⟩ := I1.tuple hq
    have hlt : a < s1.heap.objs.size := by obtain ⟨_, z, _⟩ := p'; exact Heap.lt_size z
    exact call_enum (PySem.begins_tuple a its.toArray) p' fun h' he hit hk => wpAny_pyIter_enum he ⟨_, _, _, _, H1, rfl, I1.kept (t' := s1.toks) hk, turn_enumT a _ s1.heap.objs.size,
      ⟨⟨.none, he⟩, ⟨_, hit, rfl, rfl⟩, Nat.succ_ne_self _, Nat.ne_of_lt hlt, Nat.ne_of_gt (Nat.lt_succ_of_lt hlt)⟩, fresh, q⟩
end DL
set_option Elab.async false
set_option autoImplicit false
set_option linter.all false
set_option maxRecDepth 100000
set_option maxHeartbeats 3900000
namespace DL
open L2 PyProof.Rows PySem PySem.Spec
variable {τ : Tb}
/-! ### an instance that is being made: its fields -/
theorem putF_new {f : Str} {y : V} : ∀ {vs : List (Str × V)}, f ∉ vs.map (·.1) → putF f y vs = vs ++ [(f, y)]
  | [], _ => rfl
  | (g, z) :: r, h => by
    have hg : ¬ g = f := fun q => h (by rw [← q]; exact List.mem_cons_self)
    have hr : f ∉ r.map (·.1) := fun q => h (List.mem_cons_of_mem _ q)
    show (if g = f then _ else _) = _
    rw [if_neg hg, putF_new hr]
    rfl
/-- self.f = e, self the slot i, not yet there -/
def wFset (C : Addr) (f : Str) (i : Nat) (wa : WE) : WS := fun ρ Δ => (∃ l o, ρ[i]? = some (Sl.own l o)) ∧ wa ρ Δ.xc fun d ρ1 => match ρ1[i]? with
  | some (.own l (.i c ns ds)) => c = C ∧ f ∉ ns ∧ ns.length < 900 ∧ Δ.nx (ρ1.set i (.own l (.i c (ns ++ [f]) (ds ++ [d]))))
  | _ => False
/-- self.f -/
def wFldO (C : Addr) (f : Str) (i : Nat) : WE := fun ρ χ Φ => match ρ[i]? with
  | some (.own l (.i c ns ds)) => c = C ∧ ∃ d, lookD ns ds f = some d ∧ Φ d ρ
  | _ => False
section
variable {K : Fg} {W : WX} {C : Addr} {f : Str} {i : Nat} {wa : WE}
theorem l_fset (hc : Cls K C) (hn : NoAttr K C f) : ∀ D σ H, lS K τ W (wFset C f i wa) D σ H → sFld K (tVar i) (lE K τ W wa) f D σ H := by
  rintro D σ H ⟨ρ, S, F, Δ, e, ⟨⟨l0, o0, hl0⟩, hw⟩, hx, h1, -⟩
  obtain ⟨hσ, -⟩ := e.own i l0 o0 hl0
  refine ⟨ρ, S, F, _, _, e, hw, hx, fun y d ρ' S' H' q s' iv e' => ⟨.ref l0, hσ, ?_⟩⟩
  split at q
  · rename_i l c ns ds hl
    obtain ⟨rfl, hf, hz, q⟩ := q
    obtain ⟨b1, b2, b3, ob, b4, b5⟩ := e'.own i l _ hl
    cases b1.symm.trans hσ
    cases b5 with
    | i hns hi =>
      rename_i dx vs
      subst hns
      have hz' : vs.length < 1000 := by rw [List.length_map] at hz; omega
      refine ⟨_, _, dx, vs, rfl, b4, hc, hn, hz', h1 _ S' σ _ q s' (e'.wr hl ?_)⟩
      rw [putF_new hf]
      exact .i (by simp) (by rw [List.map_append]; exact hi.append (.cons iv .nil))
  · exact q.elim
theorem l_fldO (hc : Cls K C) (hn : NoAttr K C f) : ∀ σ H Q, lE K τ W (wFldO C f i) σ H Q → tFld K (tVar i) f σ H Q := by
  rintro σ H Q ⟨ρ, S, F, χ, Φ, e, hw, hx, hp⟩
  unfold wFldO at hw
  split at hw
  · rename_i l c ns ds hl
    obtain ⟨rfl, d, hd, q⟩ := hw
    obtain ⟨b1, b2, b3, ob, b4, b5⟩ := e.own i l _ hl
    cases b5 with
    | i hns hi =>
      subst hns
      obtain ⟨v, h1, h2⟩ := look_fs hi hd
      exact ⟨.ref _, b1, _, _, _, _, v, rfl, b4, hc, hn, h1, hp v d ρ S H q (Same.refl S) h2 e⟩
  · exact hw.elim
end

/-! ### C(..): the made object is data from then on -/
theorem ER.addS {K : Fg} {S F H : Hp} {ρ : Rho} {σ : L2.St} {p : Addr} {o : HO} (e : ER K τ S F H ρ σ) (h1 : H p = some o) (h2 : S p = none) (h3 : F p = none) (h4 : ∀ (j : Nat) (o2 : OD), ρ[j]? ≠ some (Sl.own p o2)) (h5 : ∀ ps, o ≠ .tbl ps) : ER K τ (upd S p o) F H ρ σ ∧ Same S (upd S p o) := by
  have sS : Same S (upd S p o) := fun b u q => by rw [upd_ne (ne_of_none q h2)]; exact q
  refine ⟨⟨e.len, fun b u q => ?_, fun a u q => ?_, fun j d q => ?_, fun j m od q => ?_, e.dis, e.tb.addS h1 h2 h5⟩, sS⟩
  · by_cases hb : b = p
    · subst hb; rw [upd_same] at q; cases q; exact h1
    · rw [upd_ne hb] at q; exact e.ex b u q
  · obtain ⟨a1, a2⟩ := e.fr a u q
    rw [upd_ne (ne_of_none q h3)]; exact ⟨a1, a2⟩
  · obtain ⟨v, a1, a2⟩ := e.val j d q
    exact ⟨v, a1, a2.mono sS⟩
  · obtain ⟨a1, a2, a3, ob, a4, a5⟩ := e.own j m od q
    have ne : m ≠ p := fun z => by subst z; exact h4 j od q
    exact ⟨a1, by rw [upd_ne ne]; exact a2, a3, ob, a4, a5.mono sS⟩
def wMake (C : Addr) (n m : Nat) (sp : Spc) (gD : List D → List D → List D) (wa wk : WL) : WE := fun ρ χ Φ => wa ρ χ fun ds ρ1 => wk ρ1 χ fun zs ρ2 => ds.length = n ∧ zs.length = m ∧
  sp (some (.i C [] [])) (gD ds zs) (fun d o' => d = .non ∧ ∃ ns es, o' = some (.i C ns es) ∧ Φ (.obj C ns es) ρ2) fun C f d => χ C f d ρ2
section
variable {K : Fg} {W : WX} {C : Addr} {sp : Spc} {n m N : Nat} {gV gW : List V → List V → List V} {gD : List D → List D → List D} {wa wk : WL}
theorem l_make (hg : GRel n m N gW gD) (hgv : ∀ v vs zs, gV (v :: vs) zs = v :: gW vs zs) : ∀ σ H Q, lE K τ W (wMake C n m sp gD wa wk) σ H Q → tMakeG W C n m (lSp K τ.t (N + 1) sp) gV (lL K τ W wa) (lL K τ W wk) σ H Q := by
  rintro σ H Q ⟨ρ, S, F, χ, Φ, e, hw, hx, hp⟩
  refine ⟨ρ, S, F, χ, _, e, hw, hx, fun vs ds ρ1 S1 H1 h1 s1 i1 e1 => ?_⟩
  refine ⟨ρ1, S1, F, χ, _, e1, h1, hx.mono s1, fun us es ρ2 S2 H2 h2 s2 i2 e2 => ?_⟩
  obtain ⟨l1, l2, h3⟩ := h2
  have l1' : vs.length = n := by rw [i1.length]; exact l1
  have l2' : us.length = m := by rw [i2.length]; exact l2
  obtain ⟨ig, lg⟩ := hg K S2 vs ds us es (i1.mono s2) i2 l1' l2'
  refine ⟨l1', l2', fun x dx hx0 hdx hne => ?_⟩
  have sH : Same S2 (upd (upd H2 dx (.own x)) x (.ins C dx [])) := fun b u q => by
    have hb := e2.ex b u q
    rw [upd_ne (ne_of_none hb hx0), upd_ne (ne_of_none hb hdx)]; exact hb
  have fc : ∀ a o, a ∉ τ.t.map (·.1) → S2 a = none → H2 a = some o → others τ.t S2 (upd (upd H2 dx (.own x)) x (.ins C dx [])) (fun a => a = x) a = some o := fun a o n a1 a2 =>
    others_of (p := fun a => a = x) n (ne_of_none a2 hx0) a1 (by rw [upd_ne (ne_of_none a2 hx0), upd_ne (ne_of_none a2 hdx)]; exact a2)
  rw [hgv]
  refine ⟨S2, others τ.t S2 (upd (upd H2 dx (.own x)) x (.ins C dx [])) (fun a => a = x), some (x, .i C [] []), gD ds es, _, _, by rw [List.length_cons, lg],
    er_argsO ig sH (TbOk.oth ⟨(e2.tb.tab.ext fun b u e => by rw [upd_ne (ne_of_none e hx0), upd_ne (ne_of_none e hdx)]; exact e), e2.tb.nS, e2.tb.nF, e2.tb.ks, e2.tb.kf⟩) (fun a o h => by obtain ⟨_, a1, a2⟩ := others_inv h; exact ⟨a2, a1⟩) upd_same (e2.sp hx0) (by unfold others; rw [if_pos (.inl rfl)]) (.i rfl .nil), h3,
    fun d v o2 S' H' q _ s' iv er => ?_, fun C f d v dd S' H' q s' ex tb fr hd iv => ?_⟩
  · obtain ⟨rfl, ns, ys, rfl, q⟩ := q
    cases iv
    obtain ⟨_, c2, _, o3, c4, c5⟩ := er.own 0 x _ rfl
    obtain ⟨e4, s4⟩ := (e2.back s' er.ex er.tb.tab er.tb.nS fc er.fr).addS c4 c2 (e2.fp hx0) (e2.notOwn hx0) c5.notX.1
    refine ⟨rfl, hp (.ref x) _ ρ2 _ H' q (((s1.trans s2).trans s').trans s4) ?_ e4⟩
    cases c5 with
    | i hns hi => exact .obj upd_same hns (hi.mono s4)
  · exact hx C f d v dd ρ2 S' σ H' q ((s1.trans s2).trans s') (e2.back s' ex tb.tab tb.nS fc fr) hd iv
end

/-! ### x != y of two instances of a class that has its own __eq__ alone -/
structure EqC (K : Fg) (C f : Addr) : Prop where
  cls : ∃ nm q N bs hdct sn sub ab col dd k0 k1 k2 k3 k5 ni, K.lookup C = some (excClassObj nm q C N bs [.type "object"] hdct sn sub ab col dd k0 k1 k2 k3 k5 ni) ∧ PySem.W.nsOkIn K N = true ∧ PySem.W.nsIn K N "__eq__" = some (some (.ref f)) ∧ PySem.W.nsIn K N "__ne__" = some none
  fn : true = PySem.W.isFn K (.ref f)
def rNeO (C : Addr) (sp : Sp) : R2 := fun x y H Q => ∃ a b dx dy fs gs, x = .ref a ∧ y = .ref b ∧ H a = some (.ins C dx fs) ∧ H b = some (.ins C dy gs) ∧ sp [x, y] H (fun v H' => ∃ t, v = .bl t ∧ Q (.bl !t) H') fun _ _ _ => False
theorem ns_some_of {K : Fg} {h : Heap} {N : Addr} {mg : Str → Option Value} {n : Str} {v : Value} (X : K.In h) (G : h.Ns N mg) (e : PySem.W.nsIn K N n = some (some v)) : mg n = some v := by
  obtain ⟨_, es, _, ho, hd, -, hf⟩ := G; unfold PySem.W.nsIn at e
  split at e
  · rename_i c d es' n' sl q
    cases ho.symm.trans (X _ _ q)
    cases hd
    rw [← hf]
    unfold nsFind findBy
    rw [← Array.find?_toList]
    split at e
    · rename_i en he
      cases e
      rw [he]; rfl
    · split at e <;> cases e
  · cases e
theorem op_neO {X : Cx} {W : WX} {k : Nat} {C f : Addr} {fd : FuncData} {ps : List Str} {sp : Sp} {g : List Value → List Value → List Value} {gV : List V → List V → List V} (T : EqC X.K C f) (F : FnG X.prog X.w X.K X.mg X.base k f fd ps sp) (c : Cok X W (k + 1)) (hb : KBn X.K fd ps 2 [] g gV)
    (hg : ∀ us, g us [] = us) (hgV : ∀ us, gV us [] = us) : OpR X (compareOp .NotEq) (rNeO C sp) := by
  rintro pins s σ H x y v u Q I rx ry ⟨a, b, dx, dy, fs, gs, rfl, rfl, ha, hb', hsp⟩
  cases rx; cases ry
  obtain ⟨nm, q, N, bs, hdct, sn, sub, ab, col, dd, k0, k1, k2, k3, k5, ni, hC, hN, hE, hNe⟩ := T.cls
  obtain ⟨mA, ⟨O1, -, -⟩, -⟩ := ins_get I.hok ha
  obtain ⟨mB, ⟨O2, -, -⟩, -⟩ := ins_get I.hok hb'
  obtain ⟨hp, gs', dr, tk, os⟩ := s
  have G : Heap.Ns hp N (hp.nsMap N) := Heap.Ns.of_isNs (PySem.W.isNs_of_in I.kIn hN)
  obtain ⟨of, hof, hofc⟩ : ∃ of, hp.get? f = some of ∧ of.cls = .type "function" := by
    have ht : PySem.W.typeIn X.K (.ref f) = some (.type "function") := beq_iff_eq.mp T.fn.symm
    replace ht : (X.K.lookup f).map (·.cls) = some (.type "function") := ht
    cases ho : X.K.lookup f with
    | none => rw [ho] at ht; cases ht
    | some of => rw [ho] at ht; exact ⟨of, I.kIn _ _ ho, Option.some.inj ht⟩
  have own : hp.OwnEqNoNe a C f "object" [.type "object"] := by
    refine ⟨_, of, nm, q, N, bs, hdct, sn, sub, ab, col, dd, k0, k1, k2, k3, k5, ni, hp.nsMap N, _, O1, rfl, I.kIn _ _ hC, G, ns_some_of I.kIn G hE, hof, hofc, PySem.F.cmp_object.mro, PySem.F.cmp_object.eq.lookup, PySem.W.ns_none_of I.kIn G hNe⟩
  refine compareOp_ne_ownEq PySem.F.cmp_object own O2 rfl c.hu ?_
  have e0 : Env0 X.prog X.w X.K X.mg X.base X.A.in1 X.stack ⟨hp, gs', dr, tk, os⟩ H := by
    have z := I.env0
    exact ⟨z.frames, z.mod, z.bs, z.bsz, z.funs, z.frf, z.hok, z.bare⟩
  have r2 : Vals [.ref a, .ref b] [.ref a, .ref b] := .cons rfl (.cons rfl .nil)
  have bt := hb.to ⟨hp, gs', dr, tk, os⟩ [Value.ref a, Value.ref b] [] I.kIn rfl rfl
  rw [hg] at bt
  refine wpAny_call (codeAny_mono (F.run X.A.in1 X.stack ⟨hp, gs', dr, tk, os⟩ H ⟨[.ref a, .ref b], []⟩ _ _ _ _ c.rm.in1 c.gd e0 bt r2 hsp) fun r s' hq => ?_)
  cases r with
  | error er => exact c.tk er s' (XE.of_call I (fun _ _ _ z => z.elim) hq)
  | ok fl =>
    cases fl with
    | ret w =>
      obtain ⟨z, H', I', rz, t, ez, q⟩ := I.after hq
      subst ez
      cases rz
      exact ⟨t, rfl, .bl !t, H', I', rfl, q⟩
    | next => cases hq
    | brk => cases hq
    | cont => cases hq
def wNeO (C : Addr) (sp : Spc) (x y : D) (Φ : D → Prop) : Prop := (∃ ns ds ms es, x = .obj C ns ds ∧ y = .obj C ms es) ∧ sp none [x, y] (fun d _ => ∃ t, d = .bl t ∧ Φ (.bl !t)) fun _ _ _ => False
theorem ok_neO {K : Fg} {C : Addr} {sp : Spc} : OpOk K τ (rNeO C (lSp K τ.t 2 sp)) (wNeO C sp) := by
  rintro S F H ρ σ x y dx dy Φ Q e ix iy ⟨⟨ns, ds, ms, es, rfl, rfl⟩, hs⟩ hp
  have ixy : IsAll K S [x, y] [.obj C ns ds, .obj C ms es] := .cons ix (.cons iy .nil)
  cases ix with
  | obj h1 h2 h3 =>
    cases iy with
    | obj h4 h5 h6 =>
      refine ⟨_, _, _, _, _, _, rfl, rfl, e.ex _ _ h1, e.ex _ _ h4, S, others τ.t S H fun _ => False, none, _, _, _, rfl, er_args ixy e.ex e.tb.oth fun a o h => ?_, hs, fun d v o' S' H' q _ s' iv er => ?_, fun C f d v dd S' H' q => q.elim⟩
      · obtain ⟨_, a1, a2⟩ := others_inv h
        exact ⟨a2, a1⟩
      · obtain ⟨t, rfl, q⟩ := q
        cases iv
        exact ⟨t, rfl, hp _ _ S' H' q s' (.bl _) (e.back s' er.ex er.tb.tab er.tb.nS (fun a o n a1 a2 => others_of n (fun z => z) a1 a2) er.fr)⟩
end DL
set_option Elab.async false
set_option autoImplicit false
set_option linter.all false
set_option maxRecDepth 100000
set_option maxHeartbeats 3900000
namespace DL
open L2 PyProof.Rows PySem PySem.Spec
variable {τ : Tb}
/-! ### {k: v for ..}, the keys all unlike -/
theorem putK_new {k : Key} {v : V} {kvs : List (Key × V)} (h : k ∉ kvs.map (·.1)) : putK kvs k v = kvs ++ [(k, v)] := by
  refine if_neg fun q => ?_
  obtain ⟨p, hp, e⟩ := List.any_eq_true.1 q
  exact h (List.mem_map.2 ⟨p, hp, of_decide_eq_true e⟩)
def wDcL (g : WG) (wt : WT) (wk wv : WE) (vs : List Nat) : List D → List Key → List D → Rho → (List Key → List D → Rho → Prop) → Prop
  | [], ks, acc, ρ, Φ => Φ ks acc ρ
  | d :: ds, ks, acc, ρ, Φ => g d ρ fun ρ1 => wt ρ1 χ0 fun b ρ2 => if b = true then wk ρ2 χ0 fun y ρ3 => wv ρ3 χ0 fun z ρ4 => ∃ k, keyD y = some k ∧ k ∉ ks ∧ ks.length < sizeLine ∧ wDcL g wt wk wv vs ds (ks ++ [k]) (acc ++ [z]) (wipeR ρ4 vs) Φ
      else wDcL g wt wk wv vs ds ks acc (wipeR ρ2 vs) Φ
def wDc (wi : WL) (g : WG) (wt : WT) (wk wv : WE) (vs : List Nat) : WE := fun ρ χ Φ => wi ρ χ fun ds ρ1 => wDcL g wt wk wv vs ds [] [] (wipeR ρ1 vs) fun ks ys ρ2 => Φ (.dic ks ys) (backR ρ1 ρ2 vs)
theorem l_dc {K : Fg} {W : WX} {wi : WL} {g : WG} {wt : WT} {wk wv : WE} {vs : List Nat} : ∀ σ H Q, lE K τ W (wDc wi g wt wk wv vs) σ H Q → tDc (lI K τ W wi) (lGc K τ vs g) (lT K τ W0 wt) (lE K τ W0 wk) (lE K τ W0 wv) vs σ H Q := by
  rintro σ H Q ⟨ρ, S, F, χ, Φ, e, hw, hx, hp⟩
  refine ⟨ρ, S, F, χ, _, e, hw, hx, fun J ds ρ1 S1 H1 q1 s1 e1 wk0 => fun L hL => ?_⟩
  have fL := e1.fp hL
  have gL := e1.tb.free fL
  refine ⟨fun i m H' => m = ds.length - i ∧ i ≤ ds.length ∧ ∃ ρ' S' kvs ks acc, Same S1 S' ∧ ER K τ S' (upd F L (.dK kvs)) H' ρ' (wipe σ vs) ∧ kvs.map (·.1) = ks ∧ IsAll K S' (kvs.map (·.2)) acc ∧ wDcL g wt wk wv vs (ds.drop i) ks acc ρ' (fun zs ys ρ2 => Φ (.dic zs ys) (backR ρ1 ρ2 vs)),
    ⟨_, rfl, Nat.zero_le _, wipeR ρ1 vs, S1, [], [], [], Same.refl S1, (e1.wipe vs).addF hL, rfl, .nil, q1⟩, ?_⟩
  rintro i m H' ⟨rfl, hi, ρ', S', kvs, ks, acc, s', e', hk, iu, q⟩
  subst hk
  by_cases hlt : i < ds.length
  · refine .inr ⟨wk0.go i H' hlt (s'.trans e'.ex), fun H2 => ∃ ρ2 S2 kvs2 acc2, Same S1 S2 ∧ ER K τ S2 (upd F L (.dK kvs2)) H2 ρ2 (wipe σ vs) ∧ IsAll K S2 (kvs2.map (·.2)) acc2 ∧ wDcL g wt wk wv vs (ds.drop (i + 1)) (kvs2.map (·.1)) acc2 ρ2 (fun zs ys ρ3 => Φ (.dic zs ys) (backR ρ1 ρ3 vs)),
      fun H2 ⟨ρ2, S2, kvs2, acc2, z1, z2, z3, z4⟩ => ⟨ds.length - (i + 1), by omega, rfl, hlt, ρ2, S2, kvs2, _, acc2, z1, z2, rfl, z3, z4⟩, fun x H2 y => ?_⟩
    obtain ⟨d, hd, y2⟩ := wk0.yld i H' x H2 hlt (s'.trans e'.ex) y
    obtain ⟨S2, s2, i2, e2⟩ := y2 S' _ ρ' _ s' e'
    have ed : ds.drop i = d :: ds.drop (i + 1) := by
      rw [(List.drop_eq_getElem_cons hlt)]
      rw [List.getElem?_eq_getElem hlt] at hd
      rw [Option.some.inj hd]
    rw [ed] at q
    refine ⟨ρ', S2, _, d, _, e2, i2, q, fun ρ3 S3 σ3 H3 q3 s3 e3 w3 => ⟨w3.trans wipe_wipe, ?_⟩⟩
    have w3' : wipe σ3 vs = wipe σ vs := w3.trans wipe_wipe
    refine ⟨ρ3, S3, _, χ0, _, e3, q3, XOk.none, fun b ρ4 S4 H4 q4 s4 e4 => ?_⟩
    cases b with
    | false =>
      rw [if_neg Bool.false_ne_true] at q4 ⊢
      have e5 := e4.wipe vs
      rw [w3'] at e5
      exact ⟨_, S4, kvs, acc, ((s'.trans s2).trans s3).trans s4, e5, iu.mono ((s2.trans s3).trans s4), q4⟩
    | true =>
      rw [if_pos rfl] at q4 ⊢
      refine ⟨ρ4, S4, _, χ0, _, e4, q4, XOk.none, fun v dv ρ5 S5 H5 q5 s5 i5 e5 => ?_⟩
      refine ⟨ρ5, S5, _, χ0, _, e5, q5, XOk.none, fun u du ρ6 S6 H6 q6 s6 i6 e6 => ?_⟩
      obtain ⟨k, hk, hn, hl, q6⟩ := q6
      obtain ⟨h6, _⟩ := e6.fr L _ upd_same
      have t6 := (((s2.trans s3).trans s4).trans s5).trans s6
      refine ⟨kvs, k, keyD_is i5 hk, h6, by rw [List.length_map] at hl; exact hl, ?_⟩
      rw [putK_new hn]
      have e7 := (e6.wipe vs).chF (o' := .dK (kvs ++ [(k, u)])) gL (fun c q z => by unfold LamX.CodeO at z; cases z)
      rw [w3'] at e7
      exact ⟨_, S6, kvs ++ [(k, u)], acc ++ [du], s'.trans t6, e7, by rw [List.map_append]; exact (iu.mono t6).append (.cons i6 .nil), by rw [List.map_append]; exact q6⟩
  · have ei : i = ds.length := by omega
    subst ei
    rw [List.drop_length] at q
    refine .inl ⟨wk0.stop H' (s'.trans e'.ex), ?_⟩
    obtain ⟨hL2, -⟩ := e'.fr L _ upd_same
    obtain ⟨e8, s8⟩ := e'.doneF fL gL
    exact hp _ _ _ _ H' q ((s1.trans s').trans s8) (.dic upd_same rfl (iu.mono s8)) (e1.restore (s'.trans s8) e8)
end DL
set_option Elab.async false
set_option autoImplicit false
set_option linter.all false
set_option maxRecDepth 100000
set_option maxHeartbeats 3900000
namespace DL
open L2 PyProof.Rows PySem PySem.Spec
variable {τ : Tb}
open PySem.Builtin PySem.Builtin.Str
/-! ### x.replace(y, z, n), y and z written, within a list whose first item has written a text -/
def repN (x y z : PySem.Str) (n : Int) : PySem.Str :=
  if ((occurrences x y 0 x.length (limitOf x n)).isEmpty || (y.length == 0 && z.length == 0)) = true then x else glued z (partsBetween x (occurrences x y 0 x.length (limitOf x n)) y.length)
theorem gives_repN (x y z : PySem.Str) (n : Int) (t u v w : Tok) (hn : (decide (n < -(2 ^ 63 : Int)) || decide (n ≥ 2 ^ 63)) = false) (h0 : (u == 0 || v == 0) = false) (huv : (u == v) = false) (hyz : (y == z) = false)
    (hl : tooLong (x.length + (occurrences x y 0 x.length (limitOf x n)).length * z.length) = false) :
    Gives («str.replace» ⟨[.str x t, .str y u, .str z v, .int n w], []⟩) (if ((occurrences x y 0 x.length (limitOf x n)).isEmpty || (y.length == 0 && z.length == 0)) = true then .val (.str x t) else .str (glued z (partsBetween x (occurrences x y 0 x.length (limitOf x n)) y.length))) := by
  show Gives (do let limit ← countLimit "str.replace" (some (.int n w)) (x.length + 1); _) _
  rw [countLimit_int "str.replace" n w (x.length + 1) hn]
  show Gives (if ((occurrences x y 0 x.length (limitOf x n)).isEmpty || (y.length == 0 && z.length == 0)) = true then (do rule "str.replace.nothing"; ret (.str x t)) else
          (do let one ← isSame (.str y u) (.str z v); if one = true then (do rule "str.replace.old-is-new"; ret (.str x t)) else
              if tooLong (x.length + (occurrences x y 0 x.length (limitOf x n)).length * z.length) = true then unsupported "str.replace:memory" else
              retStr (glued z (partsBetween x (occurrences x y 0 x.length (limitOf x n)) y.length)))) _
  split
  · exact .rule (.of_eq rfl)
  · rw [hl, isSame_str_other y z u v h0 huv hyz]; exact .of_eq rfl
theorem gluedN_len (x y z : PySem.Str) (n : Int) : (glued z (partsBetween x (occurrences x y 0 x.length (limitOf x n)) y.length)).length ≤ x.length + (occurrences x y 0 x.length (limitOf x n)).length * z.length := by
  have h : (glued y (partsBetween x (occurrences x y 0 x.length (limitOf x n)) y.length)).length = x.length := congrArg PySem.Str.length (StrLaws.glued_between_self x y (limitOf x n))
  rw [PySem.size_glued, PySem.length_partsBetween] at h ⊢
  rw [Nat.add_sub_cancel] at h ⊢
  omega
theorem repN_len (x y z : PySem.Str) (n : Int) : (repN x y z n).length ≤ x.length + (occurrences x y 0 x.length (limitOf x n)).length * z.length := by
  unfold repN
  split
  · exact Nat.le_add_right _ _
  · exact gluedN_len x y z n
theorem mem_glFold (sep : PySem.Str) (c : Nat) : ∀ (ps : List PySem.Str) (acc : Array Nat), c ∈ ps.foldl (fun acc p => acc ++ sep.cps ++ p.cps) acc ↔ c ∈ acc ∨ (ps ≠ [] ∧ c ∈ sep.cps) ∨ ∃ p ∈ ps, c ∈ p.cps
  | [], acc => by simp
  | p :: ps, acc => by
    rw [List.foldl_cons, mem_glFold sep c ps]
    simp only [Array.mem_append, List.mem_cons]
    constructor
    · rintro (((h | h) | h) | ⟨_, h⟩ | ⟨q, h1, h2⟩)
      · exact .inl h
      · exact .inr (.inl ⟨by simp, h⟩)
      · exact .inr (.inr ⟨p, .inl rfl, h⟩)
      · exact .inr (.inl ⟨by simp, h⟩)
      · exact .inr (.inr ⟨q, .inr h1, h2⟩)
    · rintro (h | ⟨_, h⟩ | ⟨q, rfl | h1, h2⟩)
      · exact .inl (.inl (.inl h))
      · exact .inl (.inl (.inr h))
      · exact .inl (.inr h2)
      · exact .inr (.inr ⟨q, h1, h2⟩)
theorem repN_mem {x y z : PySem.Str} {n : Int} {c : Nat} (h : c ∈ (repN x y z n).cps) : c ∈ x.cps ∨ c ∈ z.cps := by
  unfold repN at h
  split at h
  · exact .inl h
  · have hx := StrLaws.glued_between_self x y (limitOf x n)
    cases hp : partsBetween x (occurrences x y 0 x.length (limitOf x n)) y.length with
    | nil =>
      rw [hp] at h
      cases (show c ∈ (#[] : Array Nat) from h)
      all_goals simp_all
    | cons p ps =>
      rw [hp] at h hx
      have h' : c ∈ ps.foldl (fun acc p => acc ++ z.cps ++ p.cps) p.cps := h
      have hx' : x.cps = ps.foldl (fun acc p => acc ++ y.cps ++ p.cps) p.cps := (congrArg PySem.Str.cps hx).symm
      rw [hx']
      rcases (mem_glFold z c ps p.cps).mp h' with h | ⟨_, h⟩ | h
      · exact .inl ((mem_glFold y c ps p.cps).mpr (.inl h))
      · exact .inr h
      · exact .inl ((mem_glFold y c ps p.cps).mpr (.inr (.inr h)))
/-- an expression behind which a token is out -/
def PE1 (X : Cx) (e : Expr) (t : TE) : Prop := ∀ (pins : List (Addr × Obj)) (s : Shared) (σ : L2.St) (H : Hp) (Q : VK), Inv X pins σ H s → t σ H Q → wpAny (model X.prog X.w) X.A (eval e X.env) (fun v s1 => 1 ≤ s1.toks ∧ EP X pins σ Q v s1) X.xe s
section
variable {X : Cx} {a b e o : Expr} {es : List Expr} {ta tb te to : TE} {tl : TA} {op : Operator} {r : R2} {pos cpos apos c1 c2 c3 : Pos} {c y z : PySem.Str} {j j1 j2 j3 : Nat} {n : Int}
theorem petOf (h : PE X e te) : PET X e te := fun _ _ _ _ _ _ I q => h.run _ _ _ _ _ I q
theorem pe1_bin (ho : OpR X (binaryOp op) r) (ha : PE X a ta) : PE1 X (.BinOp a op (.Constant (.str c) j cpos) pos) (tOp r ta (tC (.str c))) := by
  intro pins s σ H Q I h
  refine wpAny_BinOp (thn (ha.run pins s σ H _ I h) fun v s1 ⟨x, H1, I1, r1, q1⟩ => Calls.Constant_str ?_)
  refine wpAny_mono (wpAny_toks_of (n := 1) (Nat.succ_le_succ (Nat.zero_le _)) (ho pins _ σ H1 x (.str c) v _ Q (I1.tok (s1.toks + 1)) r1 ⟨_, rfl⟩ q1)) (fun _ _ q => q) fun _ _ q => q.2
theorem pa_cons1 (ha : PE1 X e te) (hr : PAT X es tl) (hs : starEach (e :: es) X.env = (false, eval e X.env) :: starEach es X.env := by rfl) : PA X (e :: es) (tCons te tl) := by
  constructor; intro pos pins s σ H Q I h
  rw [hs]
  exact Calls.spliced_cons (thn (ha pins s σ H _ I h) fun v s1 ⟨h1, x, H1, I1, r1, q1⟩ => thn (hr pos pins s1 σ H1 _ h1 I1 q1) fun us s2 ⟨xs, H2, I2, r2, q2⟩ => ⟨x :: xs, H2, I2, .cons r1 r2, q2⟩)
theorem pet_op (ho : OpR X (binaryOp op) r) (ha : PET X a ta) (hb : PE X b tb) : PET X (.BinOp a op b pos) (tOp r ta tb) := fun pins s σ H Q h0 I h =>
  wpAny_BinOp (thn (ha pins s σ H _ h0 I h) fun v s1 ⟨x, H1, I1, r1, q1⟩ => thn (hb.run pins s1 σ H1 _ I1 q1) fun u s2 ⟨w, H2, I2, r2, q2⟩ => ho pins s2 σ H2 x w v u Q I2 r1 r2 q2)
def tRepN (y z : PySem.Str) (n : Int) (to : TE) : TE := fun σ H Q => to σ H fun x H1 => ∃ s, x = .str s ∧ s.length + (occurrences s y 0 s.length (limitOf s n)).length * z.length ≤ 16777216 ∧ Q (.str (repN s y z n)) H1
theorem pet_repN (ho : PE X o to) (hn : (decide (n < -(2 ^ 63 : Int)) || decide (n ≥ 2 ^ 63)) = false) (hyz : (y == z) = false) (hbase : attributeBase o "replace" X.env (eval o X.env) = eval o X.env := by rfl)
    (hfew : ((backTo cpos (starEach [.Constant (.str y) j1 c1, .Constant (.str z) j2 c2, .Constant (.int n) j3 c3] X.env)).all (fun x => !x.1) && (backToKw cpos (keywordEach [] X.env)).all (fun x => x.1.isSome)
      && decide ([.Constant (.str y) j1 c1, .Constant (.str z) j2 c2, Expr.Constant (.int n) j3 c3].length + ([] : List Keyword).length + (if ([] : List Keyword).isEmpty then 0 else 1) < 30)) = true := by rfl)
    (hline : (apos.endLine == cpos.line) = true := by rfl) :
    PET X (.Call (.Attribute o "replace" apos) [.Constant (.str y) j1 c1, .Constant (.str z) j2 c2, .Constant (.int n) j3 c3] [] cpos) (tRepN y z n to) := by
  intro pins s σ H Q h0 I h
  refine wpAny_Call_method_late hbase hfew hline rfl (wpAny_mono (wpAny_toks_of h0 (ho.run pins s σ H _ I h)) (fun v s1 ⟨h1, x, H1, I1, r1, a, ex, hz, q⟩ => ?_) fun _ _ q => q.2)
  subst ex
  obtain ⟨t, rfl⟩ := (show ∃ t, v = Value.str a t from r1)
  refine ⟨"str", _, F.plainAttrs_str, F.slot_str_replace, F.type_str_replace, typeIs_str _ _ _, (fun _ e => nomatch e), Calls.callWith_builtin rfl (Calls.evalArgs_plain ?_)⟩
  show wpAny _ _ (spliced [(false, eval (.Constant (.str y) j1 c1) X.env), (false, eval (.Constant (.str z) j2 c2) X.env), (false, eval (.Constant (.int n) j3 c3) X.env)]) _ _ _
  refine Calls.spliced_cons (Calls.Constant_str (Calls.spliced_cons (Calls.Constant_str (Calls.spliced_cons (wpAny_Constant_int (Calls.spliced_nil ?_))))))
  refine call_gives F.slot_str_replace (typeIs_str _ _ _) F.entry_str_replace (F.args_str_replace_4 _ _ _ _) (gives_repN a y z n t s1.toks (s1.toks + 1) _ hn (by have hu : s1.toks ≠ 0 := Nat.ne_of_gt h1; simp [hu]) (by simp) hyz (by unfold tooLong; refine decide_eq_false ?_; show ¬ (_ > sizeLine); rw [sizeLine_eq]; omega)) ?_
  unfold repN at q
  split
  · rename_i e
    rw [if_pos e] at q
    exact ⟨.str a, H1, I1.tok _, ⟨t, rfl⟩, q⟩
  · rename_i e
    rw [if_neg e] at q
    refine ⟨?_, .str (glued z (partsBetween a (occurrences a y 0 a.length (limitOf a n)) y.length)), H1, I1.tok _, ⟨_, rfl⟩, q⟩
    have hl := gluedN_len a y z n
    rw [sizeLine_eq]
    omega
end
def wRepN (y z : PySem.Str) (n : Int) (wa : WE) : WE := fun ρ χ Φ => wa ρ χ fun x ρ1 => match x with
  | .str s => s.length + (occurrences s y 0 s.length (limitOf s n)).length * z.length ≤ 16777216 ∧ Φ (.str (repN s y z n)) ρ1
  | _ => False
theorem l_repN {K : Fg} {W : WX} {y z : PySem.Str} {n : Int} {wa : WE} : ∀ σ H Q, lE K τ W (wRepN y z n wa) σ H Q → tRepN y z n (lE K τ W wa) σ H Q := by
  rintro σ H Q ⟨ρ, S, F, χ, Φ, e, hw, hx, hp⟩
  refine ⟨ρ, S, F, χ, _, e, hw, hx, fun v d ρ' S' H' q s' iv e' => ?_⟩
  cases iv with
  | str s => exact ⟨s, rfl, q.1, hp _ _ ρ' S' H' q.2 s' (.str _) e'⟩
  | _ => exact q.elim
end DL
set_option Elab.async false
set_option autoImplicit false
set_option linter.all false
set_option maxRecDepth 100000
set_option maxHeartbeats 3900000
namespace DL
open L2 PyProof.Rows PySem PySem.Spec
variable {τ : Tb}
/-! ### the law is called from above all: no text is being made there -/
/-- what is told of the heap: the script, unless the program's own part tells it already -/
theorem told {P : Program} {w : World} {K : Fg} {s : Shared} {a : Addr} {vs : List Value} {ns : List Int} (KX : K.In s.heap) (ha : s.heap.get? a = some { cls := .type "list", data := .seq vs.toArray }) (hi : IntsAre vs ns) (hl : ns.length ≤ sizeLine) :
    ∃ H : Hp, Only H ∧ SqL K H a (ns.map V.int) ∧ HOk P w H s.heap ∧ ∀ b u, H b = some u → b = a ∧ K.lookup a = none := by
  have rv := vals_ints hi
  cases hk : K.lookup a with
  | some o =>
    cases ha.symm.trans (KX a o hk)
    exact ⟨fun _ => none, fun _ => .inl rfl, .inr ⟨_, vs.toArray, _, hk, rfl, rfl, rfl, by rw [List.size_toArray, hi.length]; exact hl, by simpa using rv⟩, (fun _ _ z => by cases z), fun _ _ z => by cases z⟩
  | none =>
    have one : ∀ {b : Addr} {u : HO}, (if b = a then some (HO.frz { cls := .type "list", data := .seq vs.toArray } (.lst (ns.map V.int))) else none) = some u → b = a ∧ u = .frz { cls := .type "list", data := .seq vs.toArray } (.lst (ns.map V.int)) := fun {b u} z => by
      by_cases hb : b = a
      · rw [if_pos hb] at z; exact ⟨hb, (Option.some.inj z).symm⟩
      · rw [if_neg hb] at z; cases z
    refine ⟨fun b => if b = a then some (.frz { cls := .type "list", data := .seq vs.toArray } (.lst (ns.map V.int))) else none, fun b => ?_, .inl (.inr ⟨_, if_pos rfl⟩), fun b u z => ?_, fun b u z => ⟨(one z).1, rfl⟩⟩
    · exact (Classical.em (b = a)).elim (fun hb => .inr ⟨_, _, if_pos hb⟩) fun hb => .inl (if_neg hb)
    · obtain ⟨rfl, rfl⟩ := one z
      exact ⟨ha, (by rw [List.length_map]; exact hl), vs, _, rv, ha⟩
/-- the tables come in beside the script -/
def withT (cs : List (Addr × Addr)) (H : Hp) : Hp := fun b => if b ∈ cs.map (·.2) then some (.tbl #[]) else H b
theorem withT_in {cs : List (Addr × Addr)} {H : Hp} {p : Addr × Addr} (h : p ∈ cs) : withT cs H p.2 = some (.tbl #[]) := if_pos (List.mem_map.mpr ⟨p, h, rfl⟩)
theorem withT_out {cs : List (Addr × Addr)} {H : Hp} {b : Addr} (h : b ∉ cs.map (·.2)) : withT cs H b = H b := if_neg h
theorem law_g {P : Program} {w : World} {K : Fg} {mg mb : Str → Option Value} {k : Nat} {fa a : Addr} {cs : List (Addr × Addr)} {fd : FuncData} {x : Str} {sp : Sp} {s : Shared} {vs : List Value} {ns : List Int}
    (KX : K.In s.heap) (hns : s.heap.Ns mainGlobals mg) (hb : s.heap.Ns builtinsNs mb) (hbb : ∀ x : Str, x ≠ "__name__" → mb x = bootBuiltins x) (hlim : s.heap.NoLimit) (hg : s.gens = #[])
    (hT : ∀ p ∈ cs, s.heap.get? p.2 = some (PySem.W.tabObj #[])) (nT : ∀ p ∈ cs, K.lookup p.2 = none) (hC : ∀ p ∈ cs, PySem.W.codeHdIn K p.1 p.2 = true)
    (hm : ∃ (bm : Addr) (ob : Obj), mg "__builtins__" = some (.ref bm) ∧ bm ≠ builtinsNs ∧ s.heap.get? bm = some ob ∧ ob.cls = .type "module" ∧ ob.dict = some builtinsNs ∧ ob.data = .plain)
    (ha : s.heap.get? a = some { cls := .type "list", data := .seq vs.toArray }) (hi : IntsAre vs ns) (hl : ns.length ≤ sizeLine) (hr : Room k callerA)
    (F : ∀ base : Heap, K.In base → base.Ns mainGlobals mg → (∀ p ∈ cs, LamX.TabB base mg p.1 p.2) → FnG P w K mg base k fa fd [x] sp) (hbind : ∀ (s : Shared) (u : Value), BindsTo s fd ⟨[u], []⟩ [(x, u)])
    (hsp : ∀ H : Hp, (∀ p ∈ cs, H p.2 = some (.tbl #[]) ∧ p.2 ≠ a) → SqL K H a (ns.map V.int) → sp [.ref a] H (fun v _ => v = .bl true) fun _ _ _ => False) :
    codeAny (model P w) callerA (.call (.ref fa) ⟨[.ref a], []⟩) (fun r s' => r = .ok (.ret (.bool true)) ∧ OldK s.heap s'.heap ∧ s'.os = s.os ∧ AllBare s'.gens) s := by
  obtain ⟨H0, hO, hS0, hok0, hA0⟩ := told (P := P) (w := w) KX ha hi hl
  have isT : ∀ b, b ∈ cs.map (·.2) → s.heap.get? b = some (PySem.W.tabObj #[]) ∧ K.lookup b = none := fun b z => by
    obtain ⟨p, hp, rfl⟩ := List.mem_map.mp z
    exact ⟨hT p hp, nT p hp⟩
  have aT : a ∉ cs.map (·.2) := fun z => by
    have q := (isT a z).1
    rw [ha] at q
    exact absurd (congrArg Obj.data (Option.some.inj q)) (by intro z'; cases z')
  -- the tracked part
  have tr : ∀ {b : Addr} {u : HO}, withT cs H0 b = some u → (b ∈ cs.map (·.2) ∧ u = .tbl #[]) ∨ (b = a ∧ K.lookup a = none ∧ H0 b = some u) := fun {b u} z => by
    by_cases hb : b ∈ cs.map (·.2)
    · rw [show withT cs H0 b = some (.tbl #[]) from if_pos hb] at z
      exact .inl ⟨hb, (Option.some.inj z).symm⟩
    · rw [withT_out hb] at z
      obtain ⟨rfl, h2⟩ := hA0 b u z
      exact .inr ⟨rfl, h2, z⟩
  have free : ∀ {b : Addr}, b ∉ cs.map (·.2) → (b = a → False) ∨ K.lookup b ≠ none → withT cs H0 b = none := fun {b} nb z => by
    cases q : withT cs H0 b with
    | none => rfl
    | some u =>
      rcases tr q with ⟨q1, -⟩ | ⟨rfl, q2, -⟩
      · exact absurd q1 nb
      · exact z.elim (fun z => (z rfl).elim) fun z => absurd q2 z
  have nd : ∀ {b : Addr} {o : Obj}, s.heap.get? b = some o → (∀ us n, o.data ≠ .seq us n) → o.data ≠ .fields #[] → withT cs H0 b = none := fun {b o} e h1 h2 => by
    refine free (fun z => ?_) (.inl fun z => ?_)
    · rw [(isT b z).1] at e
      exact h2 (by rw [← Option.some.inj e])
    · rw [z, ha] at e
      exact h1 _ _ (by rw [← Option.some.inj e])
  have hid : ∀ {b : Addr} {m : Str → Option Value}, s.heap.Ns b m → (hidT s.heap (withT cs H0)).Ns b m := fun {b m} ⟨o, es, ep, e, d, r⟩ => by
    refine ⟨o, es, ep, hidT_get e (nd e (fun _ _ z => ?_) fun z => ?_), d, r⟩ <;> (rw [d] at z; cases z)
  have hK : K.In (hidT s.heap (withT cs H0)) := fun b o e => hidT_get (KX b o e) (free (fun z => by rw [(isT b z).2] at e; cases e) (.inr (by rw [e]; simp)))
  have hok : HOk P w (withT cs H0) s.heap := fun b u z => by
    rcases tr z with ⟨q1, rfl⟩ | ⟨rfl, q2, q3⟩
    · exact (isT b q1).1
    · obtain z2 | ⟨ob, xs, z2⟩ := hO b
      · rw [z2] at q3; cases q3
      · rw [q3] at z2; cases z2
        exact hok0 b _ q3
  have hS : SqL K (withT cs H0) a (ns.map V.int) := by
    rcases hS0 with (z | ⟨o, z⟩) | z
    · exact .inl (.inl (by rw [withT_out aT]; exact z))
    · exact .inl (.inr ⟨o, by rw [withT_out aT]; exact z⟩)
    · exact .inr z
  have TB : ∀ p ∈ cs, LamX.TabB (hidT s.heap (withT cs H0)) mg p.1 p.2 := fun p hp => by
    refine ⟨PySem.W.codeHd_of_K hK (hC p hp), ?_, fun z => ?_⟩
    · obtain ⟨bm, ob, b1, b2, b3, b4, b5, b6⟩ := hm
      refine ⟨bm, ob, b1, b2, fun q => ?_, fun q => ?_, hidT_get b3 (nd b3 (fun _ _ z => ?_) fun z => ?_), b4, b5, b6⟩
      · obtain ⟨o, es, ep, e, d, -⟩ := hns
        rw [q, e] at b3; cases b3; rw [d] at b6; cases b6
      · rw [q, hT p hp] at b3; cases b3; cases b6
      · rw [b6] at z; cases z
      · rw [b6] at z; cases z
    · obtain ⟨o, es, ep, e, d, -⟩ := hns
      rw [z, hT p hp] at e; cases e; cases d
  obtain ⟨mc, l1, l2⟩ := hlim
  have e0 : Env0 P w K mg (hidT s.heap (withT cs H0)) callerA [] s (withT cs H0) :=
    ⟨rfl, ⟨hK, hid hns, ⟨mb, hid hb, hbb⟩, ⟨mc, hid l1, l2⟩⟩, fun _ _ e => of_hidT e, Nat.le_of_eq (hidT_size _ _), trivial, (fun b hb => (List.not_mem_nil (a := b) hb).elim), hok, .of_eq hg⟩
  refine codeAny_mono ((F _ hK (hid hns) TB).run callerA [] s (withT cs H0) ⟨[.ref a], []⟩ [.ref a] [.ref a] _ _ hr rfl e0 (hbind s (.ref a)) (.cons rfl .nil) (hsp _ (fun p hp => ⟨withT_in hp, fun z => aT (z ▸ List.mem_map.mpr ⟨p, hp, rfl⟩)⟩) hS)) fun r s' h => ?_
  match r, h with
  | .error e, h => obtain ⟨_, _, _, _, _, _, _, _, _, _, _, _, z⟩ := h; exact z.elim
  | .ok .next, h => exact h.elim
  | .ok .brk, h => exact h.elim
  | .ok .cont, h => exact h.elim
  | .ok (.ret u), h =>
    obtain ⟨v, H', os, bare, un, hok', r', q⟩ := h; cases (show v = .bl true from q)
    cases (show u = Value.bool true from r')
    have key : ∀ b o, b ∉ cs.map (·.2) → s.heap.get? b = some o → s'.heap.get? b = some o := fun b o nb e => by
      obtain z | ⟨ob, xs, z⟩ := hO b
      · exact un.keep b o e (by rw [withT_out nb]; exact z) (List.not_mem_nil) (by simp)
      · obtain ⟨e1, -⟩ := hok0 b _ z
        obtain ⟨e2, -⟩ := hok' b _ (un.frzs b ob _ (by rw [withT_out nb]; exact z))
        rw [← Option.some.inj (e.symm.trans e1)] at e2
        exact e2
    have grown : ∀ p ∈ cs, ∃ more : Array Value, s'.heap.get? p.2 = some { cls := .none, data := .fields more } := fun p hp => by
      obtain ⟨more, z⟩ := un.tbls p.2 #[] (withT_in hp)
      exact ⟨_, hok' p.2 _ z⟩
    refine ⟨rfl, ⟨fun b o e => ?_, fun b o e => ?_⟩, os, bare⟩ <;> by_cases hb : b ∈ cs.map (·.2)
    · obtain ⟨p, hp, rfl⟩ := List.mem_map.mp hb
      obtain ⟨more, hm⟩ := grown p hp
      rw [hT p hp] at e
      cases e
      exact .inr (.inl ⟨((PySem.W.codeHd_of_K KX (hC p hp)).tab (hT p hp)).isCodeTable, rfl, #[], more, rfl, by rw [Array.empty_append]; exact hm⟩)
    · exact .inl (key b o hb e)
    · obtain ⟨p, hp, rfl⟩ := List.mem_map.mp hb
      obtain ⟨more, hm⟩ := grown p hp
      exact ⟨_, hm⟩
    · exact ⟨o, key b o hb e⟩
/-- what a law's def means for data: its script, then True -/
abbrev spLaw (P : List Int → Prop) : Spc := fun h ds Ψ _ => h = none ∧ ∃ ns, ds = [.scr ns] ∧ P ns ∧ Ψ (.bl true) none
theorem walk_g {l : PySem.W.OpenLaw} {n k : Nat} {q : Program} {loose : List Str} {XP : (Str → Option Value) → Heap → Prop} {YP : World → Heap → Prop} {d : DefRec} {K : Params → Fg} {x : Str} {cs : List (Addr × Addr)} {t : List (Addr × Str)}
    (hn : l.most = some n) (hn2 : n ≤ sizeLine) (hdf : d.params.defaults = []) (hY : ∀ (w : World) (h : Heap), YP w h → (K w.params).In h ∧ ∀ p ∈ cs, h.get? p.2 = some (PySem.W.tabObj #[])) (hr : Room k callerA)
    (nT : ∀ w : World, ∀ p ∈ cs, (K w.params).lookup p.2 = none) (hC : ∀ w : World, ∀ p ∈ cs, PySem.W.codeHdIn (K w.params) p.1 p.2 = true) (ht : ∀ p ∈ t, ∃ c, (c, p.1) ∈ cs)
    (F : ∀ (w : World) (mg : Str → Option Value) (fa : Addr) (h : Heap), (K w.params).In h → h.Ns mainGlobals mg → mg d.name = some (.ref fa) → ∃ fd : FuncData,
      (∀ (s : Shared) (u : Value), BindsTo s fd ⟨[u], []⟩ [(x, u)]) ∧
        ∀ base : Heap, (K w.params).In base → base.Ns mainGlobals mg → (∀ p ∈ cs, LamX.TabB base mg p.1 p.2) → FnG l.prog w (K w.params) mg base k fa fd [x] (lSp (K w.params) t 1 (spLaw fun ns => ns.length ≤ n))) :
    PySem.W.WalkO q loose XP YP l.row.toRowW d [] fun g us => PySem.call g us := by
  refine Att.attach_call hn hdf fun w s₀ s mg mb fa o pm cd doc a vs ns G Y ho hd hcd hmg hobj hints hlen hg => ?_
  obtain ⟨Y1, Y2⟩ := hY w _ Y
  obtain ⟨fd, hb, hF⟩ := F w mg fa _ Y1 G.T.g hmg
  refine law_g Y1 G.T.g G.T.b G.T.builtins G.T.nolimit hg Y2 (nT w) (hC w) G.T.bmain hobj hints (Nat.le_trans hlen hn2) hr hF hb fun H hH hS => ?_
  -- all but the tables never changes
  have hP : ∀ p ∈ t, ∃ q ∈ cs, q.2 = p.1 := fun p hp => by obtain ⟨c, hc⟩ := ht p hp; exact ⟨_, hc, rfl⟩
  let S : Hp := fun b => if b ∈ cs.map (·.2) then none else H b
  have sS : Same S H := fun b u z => by
    by_cases hb : b ∈ cs.map (·.2)
    · rw [show S b = none from if_pos hb] at z; cases z
    · rw [show S b = H b from if_neg hb] at z; exact z
  have aS : S a = H a := if_neg fun z => by obtain ⟨p, hp, e⟩ := List.mem_map.mp z; exact (hH p hp).2 e
  have hS' : SqL (K w.params) S a (ns.map V.int) := by
    rcases hS with (z | ⟨o, z⟩) | z
    · exact .inl (.inl (aS.trans z))
    · exact .inl (.inr ⟨o, aS.trans z⟩)
    · exact .inr z
  have tb : TbOk (tb0 t) S (fun _ => none) H := by
    refine ⟨fun p hp => ?_, fun p hp => ?_, fun _ _ => rfl, (fun _ _ z => nomatch z), fun _ _ z => nomatch z⟩
    · obtain ⟨q, hq, e⟩ := hP p hp
      exact .nil (by rw [← e]; exact (hH q hq).1)
    · obtain ⟨q, hq, e⟩ := hP p hp
      exact if_pos (List.mem_map.mpr ⟨q, hq, e⟩)
  refine ⟨S, fun _ => none, none, [.scr ns], fun d _ => d = .bl true, fun _ _ _ => False, rfl, er_args (.cons (.scr hS') .nil) sS tb (fun _ _ z => nomatch z), ⟨rfl, ns, rfl, hlen, rfl⟩, fun d v o' S' H' q _ _ iv _ => ?_, fun _ _ _ _ _ _ _ z => z.elim⟩
  subst q; cases iv; rfl
end DL
set_option Elab.async false
set_option autoImplicit false
set_option linter.all false
set_option maxRecDepth 100000
set_option maxHeartbeats 3900000
namespace DL
open L2 PyProof.Rows PySem PySem.Spec
variable {τ : Tb}
/-! ### the rules, each with what it means for data -/
abbrev PEd (X : Cx) (τ : Tb) (W : WX) (e : Expr) (w : WE) : Prop := PE X e (lE X.K τ W w)
abbrev PTd (X : Cx) (τ : Tb) (W : WX) (e : Expr) (w : WT) : Prop := PT X e (lT X.K τ W w)
abbrev PAd (X : Cx) (τ : Tb) (W : WX) (es : List Expr) (w : WL) : Prop := PA X es (lL X.K τ W w)
abbrev PSd (X : Cx) (τ : Tb) (W : WX) (s : Stmt) (w : WS) : Prop := PS X s (lS X.K τ W w)
abbrev PSsd (X : Cx) (τ : Tb) (W : WX) (s : List Stmt) (w : WS) : Prop := PSs X s (lS X.K τ W w)
abbrev PId (X : Cx) (τ : Tb) (W : WX) (tg e : Expr) (w : WL) : Prop := PI X tg e (lI X.K τ W w)
abbrev PGd (X : Cx) (τ : Tb) (e : Expr) (g : WG) : Prop := PG X e (lG X.K τ g)
abbrev PEO (X : Cx) (τ : Tb) (W : WX) (e : Expr) (w : WEO) : Prop := PE X e (lEO X.K τ W w)
section
variable {X : Cx} {W : WX} {k : Nat} {x : Str} {a b c d e : Expr} {es rest : List Expr} {p pos pos' cpos apos tpos : Pos} {wa wb wc wk wv : WE} {wt wu : WT} {wl : WL} {w u : WS} {j j' : Nat} {wo : WEO}
theorem e_var {i : Nat} (hN : X.N[i]? = some x := by rfl) (hv : Vis X.env.scope x := by first | exact .inl rfl | exact .inr (.inl rfl) | exact .inr (.inr rfl)) (hd : (x == ("__debug__" : Str)) = false := by decide) (hc : (x == ("__classdict__" : Str)) = false := by decide) :
    PEd X τ W (.Name x pos) (wVar i) := PE.imp (pe_var hN hv hd hc) l_var
theorem e_int {i : Int} : PEd X τ W (.Constant (.int i) j pos) (wC (.int i)) := PE.imp pe_int (l_c fun _ => .int i)
theorem e_str {s : Str} : PEd X τ W (.Constant (.str s) j pos) (wC (.str s)) := PE.imp pe_str (l_c fun _ => .str s)
theorem e_bl {b : Bool} : PEd X τ W (.Constant (.bool b) j pos) (wC (.bl b)) := PE.imp pe_bl (l_c fun _ => .bl b)
theorem e_non : PEd X τ W (.Constant .none j pos) (wC .non) := PE.imp pe_non (l_c fun _ => .non)
theorem e_globI {i : Int} {t : Tok} (hm : X.mg x = some (.int i t)) (hg : Gl X x := by rfl) (hd : (x == ("__debug__" : Str)) = false := by decide) : PEd X τ W (.Name x pos) (wC (.int i)) := PE.imp (pe_glob (v := .int i) hg hm ⟨t, rfl⟩ hd) (l_c fun _ => .int i)
theorem e_cls {C : Addr} (hm : X.mg x = some (.ref C)) (hg : Gl X x := by rfl) (hd : (x == ("__debug__" : Str)) = false := by decide) : PEd X τ W (.Name x pos) (wC (.raw (.ref C))) := PE.imp (pe_glob (v := .ref C) hg hm rfl hd) (l_c fun _ => .raw _)
theorem e_ty {n : String} (hm : X.mg x = none) (hv : bootBuiltins x = some (.type n)) (hg : Gl X x := by rfl) (hn : x ≠ "__name__" := by decide) (hd : (x == ("__debug__" : Str)) = false := by decide) : PEd X τ W (.Name x pos) (wC (.raw (.ty n))) :=
  PE.imp (t := tC (.ty n)) ⟨fun pins s σ H Q I h => ld_blt I hg hm hv ⟨.ty n, H, I, rfl, h⟩ hn hd⟩ (l_c fun _ => .raw _)
theorem a_nil : PAd X τ W [] wNil := PA.imp pa_nil l_nil
theorem a_cons (h : PEd X τ W e wa) (r : PAd X τ W es wl) (hs : starEach (e :: es) X.env = (false, eval e X.env) :: starEach es X.env := by rfl) : PAd X τ W (e :: es) (wCons wa wl) := PA.imp (pa_cons h r hs) l_cons
theorem e_tup {kk : Nat} (h : PAd X τ W es wl) : PEd X τ W (.Tuple es kk pos) (wTup wl) := PE.imp (pe_tup h) l_tup
theorem e_lst (h : PAd X τ W es wl) : PEd X τ W (.List es pos) (wLst wl) := PE.imp (pe_lst h) l_lst
/-! operators -/
theorem e_add (ha : PEd X τ W a wa) (hb : PEd X τ W b wb) : PEd X τ W (.BinOp a .Add b pos) (wOp wAdd wa wb) := PE.imp (pe_op or_add ha hb) (l_op ok_add)
theorem e_sub (ha : PEd X τ W a wa) (hb : PEd X τ W b wb) : PEd X τ W (.BinOp a .Sub b pos) (wOp wSub wa wb) := PE.imp (pe_op op_sub ha hb) (l_op ok_sub)
theorem e_mul (ha : PEd X τ W a wa) (hb : PEd X τ W b wb) : PEd X τ W (.BinOp a .Mult b pos) (wOp wMul wa wb) := PE.imp (pe_op or_mul ha hb) (l_op ok_mul)
theorem e_mod (ha : PEd X τ W a wa) (hb : PEd X τ W b wb) : PEd X τ W (.BinOp a .Mod b pos) (wOp wMod wa wb) := PE.imp (pe_op op_mod ha hb) (l_op ok_mod)
theorem e_div (ha : PEd X τ W a wa) (hb : PEd X τ W b wb) : PEd X τ W (.BinOp a .FloorDiv b pos) (wOp wDiv wa wb) := PE.imp (pe_op op_fdiv ha hb) (l_op ok_div)
theorem e_pow (ha : PEd X τ W a wa) (hb : PEd X τ W b wb) : PEd X τ W (.BinOp a .Pow b pos) (wOp wPow wa wb) := PE.imp (pe_op op_pow ha hb) (l_op ok_pow)
theorem e_ix (ha : PEd X τ W a wa) (hb : PEd X τ W b wb) (hs : PlainIx b := by intro _ _; rfl) : PEd X τ W (.Subscript a b pos) (wOp wIx wa wb) := PE.imp (pe_ix ix_seq ha hb hs) (l_op ok_ix)
abbrev wLt := wCmp fun i j => decide (i < j)
abbrev wLe := wCmp fun i j => decide (i ≤ j)
abbrev wGt := wCmp fun i j => decide (j < i)
abbrev wGe := wCmp fun i j => decide (j ≤ i)
theorem e_lt (ha : PEd X τ W a wa) (hb : PEd X τ W b wb) : PEd X τ W (.Compare a [.Lt] [b] pos) (wOp wLt wa wb) := PE.imp (pe_cmpR op_lt ha hb (nomark _)) (l_op ok_B0)
theorem e_le (ha : PEd X τ W a wa) (hb : PEd X τ W b wb) : PEd X τ W (.Compare a [.LtE] [b] pos) (wOp wLe wa wb) := PE.imp (pe_cmpR op_le ha hb (nomark _)) (l_op ok_B0)
theorem e_gt (ha : PEd X τ W a wa) (hb : PEd X τ W b wb) : PEd X τ W (.Compare a [.Gt] [b] pos) (wOp wGt wa wb) := PE.imp (pe_cmpR op_gt ha hb (nomark _)) (l_op ok_B0)
theorem e_ge (ha : PEd X τ W a wa) (hb : PEd X τ W b wb) : PEd X τ W (.Compare a [.GtE] [b] pos) (wOp wGe wa wb) := PE.imp (pe_cmpR op_ge ha hb (nomark _)) (l_op ok_B0)
theorem Cok.u64 (o : Cok X W (k + 1)) : X.A.units + 64 < cLine := by have := o.rm.un; omega
theorem Cok.u1 (o : Cok X W k) : X.A.units + 1 < cLine := o.hu
theorem Cok.u64' (o : Cok X W k) : X.A.units + 64 < cLine := by have := o.rm.un; omega
theorem e_eq (o : Cok X W k) (ha : PEd X τ W a wa) (hb : PEd X τ W b wb) : PEd X τ W (.Compare a [.Eq] [b] pos) (wOp (wEq false) wa wb) := PE.imp (pe_cmpR (op_eqD o.u64') ha hb (nomark _)) (l_op ok_eq)
theorem e_ne (o : Cok X W k) (ha : PEd X τ W a wa) (hb : PEd X τ W b wb) : PEd X τ W (.Compare a [.NotEq] [b] pos) (wOp (wEq true) wa wb) := PE.imp (pe_cmpR (op_neD o.u64') ha hb (nomark _)) (l_op ok_ne)
theorem e_isN (ha : PEd X τ W a wa) (hb : PEd X τ W b wb) : PEd X τ W (.Compare a [.Is] [b] pos) (wOp (wIsN false) wa wb) := PE.imp (pe_cmpR op_isN ha hb (nomark _)) (l_op ok_isN)
theorem e_notN (ha : PEd X τ W a wa) (hb : PEd X τ W b wb) : PEd X τ W (.Compare a [.IsNot] [b] pos) (wOp (wIsN true) wa wb) := PE.imp (pe_cmpR op_notN ha hb (nomark _)) (l_op ok_notN)
theorem e_leLt (ha : PEd X τ W a wa) (hb : PEd X τ W b wb) (hc : PEd X τ W c wc) (hm : lastMarks [.LtE, .Lt] [b, c] = false := by with_unfolding_all rfl) : PEd X τ W (.Compare a [.LtE, .Lt] [b, c] pos) (wChain wLe wLt wa wb wc) := PE.imp (pe_chain op_le op_lt ha hb hc hm) (l_chain ok_B0 ok_B0)
theorem e_leLe (ha : PEd X τ W a wa) (hb : PEd X τ W b wb) (hc : PEd X τ W c wc) (hm : lastMarks [.LtE, .LtE] [b, c] = false := by with_unfolding_all rfl) : PEd X τ W (.Compare a [.LtE, .LtE] [b, c] pos) (wChain wLe wLe wa wb wc) := PE.imp (pe_chain op_le op_le ha hb hc hm) (l_chain ok_B0 ok_B0)
theorem e_and1 (h : PEd X τ W a wa) : PEd X τ W (.BoolOp .And [a] pos) wa := pe_one h
theorem e_or1 (h : PEd X τ W a wa) : PEd X τ W (.BoolOp .Or [a] pos) wa := pe_one h
theorem e_and (ha : PEd X τ W a wa) (hb : PEd X τ W (.BoolOp .And (b :: rest) pos) wb) : PEd X τ W (.BoolOp .And (a :: b :: rest) pos) (wAndV wa wb) := PE.imp (pe_and ha hb) l_andV
theorem e_or (ha : PEd X τ W a wa) (hb : PEd X τ W (.BoolOp .Or (b :: rest) pos) wb) : PEd X τ W (.BoolOp .Or (a :: b :: rest) pos) (wOrV wa wb) := PE.imp (pe_or ha hb) l_orV
theorem e_not (ha : PEd X τ W a wa) : PEd X τ W (.UnaryOp .Not a pos) (wNotV wa) := PE.imp (pe_not ha) l_notV
theorem e_if (ht : PTd X τ W c wt) (ha : PEd X τ W a wa) (hb : PEd X τ W b wb) : PEd X τ W (.IfExp c a b pos) (wIf wt wa wb) := PE.imp (pe_ifExp ht ha hb) l_if
/-! tests -/
theorem t_of {t : TE} (h : PT X e (tTest t)) (m : ∀ σ H Q, lE X.K τ W wa σ H Q → t σ H Q) : PTd X τ W e (wB wa) := PT.imp h fun σ H Q z => m σ H _ (l_test σ H Q z)
theorem t_val (h : PEd X τ W e wa) (he : ∀ whole, isTrue e X.env whole = (do let v ← whole; standAt e.pos; holding [v] (truthy v)) := by intro _; rfl) : PTd X τ W e (wB wa) := PT.imp (pt_val h he) l_B
theorem t_lt (ha : PEd X τ W a wa) (hb : PEd X τ W b wb) : PTd X τ W (.Compare a [.Lt] [b] pos) (wB (wOp wLt wa wb)) := t_of (pt_cmpR op_lt ha hb (nomark _)) (l_op ok_B0)
theorem t_le (ha : PEd X τ W a wa) (hb : PEd X τ W b wb) : PTd X τ W (.Compare a [.LtE] [b] pos) (wB (wOp wLe wa wb)) := t_of (pt_cmpR op_le ha hb (nomark _)) (l_op ok_B0)
theorem t_gt (ha : PEd X τ W a wa) (hb : PEd X τ W b wb) : PTd X τ W (.Compare a [.Gt] [b] pos) (wB (wOp wGt wa wb)) := t_of (pt_cmpR op_gt ha hb (nomark _)) (l_op ok_B0)
theorem t_ge (ha : PEd X τ W a wa) (hb : PEd X τ W b wb) : PTd X τ W (.Compare a [.GtE] [b] pos) (wB (wOp wGe wa wb)) := t_of (pt_cmpR op_ge ha hb (nomark _)) (l_op ok_B0)
theorem t_eq (o : Cok X W k) (ha : PEd X τ W a wa) (hb : PEd X τ W b wb) : PTd X τ W (.Compare a [.Eq] [b] pos) (wB (wOp (wEq false) wa wb)) := t_of (pt_cmpR (op_eqD o.u64') ha hb (nomark _)) (l_op ok_eq)
theorem t_ne (o : Cok X W k) (ha : PEd X τ W a wa) (hb : PEd X τ W b wb) : PTd X τ W (.Compare a [.NotEq] [b] pos) (wB (wOp (wEq true) wa wb)) := t_of (pt_cmpR (op_neD o.u64') ha hb (nomark _)) (l_op ok_ne)
theorem t_isN (ha : PEd X τ W a wa) (hb : PEd X τ W b wb) : PTd X τ W (.Compare a [.Is] [b] pos) (wB (wOp (wIsN false) wa wb)) := t_of (pt_cmpR op_isN ha hb (nomark _)) (l_op ok_isN)
theorem t_notN (ha : PEd X τ W a wa) (hb : PEd X τ W b wb) : PTd X τ W (.Compare a [.IsNot] [b] pos) (wB (wOp (wIsN true) wa wb)) := t_of (pt_cmpR op_notN ha hb (nomark _)) (l_op ok_notN)
theorem t_leLe (ha : PEd X τ W a wa) (hb : PEd X τ W b wb) (hc : PEd X τ W c wc) (hm : lastMarks [.LtE, .LtE] [b, c] = false := by with_unfolding_all rfl) : PTd X τ W (.Compare a [.LtE, .LtE] [b, c] pos) (wB (wChain wLe wLe wa wb wc)) := t_of (pt_chain op_le op_le ha hb hc hm) (l_chain ok_B0 ok_B0)
theorem t_not (h : PTd X τ W a wt) : PTd X τ W (.UnaryOp .Not a pos) (wNot wt) := PT.imp (pt_not h) l_not
abbrev PWd (X : Cx) (τ : Tb) (W : WX) (e : Expr) (w : WT) : Prop := PW X e (lT X.K τ W w)
theorem q_and1 (h : PTd X τ W a wt) : PWd X τ W (.BoolOp .And [a] pos) wt := pw_and1 h
theorem q_or1 (h : PTd X τ W a wt) : PWd X τ W (.BoolOp .Or [a] pos) wt := pw_or1 h
theorem q_and (h : PTd X τ W a wt) (r : PWd X τ W (.BoolOp .And (b :: rest) pos) wu) : PWd X τ W (.BoolOp .And (a :: b :: rest) pos) (wAnd wt wu) := PW.imp (pw_and h r) l_and
theorem q_or (h : PTd X τ W a wt) (r : PWd X τ W (.BoolOp .Or (b :: rest) pos) wu) : PWd X τ W (.BoolOp .Or (a :: b :: rest) pos) (wOr wt wu) := PW.imp (pw_or h r) l_or
theorem t_pw (h : PWd X τ W a wt) : PTd X τ W a wt := PW.pt h
theorem t_din (o : Cok X W k) (ha : PEd X τ W a wa) (hb : PEd X τ W b wb) (h1 : behindInMarks .In b = false := by first | exact nobehind _ (by decide) (by decide) | rfl) : PTd X τ W (.Compare a [.In] [b] pos) (wB (wDIn false wa wb)) := PT.imp (pt_cmp (pc_din o.u1 (PE.imp ha fun _ _ _ z => z) hb) h1) fun σ H Q z => l_din σ H _ (l_B σ H Q z)
theorem t_dnin (o : Cok X W k) (ha : PEd X τ W a wa) (hb : PEd X τ W b wb) (h1 : behindInMarks .NotIn b = false := by first | exact nobehind _ (by decide) (by decide) | rfl) : PTd X τ W (.Compare a [.NotIn] [b] pos) (wB (wDIn true wa wb)) := PT.imp (pt_cmp (pc_dnotin o.u1 ha hb) h1) fun σ H Q z => l_dnin σ H _ (l_B σ H Q z)
/-! built-ins -/
theorem e_len (hm : X.mg "len" = none) (ha : PAd X τ W (e :: es) wl) (hg : Gl X "len" := by rfl) (he : starEach (e :: es) X.env = (false, eval e X.env) :: starEach es X.env := by rfl) (hpl : (backTo pos (starEach es X.env)).any (·.1) = false := by rfl) : PEd X τ W (.Call (.Name "len" p) (e :: es) [] pos) (wCB wLen wl) := PE.imp (pe_callB cr_lenD hg hm PySem.boot_len ha (by decide) (by decide) he hpl) (l_cb ok_len)
theorem e_lenO {i : Nat} (hm : X.mg "len" = none) (hN : X.N[i]? = some x := by rfl) (hv : Vis X.env.scope x := by first | exact .inl rfl | exact .inr (.inl rfl) | exact .inr (.inr rfl)) (hg : Gl X "len" := by rfl) (hd : (x == ("__debug__" : Str)) = false := by decide) (hc : (x == ("__classdict__" : Str)) = false := by decide)
    (he : starEach [.Name x pos'] X.env = [(false, eval (.Name x pos') X.env)] := by rfl) : PEd X τ W (.Call (.Name "len" p) [.Name x pos'] [] pos) (wLenO i) := PE.imp (pe_callB cr_lenD hg hm PySem.boot_len (pa_cons (pe_var hN hv hd hc) pa_nil he) (by decide) (by decide) he rfl) l_lenO
theorem e_abs (hm : X.mg "abs" = none) (ha : PAd X τ W (e :: es) wl) (hg : Gl X "abs" := by rfl) (he : starEach (e :: es) X.env = (false, eval e X.env) :: starEach es X.env := by rfl) (hpl : (backTo pos (starEach es X.env)).any (·.1) = false := by rfl) : PEd X τ W (.Call (.Name "abs" p) (e :: es) [] pos) (wCB wAbs wl) := PE.imp (pe_callB call_abs hg hm PyProof.Rows.Boot.abs ha (by decide) (by decide) he hpl) (l_cb ok_abs)
end
end DL
set_option Elab.async false
set_option autoImplicit false
set_option linter.all false
set_option maxRecDepth 100000
set_option maxHeartbeats 3900000
namespace DL
open L2 PyProof.Rows PySem PySem.Spec
variable {τ : Tb}
section
variable {X : Cx} {W : WX} {k : Nat} {x y : Str} {a b c d e f o : Expr} {es rest : List Expr} {p pos pos' cpos apos tpos px py pt pt2 : Pos} {wa wb wc wk wv : WE} {wt wu : WT} {wl wi : WL} {w u : WS} {j j' kt k2 : Nat} {wo : WEO} {wr : WCl} {r : List V → Hp → VK → Prop} {id T : String}
/-! built-ins by name: functions, types -/
theorem e_blt (cr : CallR X (.builtin id) r) (ok : CallOk X.K τ r wr) (hm : X.mg x = none) (hv : bootBuiltins x = some (.builtin id)) (ha : PAd X τ W (e :: es) wl) (hg : Gl X x := by rfl) (hn : x ≠ "__name__" := by decide) (hd : (x == ("__debug__" : Str)) = false := by decide)
    (he : starEach (e :: es) X.env = (false, eval e X.env) :: starEach es X.env := by rfl) (hpl : (backTo pos (starEach es X.env)).any (·.1) = false := by rfl) : PEd X τ W (.Call (.Name x p) (e :: es) [] pos) (wCB wr wl) := PE.imp (pe_callB cr hg hm hv ha hn hd he hpl) (l_cb ok)
theorem e_bty (cr : CallR X (.type T) r) (ok : CallOk X.K τ r wr) (hm : X.mg x = none) (hv : bootBuiltins x = some (.type T)) (ha : PAd X τ W (e :: es) wl) (hg : Gl X x := by rfl) (hn : x ≠ "__name__" := by decide) (hd : (x == ("__debug__" : Str)) = false := by decide)
    (he : starEach (e :: es) X.env = (false, eval e X.env) :: starEach es X.env := by rfl) (hpl : (backTo pos (starEach es X.env)).any (·.1) = false := by rfl) : PEd X τ W (.Call (.Name x p) (e :: es) [] pos) (wCB wr wl) := PE.imp (pe_callTy cr hg hm hv ha hn hd he hpl) (l_cb ok)
theorem e_tupRg (hc : X.calm = true) (hm : X.mg "tuple" = none) (hm2 : X.mg "range" = none) (ha : PEd X τ W a wa) (hg : Gl X "tuple" := by rfl) (hg2 : Gl X "range" := by rfl) (na : starEach [a] X.env = (false, eval a X.env) :: starEach [] X.env := by rfl)
    (nb : starEach [.Call (.Name "range" p) [a] [] pos'] X.env = (false, eval (.Call (.Name "range" p) [a] [] pos') X.env) :: starEach [] X.env := by rfl) : PEd X τ W (.Call (.Name "tuple" px) [.Call (.Name "range" p) [a] [] pos'] [] pos) (wRgT (wCons wa wNil)) :=
  PE.imp (pe_tupRg hc hg hm (prg_1 hg2 hm2 ha na) nb) l_rgT
/-! methods of texts, lists -/
theorem e_join (ha : PEd X τ W o wa) (hb : PEd X τ W e wb) (hs : starEach [e] X.env = [(false, eval e X.env)] := by rfl) (hbase : attributeBase o "join" X.env (eval o X.env) = eval o X.env := by rfl) (hline : (apos.endLine == pos.line) = true := by rfl) :
    PEd X τ W (.Call (.Attribute o "join" apos) [e] [] pos) (wM1 wJoin wa wb) := PE.imp (pe_join ha hb hs hbase hline) (l_m1 ok_join)
theorem e_split (ha : PEd X τ W o wa) (hb : PEd X τ W e wb) (hs : starEach [e] X.env = [(false, eval e X.env)] := by rfl) (hbase : attributeBase o "split" X.env (eval o X.env) = eval o X.env := by rfl) (hline : (apos.endLine == pos.line) = true := by rfl) :
    PEd X τ W (.Call (.Attribute o "split" apos) [e] [] pos) (wM1 wSplit wa wb) := PE.imp (pe_split ha hb hs hbase hline) (l_m1 ok_split)
/-! dicts, slices, fields, f-strings -/
theorem e_dget (q : Cok X W k) (ha : PEd X τ W o wa) (hb : PEd X τ W e wb) (hs : NoSl e := by intro _ _; rfl) : PEd X τ W (.Subscript o e pos) (wDGet wa wb) := PE.imp (pe_dget q.u1 ha hb hs) l_dget
theorem e_dget2 (q : Cok X W k) (ha : PEd X τ W o wa) (hb : PEd X τ W e wb) (hc : PEd X τ W f wc) (m : M2 X o "get" apos e f cpos) : PEd X τ W (.Call (.Attribute o "get" apos) [e, f] [] cpos) (wDGet2 wa wb wc) := PE.imp (pe_dget2 q.u1 ha hb hc m) l_dget2
abbrev POd (X : Cx) (τ : Tb) (W : WX) (e : Option Expr) (w : WO) : Prop := PO X e (lO X.K τ W w)
variable {lo hi : Option Expr} {wlo whi : WO} {p2 : Pos}
theorem s_none : POd X τ W none woNone := ⟨fun pins s σ H Q I h => po_none.run pins s σ H Q I (o_none σ H Q h)⟩
theorem s_some (ha : PEd X τ W e wa) : POd X τ W (some e) (woSome wa) := ⟨fun pins s σ H Q I h => (po_some ha).run pins s σ H Q I (o_some σ H Q h)⟩
theorem e_slice (ha : PEd X τ W e wa) (hl : POd X τ W lo wlo) (hu : POd X τ W hi whi) : PEd X τ W (.Subscript e (.Slice lo hi none p2) pos) (wSl wa wlo whi) := PE.imp (pe_slice (SlR.or sl_list sl_tupA) ha hl hu) l_sl
theorem e_fld {C : Addr} (hc : Cls X.K C) (hn : NoAttr X.K C x) (ha : PEd X τ W e wa) (hb : attributeBase e x X.env (eval e X.env) = eval e X.env := by rfl) : PEd X τ W (.Attribute e x pos) (wFld C x wa) := PE.imp (pe_fld ha hb) (l_fld hc hn)
theorem e_fldO {C : Addr} {i : Nat} (hc : Cls X.K C) (hn : NoAttr X.K C x) (hN : X.N[i]? = some y := by rfl) (hv : Vis X.env.scope y := by first | exact .inl rfl | exact .inr (.inl rfl) | exact .inr (.inr rfl)) (hd : (y == ("__debug__" : Str)) = false := by decide) (hcd : (y == ("__classdict__" : Str)) = false := by decide)
    (hb : attributeBase (.Name y p) x X.env (eval (.Name y p) X.env) = eval (.Name y p) X.env := by rfl) : PEd X τ W (.Attribute (.Name y p) x pos) (wFldO C x i) := PE.imp (pe_fld (pe_var hN hv hd hcd) hb) (l_fldO hc hn)
theorem e_fmt (ha : PEd X τ W e wa) : PEd X τ W (.FormattedValue e (-1) none pos) (wFmt wa) := PE.imp (pe_fmt ha) l_fmt
inductive PJd (X : Cx) (τ : Tb) (W : WX) : List Expr → List WE → Prop
  | nil : PJd X τ W [] []
  | cons {e : Expr} {w : WE} {es : List Expr} {ws : List WE} (h : PEd X τ W e w) (r : PJd X τ W es ws) : PJd X τ W (e :: es) (w :: ws)
theorem PJd.pj : ∀ {es : List Expr} {ws : List WE}, PJd X τ W es ws → PJ X es (ws.map (lE X.K τ W))
  | _, _, .nil => .nil
  | _, _, .cons h r => .cons h r.pj
theorem e_fs {ws : List WE} (h : PJd X τ W (a :: b :: es) ws) : PEd X τ W (.JoinedStr (a :: b :: es) pos) (wFs ws) := PE.imp (pe_joined h.pj) l_fs
/-! own lists -/
theorem e_ixO {i : Nat} (hb : PEd X τ W b wb) (hN : X.N[i]? = some x := by rfl) (hv : Vis X.env.scope x := by first | exact .inl rfl | exact .inr (.inl rfl) | exact .inr (.inr rfl)) (hs : PlainIx b := by intro _ _; rfl) (hd : (x == ("__debug__" : Str)) = false := by decide) (hc : (x == ("__classdict__" : Str)) = false := by decide) :
    PEd X τ W (.Subscript (.Name x p) b pos) (wIxO i wb) := PE.imp (pe_ix ix_seq (pe_var hN hv hd hc) hb hs) l_ixO
theorem o_lst (h : PAd X τ W es wl) : PEO X τ W (.List es pos) (woLst wl) := PE.imp (pe_lst h) lo_lst
theorem o_lstOf (hm : X.mg "list" = none) (ha : PAd X τ W [e] wl) (hg : Gl X "list" := by rfl) (he : starEach [e] X.env = (false, eval e X.env) :: starEach [] X.env := by rfl) : PEO X τ W (.Call (.Name "list" p) [e] [] pos) (woLstOf wl) := PE.imp (pe_callTy call_list_of hg hm PyProof.Rows.Boot.list ha (by decide) (by decide) he rfl) lo_lstOf
/-! statements -/
theorem s_nil : PSsd X τ W [] wNext := PSs.imp pss_nil l_next
variable {st : Stmt} {sts body tl fl : List Stmt} {i : Nat}
theorem s_cons (h : PSd X τ W st w) (r : PSsd X τ W sts u) : PSsd X τ W (st :: sts) (wSeq w u) := PSs.imp (pss_cons h r) l_seq
theorem s_one (h : PSd X τ W st w) : PSsd X τ W [st] w := pss_one h
theorem s_pass : PSd X τ W (.Pass pos) wNext := PS.imp ps_pass l_next
theorem s_brk : PSd X τ W (.Break pos) wBreak := PS.imp ps_break l_brk
theorem s_cnt : PSd X τ W (.Continue pos) wCont := PS.imp ps_continue l_cnt
theorem s_ret (h : PEd X τ W e wa) : PSd X τ W (.Return (some e) pos) (wRet wa) := PS.imp (ps_ret h) l_ret
theorem s_retN : PSd X τ W (.Return none pos) wRetN := PS.imp ps_retN l_retN
theorem s_retO (h : PEO X τ W e wo) : PSd X τ W (.Return (some e) pos) (wRetO wo) := PS.imp (ps_ret h) l_retO
theorem s_drop (h : PEd X τ W e wa) (hs : swapsWith e none pos.line X.env = pure false := by rfl) : PSd X τ W (.Expr e pos) (wDrop wa) := PS.imp (ps_expr h hs) l_drop
theorem s_set (hN : X.N.Nodup) (i : Nat) (h : PEd X τ W e wa) (hi : X.N[i]? = some x := by rfl) (hx : Loc X.env.scope x := by first | exact .inl rfl | exact .inr rfl) (hs : swapsWith e (some (.Name x pos')) pos.line X.env = pure false := by rfl)
    (hf : X.fn x = true ∨ X.env.scope.names.lookup x = some .local := by first | exact .inl rfl | exact .inr rfl) : PSd X τ W (.Assign [.Name x pos'] e pos) (wAsg i wa) := PS.imp (ps_set hN hi hx h hs hf) l_asg
theorem s_setO (hN : X.N.Nodup) (i : Nat) (h : PEO X τ W e wo) (hi : X.N[i]? = some x := by rfl) (hx : Loc X.env.scope x := by first | exact .inl rfl | exact .inr rfl) (hs : swapsWith e (some (.Name x pos')) pos.line X.env = pure false := by rfl)
    (hf : X.fn x = true ∨ X.env.scope.names.lookup x = some .local := by first | exact .inl rfl | exact .inr rfl) : PSd X τ W (.Assign [.Name x pos'] e pos) (wAsgO i wo) := PS.imp (ps_set hN hi hx h hs hf) l_asgO
theorem s_par (hN : X.N.Nodup) (hc : X.calm = true) (i m : Nat) (h : PAd X τ W [a, b] wl) (hw : swappedStores [.Tuple [.Name x px, .Name y py] kt pt] (.Tuple [a, b] k2 pt2) X.env = pure (some [x, y])) (hij : i ≠ m := by decide) (hi : X.N[i]? = some x := by rfl) (hj : X.N[m]? = some y := by rfl)
    (hx : X.env.scope.names.lookup x = some .local := by rfl) (hy : X.env.scope.names.lookup y = some .local := by rfl) (hs : swapsWithSole [.Tuple [.Name x px, .Name y py] kt pt] (.Tuple [a, b] k2 pt2) pos.line X.env = pure false := by rfl) :
    PSd X τ W (.Assign [.Tuple [.Name x px, .Name y py] kt pt] (.Tuple [a, b] k2 pt2) pos) (wPar i m wl) := PS.imp (ps_par hc hN hi hj hij hx hy h hw hs) l_par
theorem s_parO (hN : X.N.Nodup) (hc : X.calm = true) (i m : Nat) (h : PEd X τ W a wa) (ho : PEO X τ W b wo) (hw : swappedStores [.Tuple [.Name x px, .Name y py] kt pt] (.Tuple [a, b] k2 pt2) X.env = pure (some [x, y])) (hij : i ≠ m := by decide) (hi : X.N[i]? = some x := by rfl) (hj : X.N[m]? = some y := by rfl)
    (hx : X.env.scope.names.lookup x = some .local := by rfl) (hy : X.env.scope.names.lookup y = some .local := by rfl) (hs : swapsWithSole [.Tuple [.Name x px, .Name y py] kt pt] (.Tuple [a, b] k2 pt2) pos.line X.env = pure false := by rfl)
    (h1 : starEach [a, b] X.env = (false, eval a X.env) :: starEach [b] X.env := by rfl) (h2 : starEach [b] X.env = (false, eval b X.env) :: starEach [] X.env := by rfl) :
    PSd X τ W (.Assign [.Tuple [.Name x px, .Name y py] kt pt] (.Tuple [a, b] k2 pt2) pos) (wParO i m wa wo) := PS.imp (ps_par hc hN hi hj hij hx hy (pa_cons h (pa_cons ho pa_nil h2) h1) hw hs) l_parO
theorem s_if (ht : PTd X τ W c wt) (ha : PSsd X τ W tl w) (hb : PSsd X τ W fl u) : PSd X τ W (.If c tl fl pos) (wIfS wt w u) := PS.imp (ps_if ht ha hb) l_ifS
theorem s_setO1 {wj : WE} (i : Nat) (hk : PEd X τ W b wj) (h : PEd X τ W e wa) (hN : X.N[i]? = some x := by rfl) (hv : Vis X.env.scope x := by first | exact .inl rfl | exact .inr (.inl rfl) | exact .inr (.inr rfl)) (hd : (x == ("__debug__" : Str)) = false := by decide) (hc : (x == ("__classdict__" : Str)) = false := by decide)
    (ha : ∀ v, assign (.Subscript (.Name x p) b tpos) X.env v = (do
      let ov ← holding [v] (eval (.Name x p) X.env)
      let iv ← holding [v, ov] (eval b X.env)
      standAt tpos
      holding [v, ov, iv] (setItem ov iv v); release [v, ov, iv] []) := by intro _; rfl)
    (hs : swapsWithSole [.Subscript (.Name x p) b tpos] e pos.line X.env = pure false := by rfl) (hw : swappedStores [.Subscript (.Name x p) b tpos] e X.env = pure none := by rfl)
    (h1 : (assignEach [.Subscript (.Name x p) b tpos] X.env).map (·.2) = [assign (.Subscript (.Name x p) b tpos) X.env] := by rfl) : PSd X τ W (.Assign [.Subscript (.Name x p) b tpos] e pos) (wSetO i wj wa) :=
  PS.imp (ps_asg h (pg_sub (pe_var hN hv hd hc) hk set_list ha) hs hw h1) l_setO
theorem s_app (i : Nat) (h : PEd X τ W e wa) (hN : X.N[i]? = some x := by rfl) (hv : Vis X.env.scope x := by first | exact .inl rfl | exact .inr (.inl rfl) | exact .inr (.inr rfl)) (hd : (x == ("__debug__" : Str)) = false := by decide) (hc : (x == ("__classdict__" : Str)) = false := by decide)
    (hbase : attributeBase (.Name x p) "append" X.env (eval (.Name x p) X.env) = eval (.Name x p) X.env := by rfl)
    (hfew : ((backTo cpos (starEach [e] X.env)).all (fun x => !x.1) && (backToKw cpos (keywordEach [] X.env)).all (fun x => x.1.isSome) && decide ([e].length + ([] : List Keyword).length + (if ([] : List Keyword).isEmpty then 0 else 1) < 30)) = true := by rfl)
    (hline : (apos.endLine == cpos.line) = true := by rfl) (hs : starEach [e] X.env = (false, eval e X.env) :: starEach [] X.env := by rfl) (hw : swapsWith (.Call (.Attribute (.Name x p) "append" apos) [e] [] cpos) none pos.line X.env = pure false := by rfl) :
    PSd X τ W (.Expr (.Call (.Attribute (.Name x p) "append" apos) [e] [] cpos) pos) (wApp i wa) :=
  PS.imp (ps_expr (pe_bm PySem.F.plainAttrs_list PySem.F.slot_list_append PySem.F.type_list_append mt_append (pe_var hN hv hd hc) (pa_cons h pa_nil hs) hbase hfew hline hs rfl) hw) l_app
theorem s_fset {C : Addr} (i : Nat) (hc : Cls X.K C) (hn : NoAttr X.K C y) (h : PEd X τ W e wa) (hN : X.N[i]? = some x := by rfl) (hv : Vis X.env.scope x := by first | exact .inl rfl | exact .inr (.inl rfl) | exact .inr (.inr rfl)) (hd : (x == ("__debug__" : Str)) = false := by decide) (hcd : (x == ("__classdict__" : Str)) = false := by decide)
    (hs : swapsWith e (some (.Attribute (.Name x p) y pos')) pos.line X.env = pure false := by rfl) : PSd X τ W (.Assign [.Attribute (.Name x p) y pos'] e pos) (wFset C y i wa) := PS.imp (ps_fld (pe_var hN hv hd hcd) h hs) (l_fset hc hn)
/-! targets, walks, loops -/
theorem g_nm (hN : X.N.Nodup) (i : Nat) (hi : X.N[i]? = some x := by rfl) (hx : Loc X.env.scope x := by first | exact .inl rfl | exact .inr rfl) (hf : X.fn x = true ∨ X.env.scope.names.lookup x = some .local := by first | exact .inl rfl | exact .inr rfl) : PGd X τ (.Name x pos) (wgName i) := PG.imp (pg_name hN hi hx hf) g_name
theorem g_two (hN : X.N.Nodup) (hc : X.calm = true) (i m : Nat) (hi : X.N[i]? = some x := by rfl) (hj : X.N[m]? = some y := by rfl) (hx : Loc X.env.scope x := by first | exact .inl rfl | exact .inr rfl) (hy : Loc X.env.scope y := by first | exact .inl rfl | exact .inr rfl)
    (hf : X.fn x = true ∨ X.env.scope.names.lookup x = some .local := by first | exact .inl rfl | exact .inr rfl) (hf2 : X.fn y = true ∨ X.env.scope.names.lookup y = some .local := by first | exact .inl rfl | exact .inr rfl)
    (hn : (assignEach [.Name x px, .Name y py] X.env).length = 2 := by rfl) (hst : (assignEach [.Name x px, .Name y py] X.env).findIdx? (·.1) = none := by rfl) : PGd X τ (.Tuple [.Name x px, .Name y py] kt pt) (wgTup 2 (wgCons (wgName i) (wgCons (wgName m) wgNil))) :=
  PG.imp (pg_tup hc (PGs.imp (pgs_cons (PG.imp (pg_name hN hi hx hf) g_name) (PGs.imp (pgs_cons (PG.imp (pg_name hN hj hy hf2) g_name) (PGs.imp pgs_nil g_nil)) g_cons)) g_cons) hn hst) g_tup
theorem i_seq {tg : Expr} (h : PEd X τ W e wa) : PId X τ W tg e (wiSeq wa) := d_seq h
theorem i_rng1 {tg : Expr} (hm : X.mg "range" = none) (ha : PAd X τ W [a] wl) (hg : Gl X "range" := by rfl) (hs : starEach [a] X.env = [(false, eval a X.env)] := by rfl) : PId X τ W tg (.Call (.Name "range" p) [a] [] pos) (wiRg1 wl) := PI.imp (pi_range1 hg hm ha hs) i_rg1
theorem s_for {tg : Expr} {g : WG} (hp : PassesOwn (model X.prog X.w) X.A X.env X.xe) (hc : X.calm = true) (hi : PId X τ W tg e wi) (hg : PGd X τ tg g) (hb : PSsd X τ W body w) (hs : ∀ x, foldedSetIterable e X.env x = pure x := by intro _; rfl) : PSd X τ W (.For tg e body [] pos) (wFor wi g w) := PS.imp (ps_for hp hc hi hg hb hs) l_for
end
end DL
set_option Elab.async false
set_option autoImplicit false
set_option linter.all false
set_option maxRecDepth 100000
set_option maxHeartbeats 3900000
namespace DL
open L2 PyProof.Rows PySem PySem.Spec
variable {τ : Tb}
/-! ### comprehensions -/
abbrev Blk (X : Cx) (P : Cx → Prop) (scope : Scope) : Prop := ∀ (s : Shared) (H : Hp) (C : Addr) (cl : List (Str × Addr)) (fp : List Addr), P (X.blk s H scope (compEnvC scope cl C X.env) fp)
theorem PTs.imp {X : Cx} {ifs : List Expr} {t t' : TT} (h : PTs X ifs t) (m : ∀ σ H Q, t' σ H Q → t σ H Q) : PTs X ifs t' := ⟨fun pins s σ H Q I q => h.run pins s σ H Q I (m σ H Q q)⟩
theorem PK.imp {X : Cx} {ks : List Keyword} {t t' : TA} (h : PK X ks t) (m : ∀ σ H Q, t' σ H Q → t σ H Q) : PK X ks t' := ⟨fun pos pins s σ H Q I q => h.run pos pins s σ H Q I (m σ H Q q)⟩
theorem f_nil {X : Cx} {W : WX} : PTs X [] (lT X.K τ W wTrue) := PTs.imp pts_nil l_yes
theorem f_one {X : Cx} {W : WX} {c : Expr} {wt : WT} (h : PTd X τ W c wt) : PTs X [c] (lT X.K τ W wt) := pts_one h
section
variable {X : Cx} {W : WX} {k n m N : Nat} {x : Str} {e tg iter elt kx : Expr} {es : List Expr} {ifs : List Expr} {scope : Scope} {own : List (Str × Nat)} {p pos p2 : Pos} {wa we wk : WE} {wi wl : WL} {g : WG} {wt : WT} {f C : Addr} {fd : FuncData} {ps ks : List Str} {sp : Spc}
theorem e_lc (hc : X.calm = true) (hN : X.N.Nodup) (hi : PId X τ W tg iter wi) (ok : BlkOk X.N X.env.scope scope own) (hg : Blk X (fun Y => PG Y tg (lGc X.K τ (own.map (·.2)) g)) scope) (ht : Blk X (fun Y => PTs Y ifs (lT X.K τ W0 wt)) scope) (he : Blk X (fun Y => PE Y elt (lE X.K τ W0 we)) scope)
    (hs : ∀ x, foldedSetIterable iter X.env x = pure x := by intro _; rfl) : PEd X τ W (.ListComp elt [⟨tg, iter, ifs, 0⟩] scope pos) (wLc wi g wt we (own.map (·.2))) := PE.imp (pe_lc hc hN hi ok hg ht he hs) l_lc
theorem o_lc (hc : X.calm = true) (hN : X.N.Nodup) (hi : PId X τ W tg iter wi) (ok : BlkOk X.N X.env.scope scope own) (hg : Blk X (fun Y => PG Y tg (lGc X.K τ (own.map (·.2)) g)) scope) (ht : Blk X (fun Y => PTs Y ifs (lT X.K τ W0 wt)) scope) (he : Blk X (fun Y => PE Y elt (lE X.K τ W0 we)) scope)
    (hs : ∀ x, foldedSetIterable iter X.env x = pure x := by intro _; rfl) : PEO X τ W (.ListComp elt [⟨tg, iter, ifs, 0⟩] scope pos) (woLc wi g wt we (own.map (·.2))) := PE.imp (pe_lc hc hN hi ok hg ht he hs) lo_lc
theorem e_dc (hc : X.calm = true) (hN : X.N.Nodup) (hi : PId X τ W tg iter wi) (ok : BlkOk X.N X.env.scope scope own) (hg : Blk X (fun Y => PG Y tg (lGc X.K τ (own.map (·.2)) g)) scope) (ht : Blk X (fun Y => PTs Y ifs (lT X.K τ W0 wt)) scope) (hk : Blk X (fun Y => PE Y kx (lE X.K τ W0 wk)) scope) (he : Blk X (fun Y => PE Y elt (lE X.K τ W0 we)) scope)
    (hs : ∀ x, foldedSetIterable iter X.env x = pure x := by intro _; rfl) : PEd X τ W (.DictComp kx elt [⟨tg, iter, ifs, 0⟩] scope pos) (wDc wi g wt wk we (own.map (·.2))) := PE.imp (pe_dc hc hN hi ok hg ht hk he hs) l_dc
theorem g_c {K : Fg} {vs : List Nat} {Y : Cx} (i : Nat) (hN : Y.N.Nodup) (hv : i ∈ vs := by decide) (hi : Y.N[i]? = some x := by rfl) (hx : Loc Y.env.scope x := by first | exact .inl rfl | exact .inr rfl) (hf : Y.fn x = true ∨ Y.env.scope.names.lookup x = some .local := by first | exact .inl rfl | exact .inr rfl) : PG Y (.Name x pos) (lGc K τ vs (wgName i)) :=
  PG.imp (pg_name hN hi hx hf) (gc_name hv)

/-! ### calls of defs -/
theorem lL_mono {K : Fg} {w : WL} {σ : L2.St} {H : Hp} {Q Q' : List V → Hp → Prop} (h : lL K τ W w σ H Q) (m : ∀ vs H', Q vs H' → Q' vs H') : lL K τ W w σ H Q' := by
  obtain ⟨ρ, S, F, χ, Φ, e, hw, hx, hp⟩ := h
  exact ⟨ρ, S, F, χ, Φ, e, hw, hx, fun vs ds ρ' S' H' a b c d => m vs H' (hp vs ds ρ' S' H' a b c d)⟩
structure Dn (K : Fg) (mg : Str → Option Value) (x : Str) (f : Addr) (fd : FuncData) (ps : List Str) (n : Nat) : Prop where
  m : mg x = some (.ref f)
  kp : PySem.W.keepIn K (Value.ref f) = true
  kb : KBn K fd ps n [] (fun us _ => us) (fun us _ => us)
theorem kb_of {K : Fg} {fd : FuncData} {ps : List Str} {n : Nat} (h : Binds K fd ps []) (hn : ps.length = n) : KBn K fd ps n [] (fun us _ => us) (fun us _ => us) :=
  ⟨fun s us ws hK h1 h2 => by
    have z := h s us hK (by rw [List.append_nil, h1, hn])
    rw [List.append_nil] at z
    exact z, fun r _ => r⟩
theorem grel_pos : GRel n 0 n (fun vs _ => vs) (fun ds _ => ds) := fun K S vs ds us es i1 i2 h1 h2 => ⟨i1, h1⟩
theorem e_call {tt : List (Addr × Str)} (o : Cok X W k) {j : Nat} (F : FnG X.prog X.w X.K X.mg X.base j f fd ps (lSp X.K tt n sp)) (U : Dn X.K X.mg x f fd ps n) (ha : PAd X τ W (e :: es) wl) (hj : j ≤ k := by decide) (hg : Gl X x := by rfl) (hd : (x == ("__debug__" : Str)) = false := by decide)
    (he : starEach (e :: es) X.env = (false, eval e X.env) :: starEach es X.env := by rfl) (hpl : (backTo pos (starEach es X.env)).any (·.1) = false := by rfl) (ht : τ.t = tt := by rfl) : PEd X τ W (.Call (.Name x p) (e :: es) [] pos) (wCallA n 0 sp (fun ds _ => ds) wl wNil) := by
  subst ht
  exact PE.imp (pe_g (F.mono hj) o hg U.m U.kp U.kb ha hpl hd he) fun σ H Q z => lL_mono (l_callA grel_pos σ H Q z) fun vs H' q => l_nil σ H' _ q
theorem e_callB {tt : List (Addr × Str)} (o : Cok X W k) {i j : Nat} (F : FnG X.prog X.w X.K X.mg X.base j f fd ps (lSp X.K tt (n + 1) sp)) (U : Dn X.K X.mg x f fd ps (n + 1)) {y : Str} {py : Pos} (ha : PAd X τ W es wl) (hj : j ≤ k := by decide) (hN : X.N[i]? = some y := by rfl) (hv : Vis X.env.scope y := by first | exact .inl rfl | exact .inr (.inl rfl) | exact .inr (.inr rfl))
    (hg : Gl X x := by rfl) (hd : (x == ("__debug__" : Str)) = false := by decide) (hd2 : (y == ("__debug__" : Str)) = false := by decide) (hc2 : (y == ("__classdict__" : Str)) = false := by decide)
    (he : starEach (.Name y py :: es) X.env = (false, eval (.Name y py) X.env) :: starEach es X.env := by rfl) (hpl : (backTo pos (starEach es X.env)).any (·.1) = false := by rfl) (ht : τ.t = tt := by rfl) : PEd X τ W (.Call (.Name x p) (.Name y py :: es) [] pos) (wCallB i n sp wl) := by
  subst ht
  exact PE.imp (pe_g (F.mono hj) o hg U.m U.kp U.kb (pa_cons (pe_var hN hv hd2 hc2) ha he) hpl hd he) (l_callB fun _ => rfl)
theorem o_call {tt : List (Addr × Str)} (o : Cok X W k) {j : Nat} {so : SpcO} (F : FnG X.prog X.w X.K X.mg X.base j f fd ps (lSpO X.K tt n so)) (U : Dn X.K X.mg x f fd ps n) (ha : PAd X τ W (e :: es) wl) (hj : j ≤ k := by decide) (hg : Gl X x := by rfl) (hd : (x == ("__debug__" : Str)) = false := by decide)
    (he : starEach (e :: es) X.env = (false, eval e X.env) :: starEach es X.env := by rfl) (hpl : (backTo pos (starEach es X.env)).any (·.1) = false := by rfl) (ht : τ.t = tt := by rfl) : PEO X τ W (.Call (.Name x p) (e :: es) [] pos) (woCall n so wl) := by
  subst ht
  exact PE.imp (pe_g (F.mono hj) o hg U.m U.kp U.kb ha hpl hd he) (lo_call fun _ => rfl)
theorem e_callT {tt : List (Addr × Str)} (o : Cok X W k) {j : Nat} {wo : WEO} (F : FnG X.prog X.w X.K X.mg X.base j f fd ps (lSp X.K tt (n + 1) sp)) (U : Dn X.K X.mg x f fd ps (n + 1)) (h : PEO X τ W e wo) (ha : PAd X τ W es wl) (hj : j ≤ k := by decide) (hg : Gl X x := by rfl) (hd : (x == ("__debug__" : Str)) = false := by decide)
    (he : starEach (e :: es) X.env = (false, eval e X.env) :: starEach es X.env := by rfl) (hpl : (backTo pos (starEach es X.env)).any (·.1) = false := by rfl) (ht : τ.t = tt := by rfl) : PEd X τ W (.Call (.Name x p) (e :: es) [] pos) (wCallT n sp wo wl) := by
  subst ht
  exact PE.imp (pe_g (F.mono hj) o hg U.m U.kp U.kb (pa_cons h ha he) hpl hd he) (l_callT fun _ => rfl)
/-- keywords alone -/
abbrev PKd (X : Cx) (τ : Tb) (W : WX) (ks : List Keyword) (w : WL) : Prop := PK X ks (lL X.K τ W w)
theorem k_nil : PKd X τ W [] wNil := PK.imp pk_nil l_nil
theorem k_cons {nm : Option Str} {kp : Pos} {kws : List Keyword} (h : PEd X τ W e wa) (r : PKd X τ W kws wl) : PKd X τ W (⟨nm, e, kp⟩ :: kws) (wCons wa wl) := PK.imp (pk_cons h r) l_cons
theorem e_callK {tt : List (Addr × Str)} (o : Cok X W k) {j : Nat} {kws : List Keyword} {gl : List Value → List Value → List Value} {gV : List V → List V → List V} {gD : List D → List D → List D} (F : FnG X.prog X.w X.K X.mg X.base j f fd ps (lSp X.K tt n sp)) (hm : X.mg x = some (.ref f)) (kp : PySem.W.keepIn X.K (.ref f) = true)
    (hb : KBn X.K fd ps 0 ks gl gV) (hr : GRel 0 ks.length n gV gD) (ha : PKd X τ W kws wl) (hj : j ≤ k := by decide) (hg : Gl X x := by rfl) (hall : (backToKw pos (keywordEach kws X.env)).all (·.1.isSome) = true := by rfl) (hks : (backToKw pos (keywordEach kws X.env)).filterMap (·.1) = ks := by rfl)
    (hd : (x == ("__debug__" : Str)) = false := by decide) (hpl : ((backTo pos (starEach [] X.env)).any (·.1) || (backToKw pos (keywordEach kws X.env)).any (·.1.isNone)) = false := by rfl) (ht : τ.t = tt := by rfl) : PEd X τ W (.Call (.Name x p) [] kws pos) (wCallA 0 ks.length sp gD wNil wl) := by
  subst ht
  exact PE.imp (pe_gk0 (F.mono hj) o hg hm kp hb ha hall hks (hpl := hpl) (hdb := hd)) fun σ H Q z => l_nil σ H _ (l_callA hr σ H Q z)
/-- C(..) -/
theorem grel_mk : ∀ (v : V) (vs zs : List V), (fun (us : List V) (_ : List V) => us) (v :: vs) zs = v :: (fun (us : List V) (_ : List V) => us) vs zs := fun _ _ _ => rfl
theorem e_make {tt : List (Addr × Str)} (o : Cok X W (k + 1)) {j : Nat} (M : Mk X.K C f) (F : FnG X.prog X.w X.K X.mg X.base j f fd ps (lSp X.K tt (n + 1) sp)) (hm : X.mg x = some (.ref C)) (kb : KBn X.K fd ps (n + 1) [] (fun us _ => us) (fun us _ => us)) (ha : PAd X τ W (e :: es) wl) (hj : j ≤ k := by decide) (hg : Gl X x := by rfl) (hd : (x == ("__debug__" : Str)) = false := by decide)
    (he : starEach (e :: es) X.env = (false, eval e X.env) :: starEach es X.env := by rfl) (hpl : (backTo pos (starEach es X.env)).any (·.1) = false := by rfl) (ht : τ.t = tt := by rfl) : PEd X τ W (.Call (.Name x p) (e :: es) [] pos) (wMake C n 0 sp (fun ds _ => ds) wl wNil) := by
  subst ht
  exact PE.imp (pe_mk M (F.mono hj) o hg hm kb ha (hpl := hpl) (hdb := hd) (he := he)) fun σ H Q z => lL_mono (l_make (gV := fun us _ => us) grel_pos grel_mk σ H Q z) fun vs H' q => l_nil σ H' _ q
/-- x != y by an own == -/
theorem e_neO {tt : List (Addr × Str)} (o : Cok X W (k + 1)) {j : Nat} {a b : Expr} {wb : WE} (T : EqC X.K C f) (F : FnG X.prog X.w X.K X.mg X.base j f fd ps (lSp X.K tt 2 sp)) (kb : KBn X.K fd ps 2 [] (fun us _ => us) (fun us _ => us)) (ha : PEd X τ W a wa) (hb : PEd X τ W b wb) (hj : j ≤ k := by decide) (ht : τ.t = tt := by rfl) :
    PTd X τ W (.Compare a [.NotEq] [b] pos) (wB (wOp (fun x y Φ => wEq true x y Φ ∨ wNeO C sp x y Φ) wa wb)) := by
  subst ht
  exact t_of (pt_cmpR ((op_neD o.u64').or (op_neO T (F.mono hj) o kb (fun _ => rfl) fun _ => rfl)) ha hb (nomark _)) (l_op (ok_ne.or ok_neO))

/-! ### raise, try -/
variable {C0 fI : Addr} {fn s : Str} {w : WS}
theorem s_raise (hc : X.calm = true) (o : Cok X W (k + 1)) (hC : ErrC X.K C fI fn) (F1 : FnOk X.prog X.w X.K X.mg X.base (L2.CX X.prog X.w) k fI fd [s, fn] (spIni X.K fn)) (hb : Binds X.K fd [s, fn] []) (hx : Passes (L2.CX X.prog X.w) X (fun _ _ _ => False))
    (hm : X.mg x = some (.ref C)) (ha : PAd X τ W [e] wl) (hg : Gl X x := by rfl) (hd : (x == ("__debug__" : Str)) = false := by decide) (he : starEach [e] X.env = [(false, eval e X.env)] := by rfl) :
    PSd X τ W (.Raise (some (.Call (.Name x p) [e] [] pos)) none p2) (wRaise C fn wl) := ps_rs hc o hC F1 hb hx hg hm ha hd he
def wNever : WS := fun _ _ => False
theorem s_never {sts : List Stmt} : PSsd X τ W sts wNever := PSs.imp pss_never fun _ _ _ ⟨_, _, _, _, _, h, _⟩ => h
theorem s_try {n : Str} {c : Value} {i : Nat} {body suite : List Stmt} {b₀ : Stmt} {np pos' : Pos} {wb : WS} {ws : Addr → Value → Option Addr → WS} (hN : X.N.Nodup) (o : Cok X W k) (hc : Names X x c)
    (hb : ∀ (W' : WX) (pn : List (Addr × Obj)) (xe : Value → Shared → Prop), Cok (X.tr pn xe) W' k → PassesOwn (model X.prog X.w) X.A X.env xe → PSs (X.tr pn xe) body (lS X.K τ W' wb))
    (hsu : ∀ (a : Addr) (oe : Obj) (cls : Value) (d : Option Addr) (pn : List (Addr × Obj)), Zc cls d oe → (∃ vs, oe.data = .fields vs) → PSs (X.suite a ((a, oe) :: pn)) (b₀ :: suite) (lS X.K τ W (ws a cls d)))
    (hi : X.N[i]? = some n := by rfl) (hln : X.env.kindOf n = some .local := by rfl) (hs : X.stack = X.env :: X.outer := by rfl) (hf : X.env.frame = some X.env.locals := by rfl) :
    PSd X τ W (.Try body [.ExceptHandler (some (.Name x np)) (some n) (b₀ :: suite) pos'] [] [] pos) (wTry X.K c i wb ws) :=
  PS.imp (ps_try_as (tb := fun W' => lS X.K τ W' wb) hs hf hN hi hln hc o.tk (fun W' pn xe tk hp => hb W' pn xe (o.tr pn xe tk) hp) hsu) l_try
theorem e_xf {a : Addr} {oe : Obj} {cls : Value} {dO : Option Addr} {pn : List (Addr × Obj)} {nf : Str} (T : XfC X.K C) (hno : PySem.W.findIn X.K (.ref C) nf = some none) (hz : Zc cls dO oe) (hf : ∃ vs, oe.data = .fields vs) (he : PEd (X.suite a ((a, oe) :: pn)) τ W e wa)
    (hb : attributeBase e nf X.env (eval e X.env) = eval e X.env := by rfl) : PEd (X.suite a ((a, oe) :: pn)) τ W (.Attribute e nf pos) (wXf a cls dO C nf wa) := PE.imp (pe_xf (X := X) T hno hz hf he hb) l_xf
end
end DL
set_option Elab.async false
set_option autoImplicit false
set_option linter.all false
set_option maxRecDepth 100000
set_option maxHeartbeats 3900000
namespace DL
open L2 PyProof.Rows PySem PySem.Spec
variable {τ : Tb}
/-- a, b = x, y whose names lie in cells: the pair is made, then parted; y an object of one's own -/
theorem l_parG {K : Fg} {W : WX} {i m : Nat} {wa : WE} {wo : WEO} : ∀ D σ H, lS K τ W (wParO i m wa wo) D σ H → tAsg (tTup (tCons (lE K τ W wa) (tCons (lEO K τ W wo) tNil))) (gTup K 2 (gCons (gName i) (gCons (gName m) gNil))) D σ H := by
  rintro D σ H ⟨ρ, S, F, Δ, e, hw, hx, h1, h2, h3, h4, h5⟩
  refine ⟨ρ, S, F, _, _, e, hw, hx, fun v d ρ1 S1 H1 q1 s1 i1 e1 => ?_⟩
  refine ⟨ρ1, S1, F, _, _, e1, q1, hx.mono s1, fun l od o ρ2 S2 H2 q2 s2 a1 a2 a3 a4 a5 e2 => ?_⟩
  refine ⟨show 2 ≤ sizeLine by decide, fun p hp => ⟨p, _, rfl, .inl (.inl upd_same), rfl, v, _, rfl, _, _, rfl, rfl, ?_⟩⟩
  have nl : l ≠ p := ne_of_none a1 hp
  exact h1 _ S2 _ _ q2 (s1.trans s2) (((e2.addH hp).set (i1.mono s2)).setOwn (by rw [upd_ne nl]; exact a1) a3 a4 a2 (notOwn_set a5))
theorem s_parG {X : Cx} {W : WX} {a b : Expr} {x y : Str} {wa : WE} {wo : WEO} {px py pt pt2 pos : Pos} {kt k2 : Nat} (hN : X.N.Nodup) (hc : X.calm = true) (i m : Nat) (h : PEd X τ W a wa) (ho : PEO X τ W b wo) (hi : X.N[i]? = some x := by rfl) (hj : X.N[m]? = some y := by rfl)
    (hx : Loc X.env.scope x := by first | exact .inl rfl | exact .inr rfl) (hy : Loc X.env.scope y := by first | exact .inl rfl | exact .inr rfl) (hf : X.fn x = true ∨ X.env.scope.names.lookup x = some .local := by first | exact .inl rfl | exact .inr rfl)
    (hf2 : X.fn y = true ∨ X.env.scope.names.lookup y = some .local := by first | exact .inl rfl | exact .inr rfl) (hn : (assignEach [.Name x px, .Name y py] X.env).length = 2 := by rfl) (hst : (assignEach [.Name x px, .Name y py] X.env).findIdx? (·.1) = none := by rfl)
    (hs : swapsWithSole [.Tuple [.Name x px, .Name y py] kt pt] (.Tuple [a, b] k2 pt2) pos.line X.env = pure false := by rfl) (hw : swappedStores [.Tuple [.Name x px, .Name y py] kt pt] (.Tuple [a, b] k2 pt2) X.env = pure none := by rfl)
    (h1 : (assignEach [.Tuple [.Name x px, .Name y py] kt pt] X.env).map (·.2) = [assign (.Tuple [.Name x px, .Name y py] kt pt) X.env] := by rfl)
    (e1 : starEach [a, b] X.env = (false, eval a X.env) :: starEach [b] X.env := by rfl) (e2 : starEach [b] X.env = (false, eval b X.env) :: starEach [] X.env := by rfl) :
    PSd X τ W (.Assign [.Tuple [.Name x px, .Name y py] kt pt] (.Tuple [a, b] k2 pt2) pos) (wParO i m wa wo) :=
  PS.imp (ps_asg (pe_tup (pa_cons h (pa_cons ho pa_nil e2) e1)) (pg_tup hc (pgs_cons (pg_name hN hi hx hf) (pgs_cons (pg_name hN hj hy hf2) pgs_nil)) hn hst) hs hw h1) l_parG
theorem s_asg {X : Cx} {W : WX} {tg e : Expr} {wa : WE} {g : WG} {pos : Pos} (h : PEd X τ W e wa) (hg : PGd X τ tg g) (hs : swapsWithSole [tg] e pos.line X.env = pure false := by rfl) (hw : swappedStores [tg] e X.env = pure none := by rfl)
    (h1 : (assignEach [tg] X.env).map (·.2) = [assign tg X.env] := by rfl) : PSd X τ W (.Assign [tg] e pos) (wAsgG g wa) := PS.imp (ps_asg h hg hs hw h1) l_asgG
/-- name = [..] on one line -/
theorem s_setLc {X : Cx} {W : WX} {y : Str} {tg iter elt : Expr} {ifs : List Expr} {scope : Scope} {own : List (Str × Nat)} {pos spos py : Pos} {wi : WL} {g : WG} {wt : WT} {we : WE} (i : Nat) (hc : X.calm = true) (hN : X.N.Nodup) (hi : PId X τ W tg iter wi) (ok : BlkOk X.N X.env.scope scope own)
    (hg : Blk X (fun Y => PG Y tg (lGc X.K τ (own.map (·.2)) g)) scope) (ht : Blk X (fun Y => PTs Y ifs (lT X.K τ W0 wt)) scope) (he : Blk X (fun Y => PE Y elt (lE X.K τ W0 we)) scope) (hy : X.N[i]? = some y := by rfl) (hyl : X.env.scope.names.lookup y = some .local := by rfl)
    (hsw : swapsWith (.ListComp elt [⟨tg, iter, ifs, 0⟩] scope pos) (some (.Name y py)) spos.line X.env = pure true := by rfl) (hs : ∀ x, foldedSetIterable iter X.env x = pure x := by intro _; rfl) :
    PSd X τ W (.Assign [.Name y py] (.ListComp elt [⟨tg, iter, ifs, 0⟩] scope pos) spos) (wAsg i (wLc wi g wt we (own.map (·.2)))) :=
  PS.imp (PS.imp (ps_setLc hc hN hy hyl hsw hi ok hg ht he hs) fun D σ H z => l_lc σ H _ z) l_asg
/-- == where an error is handled -/
theorem e_eqU {X : Cx} {W : WX} {a b : Expr} {wa wb : WE} {pos : Pos} (hu : X.A.units + 64 < cLine) (ha : PEd X τ W a wa) (hb : PEd X τ W b wb) : PEd X τ W (.Compare a [.Eq] [b] pos) (wOp (wEq false) wa wb) := PE.imp (pe_cmpR (op_eqD hu) ha hb (nomark _)) (l_op ok_eq)
theorem e_neU {X : Cx} {W : WX} {a b : Expr} {wa wb : WE} {pos : Pos} (hu : X.A.units + 64 < cLine) (ha : PEd X τ W a wa) (hb : PEd X τ W b wb) : PEd X τ W (.Compare a [.NotEq] [b] pos) (wOp (wEq true) wa wb) := PE.imp (pe_cmpR (op_neD hu) ha hb (nomark _)) (l_op ok_ne)
/-- a block's own names, told by one computation -/
def blkB (N : List Str) (sc scope : Scope) (own : List (Str × Nat)) : Bool :=
  (decide (scope.kind = .function) && scope.names.all fun y => decide (scope.names.lookup y.1 = some y.2)) && ((own.all fun p => decide (N[p.2]? = some p.1)) &&
    ((scope.names.all fun y => decide (y.2 = .free → sc.names.lookup y.1 = some .cell ∨ sc.names.lookup y.1 = some .free)) && scope.names.all fun y => decide (y.2 = .local ∨ y.2 = .cell → y.1 ∈ own.map (·.1) ∨ y.1 ∉ N)))
theorem blk_ok {N : List Str} {sc scope : Scope} {own : List (Str × Nat)} (h : blkB N sc scope own = true) : BlkOk N sc scope own := by
  unfold blkB at h
  simp only [List.all_eq_true, Bool.and_eq_true, decide_eq_true_eq] at h
  obtain ⟨⟨h1, h2⟩, h3, h4, h5⟩ := h
  exact ⟨h1, h2, h3, h4, h5⟩
def wNeg : D → (D → Prop) → Prop := fun x Φ => match x with
  | .int i => Φ (.int (-i))
  | _ => False
theorem ok_neg {K : Fg} : UnOk K τ (rU fun i => .int (-i)) wNeg := by
  intro S F H ρ σ x dx Φ Q e ix hw hp
  cases ix with
  | int i => exact ⟨i, rfl, hp _ _ S H hw (Same.refl S) (.int _) e⟩
  | _ => exact hw.elim
theorem lE_mono {K : Fg} {W : WX} {w : WE} {σ : L2.St} {H : Hp} {Q Q' : VK} (h : lE K τ W w σ H Q) (m : ∀ v H', Q v H' → Q' v H') : lE K τ W w σ H Q' := by
  obtain ⟨ρ, S, F, χ, Φ, e, hw, hx, hp⟩ := h
  exact ⟨ρ, S, F, χ, Φ, e, hw, hx, fun v d ρ' S' H' a b c d' => m v H' (hp v d ρ' S' H' a b c d')⟩
section
variable {X : Cx} {W : WX} {a e o : Expr} {es : List Expr} {wa wb wr : WE} {wl : WL} {pos cpos apos c1 c2 c3 : Pos} {c y z : Str} {j j1 j2 j3 : Nat} {n : Int}
theorem e_neg (ha : PEd X τ W a wa) : PEd X τ W (.UnaryOp .USub a pos) (wUn wNeg wa) := PE.imp (pe_un un_neg ha) (l_un ok_neg)
abbrev PETd (X : Cx) (τ : Tb) (W : WX) (e : Expr) (w : WE) : Prop := PET X e (lE X.K τ W w)
abbrev PATd (X : Cx) (τ : Tb) (W : WX) (es : List Expr) (w : WL) : Prop := PAT X es (lL X.K τ W w)
theorem at_nil : PATd X τ W [] wNil := fun pos pins s σ H Q h0 I h => pat_nil pos pins s σ H Q h0 I (l_nil σ H Q h)
theorem at_cons (ha : PETd X τ W e wa) (hr : PATd X τ W es wl) (hs : starEach (e :: es) X.env = (false, eval e X.env) :: starEach es X.env := by rfl) : PATd X τ W (e :: es) (wCons wa wl) := fun pos pins s σ H Q h0 I h => pat_cons ha hr hs pos pins s σ H Q h0 I (l_cons σ H Q h)
theorem a_first (ha : PEd X τ W a wa) (hr : PATd X τ W es wl) (hs : starEach (.BinOp a .Add (.Constant (.str c) j cpos) pos :: es) X.env = (false, eval (.BinOp a .Add (.Constant (.str c) j cpos) pos) X.env) :: starEach es X.env := by rfl) :
    PAd X τ W (.BinOp a .Add (.Constant (.str c) j cpos) pos :: es) (wCons (wOp wAdd wa (wC (.str c))) wl) := by
  have h1 : PE1 X (.BinOp a .Add (.Constant (.str c) j cpos) pos) (lE X.K τ W (wOp wAdd wa (wC (.str c)))) := fun pins s σ H Q I h => by
    have h2 := l_op (K := X.K) (W := W) ok_add σ H Q h
    exact pe1_bin (c := c) or_add (ta := lE X.K τ W wa) ha pins s σ H Q I (lE_mono h2 fun v H' q => l_c (W := W) (fun _ => .str c) σ H' _ q)
  exact PA.imp (pa_cons1 h1 hr hs) l_cons
theorem t_rep (ho : PEd X τ W o wa) (he : PEd X τ W e wb) (hn : (decide (n < -(2 ^ 63 : Int)) || decide (n ≥ 2 ^ 63)) = false := by decide) (hyz : (y == z) = false := by decide) (hbase : attributeBase o "replace" X.env (eval o X.env) = eval o X.env := by rfl)
    (hfew : ((backTo cpos (starEach [.Constant (.str y) j1 c1, .Constant (.str z) j2 c2, .Constant (.int n) j3 c3] X.env)).all (fun x => !x.1) && (backToKw cpos (keywordEach [] X.env)).all (fun x => x.1.isSome)
      && decide ([.Constant (.str y) j1 c1, .Constant (.str z) j2 c2, Expr.Constant (.int n) j3 c3].length + ([] : List Keyword).length + (if ([] : List Keyword).isEmpty then 0 else 1) < 30)) = true := by rfl)
    (hline : (apos.endLine == cpos.line) = true := by rfl) :
    PETd X τ W (.BinOp (.Call (.Attribute o "replace" apos) [.Constant (.str y) j1 c1, .Constant (.str z) j2 c2, .Constant (.int n) j3 c3] [] cpos) .Add e pos) (wOp wAdd (wRepN y z n wa) wb) := fun pins s σ H Q h0 I h =>
  pet_op or_add (ta := lE X.K τ W (wRepN y z n wa)) (fun pins s σ H Q h0 I h => pet_repN ho hn hyz hbase hfew hline pins s σ H Q h0 I (l_repN σ H Q h)) he pins s σ H Q h0 I (l_op ok_add σ H Q h)
theorem passes_none : Passes (L2.CX X.prog X.w) X (fun _ _ _ => False) := fun _ _ _ _ _ _ _ ⟨_, _, _, _, _, _, _, _, _, _, _, _, z⟩ => z.elim
end
end DL
set_option Elab.async false
set_option autoImplicit false
set_option linter.all false
set_option maxRecDepth 100000
set_option maxHeartbeats 3900000
namespace L2
open PySem PySem.Spec PyProof.Rows
/-! ### several clauses `except x as n`: the library's rule for one such clause and its rule for several without a name, in one -/
abbrev Cl1 := Value × Nat × (Addr → Value → Option Addr → TS)
def endsAt (D : Ends) (i : Nat) : Ends := { nx := fun σ' H' => D.nx (σ'.set i none) H', rt := D.rt, bk := fun σ' H' => D.bk (σ'.set i none) H', ct := fun σ' H' => D.ct (σ'.set i none) H' }
def wManyA (K : PySem.W.Frag) (Wout : WX) (D : Ends) : List Cl1 → WX
  | [] => Wout
  | (c, i, ts) :: r => fun cls d σ H => ∃ b, PySem.W.exmOne K cls c = some b ∧ (b = true → ∀ a, H a = none → ts a cls d (endsAt D i) (σ.set i (some (.ref a))) H) ∧ (b = false → wManyA K Wout D r cls d σ H)
inductive HdsA (X : Cx) : List ExceptHandler → List Cl1 → Prop
  | nil : HdsA X [] []
  | cons {x n : Str} {c : Value} {i : Nat} {ts : Addr → Value → Option Addr → TS} {b₀ : Stmt} {suite : List Stmt} {np pos' : Pos} {hds : List ExceptHandler} {l : List Cl1} (hc : Names X x c) (hi : X.N[i]? = some n) (hln : X.env.kindOf n = some .local)
      (hsu : ∀ (a : Addr) (oe : Obj) (cls : Value) (d : Option Addr) (pn : List (Addr × Obj)), Zc cls d oe → (∃ vs, oe.data = .fields vs) → PSs (X.suite a ((a, oe) :: pn)) (b₀ :: suite) (ts a cls d)) (r : HdsA X hds l) :
      HdsA X (.ExceptHandler (some (.Name x np)) (some n) (b₀ :: suite) pos' :: hds) ((c, i, ts) :: l)
section
variable {X : Cx} {body : List Stmt} {h₀ : ExceptHandler} {hds : List ExceptHandler} {l : List Cl1} {pos : Pos} {tb : WX → TS} {Wo : WX}
theorem ps_try_manyA (hs : X.stack = X.env :: X.outer) (hf : X.env.frame = some X.env.locals) (hN : X.N.Nodup) (tk : Takes X Wo)
    (hb : ∀ (W : WX) (pn : List (Addr × Obj)) (xe : Value → Shared → Prop), Takes (X.tr pn xe) W → PassesOwn (model X.prog X.w) X.A X.env xe → PSs (X.tr pn xe) body (tb W)) (hh : HdsA X (h₀ :: hds) l) :
    PS X (.Try body (h₀ :: hds) [] [] pos) (fun D σ H => tb (wManyA X.K Wo D l) D σ H) := by
  constructor; intro pins s σ H D I h
  have ok := I.ok
  have hfr : X.A.frames = some (X.env :: X.outer) := by rw [ok.frames, hs]
  refine wpAny_Try_except (wpAny_mono ((hb (wManyA X.K Wo D l) (X.pn ++ pins) (fun e s₁ => wpAny (model X.prog X.w) X.A (noteFrame e X.env) (fun _ s₂ => wpAny (model X.prog X.w) X.A (setFlight e none) (fun _ s₃ => wpAny (model X.prog X.w) X.A (handleBy e X.env (h₀ :: hds)) (SP X pins D) X.xe s₃) X.xe s₂) X.xe s₁) (fun u s' xx => ?_) PassesOwn.looking).run [] s σ H D (I.toTry _) h) (fun f s1 hsp => ?_) (fun e s1 he => he))
  · obtain ⟨a, B, sI, pins', σ', H', cls, d, rfl, J', nb, up, sky, na, os, ag, wi⟩ := xx
    have J : Inv X pins σ' H' sI := J'.ofTry ok
    have sky' : Sky B (X.env :: X.outer) a (Zc cls d) X.env.locals s'.heap := by rw [← hs]; exact sky
    show wpAny (model X.prog X.w) X.A (noteFrame (.ref a) X.env) _ _ _
    refine Sky.land Zc.steady hfr hf sky' fun h3 fl3 up3 => ?_
    have J3 : Inv X pins σ' H' { s' with heap := h3 } := J.landed nb fl3.1 (up.trans up3) os ag
    obtain ⟨oe3, vs3, he3, hz3, hd3⟩ := fl3.there
    have nfr : a ∉ frs (X.env :: X.outer) := fun hm => by
      obtain ⟨_, o', e', hnf⟩ := fl3.2.2.1.mem hm
      rw [he3] at e'; cases e'; exact hnf _ hd3
    have nL : a ≠ X.env.locals := fun z => nfr (List.mem_filterMap.mpr ⟨X.env, List.mem_cons_self, by rw [hf, z]⟩)
    have nF : a ∉ X.fs := fun hm => by
      obtain ⟨e, he, q⟩ := List.mem_filterMap.mp hm
      exact nfr (List.mem_filterMap.mpr ⟨e, List.mem_cons_of_mem _ he, q⟩)
    have S3 := J3.suite he3 hd3 na nL nF
    have go : ∀ {hds' : List ExceptHandler} {l' : List Cl1}, HdsA X hds' l' → wManyA X.K Wo D l' cls d σ' H' → wpAny (model X.prog X.w) X.A (handleBy (.ref a) X.env hds') (SP X pins D) X.xe { s' with heap := h3 } := by
      intro hds' l' hk
      induction hk with
      | nil =>
        intro wi
        refine wpAny_handleBy_nil ?_
        obtain ⟨k1, k2, k3, oe, vs, T, oT, ts', he, hz, hd, h1, hr⟩ := id fl3
        unfold PySem.passOn
        refine wpAny_bind (wpAny_field he hd h1 ?_)
        rw [if_neg (show ¬ ((Value.ref T == Value.none) = true) from by simp)]
        have fin : wpAny (model X.prog X.w) X.A (setFlight (.ref a) X.env.frame) (fun _ s4 => wpAny (model X.prog X.w) X.A (throw (.ref a) : Sem Flow) (SP X pins D) X.xe s4) X.xe { s' with heap := h3 } := by
          rw [hf]
          refine HandSPX.setFlight_upZ fl3 fun h4 hh4 up4 => wpAny_throw (tk _ _ ?_)
          exact ⟨a, B, sI, pins, σ', H', cls, d, rfl, J, nb, (up.trans up3).trans up4, .inr (.inr (by rw [hs]; exact hh4)), na, os, ag, wi⟩
        first | exact wpAny_bind (wpAny_pure (wpAny_bind fin)) | exact wpAny_bind fin
      | @cons x n c i ts b₀ suite np pos' hds2 l2 hc hi hln hsu r ih =>
        intro wi
        obtain ⟨b, hb1, hyes, hno⟩ := wi
        refine wpAny_handleBy_cons (codeAny_handlers_test ?_) (by intro q; cases q)
        have LT : PySem.W.Looks (model X.prog X.w) h3 (typeOf (.ref a)) cls := fun A Q E s k q => wpAny_typeOf_ref (k _ _ he3) (by rw [hz3.1]; exact q)
        have LM := PySem.W.exm_one (M := model X.prog X.w) (J3.kIn) LT hb1
        have test : ∀ {Q : Value → Shared → Prop} {E : Value → Shared → Prop}, Q c { s' with heap := h3 } → wpAny (model X.prog X.w) (X.A.mark (some (.ref a))) (eval (.Name x np) X.env) Q E { s' with heap := h3 } := fun {Q E} q => by
          obtain ⟨hg, hdbg, hm | ⟨hm, hv, hnn⟩⟩ := hc
          · exact ld_glob (X := X.suite a ((a, oe3) :: (X.pn ++ pins))) S3 hg hm q hdbg
          · exact ld_blt (X := X.suite a ((a, oe3) :: (X.pn ++ pins))) S3 hg hm hv q hnn hdbg
        refine test (LM.here ?_)
        cases b with
        | true =>
          refine codeAny_handlers_suite_as (HandSPX.lands_againZ fl3 fun h4 fl4 up4 => ?_)
          have J4 : Inv X pins σ' H' { s' with heap := h4 } := J.landed nb fl4.1 ((up.trans up3).trans up4) os ag
          obtain ⟨oe4, vs4, he4, hz4, hd4⟩ := fl4.there
          have S4 := J4.suite he4 hd4 na nL nF
          refine store_ok (X := X.suite a ((a, oe4) :: (X.pn ++ pins))) (v := .ref a) S4 hN hi (.inl hln) rfl (fun s5 S5 => ?_) (.inr hln)
          refine wpAny_mono ((hsu a oe4 cls d (X.pn ++ pins) hz4 ⟨_, hd4⟩).run [] s5 _ H' _ S5 (hyes rfl a na)) (fun f s6 hsp => ?_) (fun _ _ z => False.elim z)
          have fin : ∀ {σ6 : St} {H6 : Hp} {Q : Shared → Prop}, Inv (X.suite a ((a, oe4) :: (X.pn ++ pins))) [] σ6 H6 s6 → (∀ s7, Inv X pins (σ6.set i none) H6 s7 → Q s7) → wpAny (model X.prog X.w) X.A (do bindName X.env n .none; unbindBehindTheSuite X.env n pos') (fun _ s7 => Q s7) X.xe s6 := fun {σ6 H6 Q} S6 hq => gone_ok (S6.unsuite ok) hN hi hln hq
          match f, hsp with
          | .next, ⟨σ6, H6, S6, q6⟩ => exact fin S6 fun s7 J7 => ⟨_, _, J7, q6⟩
          | .brk, ⟨σ6, H6, S6, q6⟩ => exact fin S6 fun s7 J7 => ⟨_, _, J7, q6⟩
          | .cont, ⟨σ6, H6, S6, q6⟩ => exact fin S6 fun s7 J7 => ⟨_, _, J7, q6⟩
          | .ret u, ⟨v6, σ6, H6, S6, r6, q6⟩ => exact fin S6 fun s7 J7 => ⟨_, _, _, J7, r6, q6⟩
        | false =>
          show wpAny _ X.A (handleBy (.ref a) X.env hds2) _ _ _
          exact ih (hno rfl)
    exact go hh wi
  · match f, hsp with
    | .next, ⟨σ', H', J', q⟩ => exact wpAny_execs_nil ⟨σ', H', J'.ofTry ok, q⟩
    | .brk, ⟨σ', H', J', q⟩ => exact ⟨σ', H', J'.ofTry ok, q⟩
    | .cont, ⟨σ', H', J', q⟩ => exact ⟨σ', H', J'.ofTry ok, q⟩
    | .ret u, ⟨v, σ', H', J', r, q⟩ => exact ⟨v, σ', H', J'.ofTry ok, r, q⟩
end
end L2
namespace DL
open L2 PyProof.Rows PySem PySem.Spec
variable {τ : Tb}
/-! what the clauses mean for data -/
abbrev Cl2 := Value × Nat × (Addr → Value → Option Addr → WS)
def deAt (Δ : DE) (i : Nat) : DE := { Δ with nx := fun ρ2 => Δ.nx (ρ2.set i .un), bk := fun ρ2 => Δ.bk (ρ2.set i .un), ct := fun ρ2 => Δ.ct (ρ2.set i .un) }
def xcM (K : Fg) (Δ : DE) : List Cl2 → XC
  | [] => Δ.xc
  | (c, i, ws) :: r => fun C f d ρ1 => ∃ b, exmD K C c = some b ∧ (b = true → ∀ a dd, ws a (.ref C) (some dd) (ρ1.set i (.val (.exn (.ref a) dd f d))) (deAt Δ i)) ∧ (b = false → xcM K Δ r C f d ρ1)
def wTryM (K : Fg) (wb : WS) (cl : List Cl2) : WS := fun ρ Δ => wb ρ { Δ with xc := xcM K Δ cl }
def cl1 (K : Fg) (τ : Tb) (W : WX) : List Cl2 → List Cl1
  | [] => []
  | (c, i, ws) :: r => (c, i, fun a cls d => lS K τ W (ws a cls d)) :: cl1 K τ W r
section
variable {K : Fg} {W : WX} {wb : WS} {cl : List Cl2}
theorem l_tryM : ∀ D σ H, lS K τ W (wTryM K wb cl) D σ H → (fun D σ H => lS K τ (wManyA K W D (cl1 K τ W cl)) wb D σ H) D σ H := by
  rintro D σ H ⟨ρ, S, F, Δ, e, hw, hx, h1, h2, h3, h4, h5⟩
  refine ⟨ρ, S, F, _, e, hw, ?_, h1, h2, h3, h4, h5⟩
  suffices go : ∀ l : List Cl2, XOk K τ F (wManyA K W D (cl1 K τ W l)) S (xcM K Δ l) from go cl
  intro l
  induction l with
  | nil => exact hx
  | cons p l ih =>
    obtain ⟨c, i, ws⟩ := p
    intro C f d v dd ρ' S' σ' H' q s' e' hd hv
    obtain ⟨b, hb, yes, no⟩ := q
    refine ⟨b, hb, fun hy a ha => ?_, fun hn => ih C f d v dd ρ' S' σ' H' (no hn) s' e' hd hv⟩
    refine ⟨_, S', F, _, e'.set (v := .ref a) (i := i) (.exn (v := .ref a) hd hv), yes hy a dd, hx.mono s', fun ρ2 S2 σ2 H2 a b c => h1 _ S2 _ H2 a (s'.trans b) (c.unset i), fun d v ρ2 S2 σ2 H2 a b c f => h2 d v ρ2 S2 σ2 H2 a (s'.trans b) c f,
      fun ρ2 S2 σ2 H2 a b c => h3 _ S2 _ H2 a (s'.trans b) (c.unset i), fun ρ2 S2 σ2 H2 a b c => h4 _ S2 _ H2 a (s'.trans b) (c.unset i), fun l od o ρ2 S2 σ2 H2 a b => h5 l od o ρ2 S2 σ2 H2 a (s'.trans b)⟩
inductive HdsD (X : Cx) (τ : Tb) (W : WX) : List ExceptHandler → List Cl2 → Prop
  | nil : HdsD X τ W [] []
  | cons {x n : Str} {c : Value} {i : Nat} {ws : Addr → Value → Option Addr → WS} {b₀ : Stmt} {suite : List Stmt} {np pos' : Pos} {hds : List ExceptHandler} {l : List Cl2} (hc : Names X x c)
      (hsu : ∀ (a : Addr) (oe : Obj) (cls : Value) (d : Option Addr) (pn : List (Addr × Obj)), Zc cls d oe → (∃ vs, oe.data = .fields vs) → PSs (X.suite a ((a, oe) :: pn)) (b₀ :: suite) (lS X.K τ W (ws a cls d))) (r : HdsD X τ W hds l)
      (hi : X.N[i]? = some n := by rfl) (hln : X.env.kindOf n = some .local := by rfl) :
      HdsD X τ W (.ExceptHandler (some (.Name x np)) (some n) (b₀ :: suite) pos' :: hds) ((c, i, ws) :: l)
theorem HdsD.hds {X : Cx} {W : WX} : ∀ {hds : List ExceptHandler} {l : List Cl2}, HdsD X τ W hds l → HdsA X hds (cl1 X.K τ W l)
  | _, _, .nil => .nil
  | _, _, .cons hc hsu r hi hln => .cons hc hi hln hsu r.hds
theorem s_tryM {X : Cx} {W : WX} {k : Nat} {body : List Stmt} {h₀ : ExceptHandler} {hds : List ExceptHandler} {cl : List Cl2} {pos : Pos} {wb : WS} (hN : X.N.Nodup) (o : Cok X W k)
    (hb : ∀ (W' : WX) (pn : List (Addr × Obj)) (xe : Value → Shared → Prop), Cok (X.tr pn xe) W' k → PassesOwn (model X.prog X.w) X.A X.env xe → PSs (X.tr pn xe) body (lS X.K τ W' wb)) (hh : HdsD X τ W (h₀ :: hds) cl)
    (hs : X.stack = X.env :: X.outer := by rfl) (hf : X.env.frame = some X.env.locals := by rfl) : PS X (.Try body (h₀ :: hds) [] [] pos) (lS X.K τ W (wTryM X.K wb cl)) :=
  PS.imp (ps_try_manyA (tb := fun W' => lS X.K τ W' wb) hs hf hN o.tk (fun W' pn xe tk hp => hb W' pn xe (o.tr pn xe tk) hp) hh.hds) l_tryM
end
end DL
set_option Elab.async false
set_option autoImplicit false
set_option linter.all false
set_option maxRecDepth 100000
set_option maxHeartbeats 3900000
namespace DL
open L2 LamX PyProof.Rows PySem PySem.Spec
variable {τ : Tb}
/-! ### a lambda without parameters, handed to a def -/
section
variable {X : Cx} {pins : List (Addr × Obj)} {σ : L2.St} {H : Hp} {s : Shared}
/-- the library's making of a lambda, with one word more: all but the table stays -/
theorem lam_mk {T : List (Addr × Str)} {c P : Addr} {params : Arguments} {body : Expr} {scope : Scope} {pos : Pos} {E Q : Value → Shared → Prop} (I : Inv X pins σ H s) (TB : TabB X.base X.mg c P) (hc0 : X.env.code = .ref c)
    (hm : (P, X.env.qual ++ "<lambda>") ∈ T) (hu : ∀ p ∈ T, p.1 = P → p.2 = X.env.qual ++ "<lambda>") (hT : Tabs T H) (hd : defaultsOf params X.env = ([], [])) (hf : ∀ y ∈ scope.names, y.2 = .free → ∃ c, X.env.cells.lookup y.1 = some c)
    (h : ∀ (f c' : Addr) (pm ctv : Value) (H1 : Hp) (s' : Shared), Inv X pins σ H1 s' → (∀ b o, b ≠ P → H b = some o → H1 b = some o) → Tabs T H1 →
      s'.heap.get? f = some (PySem.W.kla_obj "<lambda>" (X.env.qual ++ "<lambda>") params body scope (cloFrom X.env.cells scope.names []) pm c' ctv) → H1 f = none → f ∉ frs X.stack → H1 c' = some (CodeO c' (X.env.qual ++ "<lambda>")) → Q (.ref f) s') :
    wpAny (model X.prog X.w) X.A (eval (.Lambda params body scope pos) X.env) Q E s := by
  obtain ⟨ps, hP, ht, ha⟩ := hT _ hm
  have bP : s.heap.BuiltinsAt X.mg P := TB.bm.keeps I.bk
  have hP' : s.heap.get? P = some { cls := .none, data := .fields ps } := I.hok P _ hP
  have nofr : ∀ f, s.heap.objs.size ≤ f → f ∉ frs X.stack := fun f hf z => (List.mem_cons.mp (I.stkSub _ z)).elim (fun e => absurd I.lt (by rw [← e]; exact Nat.not_lt.mpr hf)) fun e => I.nofs hf e
  refine PySem.W.kla_eval hd ?_
  cases hc : codeAmong pos ps.toList with
  | none =>
    refine PySem.W.kla_makeFunction (mg := X.mg) (c := c) (P := P) (ps := ps) (closure_ok hf) I.ok.glob (I.mod.glob.keeps I.bk) hc0 (TB.code.keeps I.bk) hP' ht hc TB.gP bP fun c' ctv h' tk hx hge hlt hrec htb => ?_
    obtain ⟨c2, oc, vs, t, e2, hoc, hd, hv⟩ := hrec
    cases e2
    have hsz : s.heap.objs.size ≤ h'.objs.size := Nat.le_trans hge (Nat.le_of_lt hlt)
    have nC : H c' = none := I.hok.fresh hge
    have I1 := inv_table (t' := tk) (more := #[rawInt pos.line, rawInt pos.col, .ref c']) (h' := h'.push (PySem.W.kla_obj "<lambda>" (X.env.qual ++ "<lambda>") params body scope (cloFrom X.env.cells scope.names []) ((X.mg "__name__").getD .none) c' ctv)) I hP
      (fun b o hb e => Heap.get?_push_of_some _ (hx b o hb e)) (Heap.get?_push_of_some _ htb) hge ⟨oc, vs, t, Heap.get?_push_of_some _ hoc, hd, hv⟩
    have keep : ∀ b o, b ≠ P → H b = some o → upd (upd H P (.tbl (ps ++ #[rawInt pos.line, rawInt pos.col, .ref c']))) c' (CodeO c' (X.env.qual ++ "<lambda>")) b = some o := fun b o n e => by rw [upd_ne (ne_of_none e nC), upd_ne n]; exact e
    have eL : (ps ++ #[rawInt pos.line, rawInt pos.col, .ref c']).toList = ps.toList ++ [rawInt pos.line, rawInt pos.col, .ref c'] := by simp
    have cP : ∀ {c0 q}, H c0 = some (CodeO c0 q) → c0 ≠ P := fun {c0 q} e z => by rw [z, hP] at e; exact codeO_ne _ (Option.some.inj e).symm
    refine h h'.objs.size c' ((X.mg "__name__").getD .none) ctv _ _ I1 keep (fun p hp => ?_) (Heap.get?_push_size _ rfl) ?_ (nofr _ hsz) upd_same
    · by_cases hb : p.1 = P
      · rw [hu p hp hb, hb]
        refine ⟨_, by rw [upd_ne (ne_of_none hP nC), upd_same], by rw [eL]; exact PySem.TriplesOk_snoc _ _ _ _ ht, fun p' cv hcv => ?_⟩
        rw [eL] at hcv
        rcases among_app _ ht hcv with z | z
        · obtain ⟨c0, e1, e2⟩ := ha p' cv z; exact ⟨c0, e1, keep _ _ (cP e2) e2⟩
        · exact ⟨c', z, upd_same⟩
      · obtain ⟨ps', a1, a2, a3⟩ := hT p hp
        refine ⟨ps', by rw [upd_ne (ne_of_none a1 nC), upd_ne hb]; exact a1, a2, fun p' cv hcv => ?_⟩
        obtain ⟨c0, e1, e2⟩ := a3 p' cv hcv; exact ⟨c0, e1, keep _ _ (cP e2) e2⟩
    · rw [upd_ne (Nat.ne_of_gt hlt), upd_ne (Nat.ne_of_gt (Nat.lt_of_lt_of_le (Heap.lt_size hP') hsz))]; exact I.hok.fresh hsz
  | some cv =>
    obtain ⟨c', e, hco⟩ := ha pos cv hc
    subst e
    refine PySem.W.kla_makeFunctionHit (mg := X.mg) (c := c) (P := P) (ps := ps) (closure_ok hf) I.ok.glob (I.mod.glob.keeps I.bk) hc0 (TB.code.keeps I.bk) hP' ht hc bP fun ctv h' tk hx hsz => ?_
    have I1 : Inv X pins σ H { s with heap := h'.push (PySem.W.kla_obj "<lambda>" (X.env.qual ++ "<lambda>") params body scope (cloFrom X.env.cells scope.names []) ((X.mg "__name__").getD .none) c' ctv), toks := tk } := I.kept fun b o e => Heap.get?_push_of_some _ (hx b o e)
    exact h h'.objs.size c' ((X.mg "__name__").getD .none) ctv H _ I1 (fun _ _ _ e => e) hT (Heap.get?_push_size _ rfl) (I.hok.fresh hsz) (nofr _ hsz) hco
/-- where a lambda's body runs -/
theorem lam_cok {A : Around} {outer : List Env} {E : XK} {scope : Scope} {f c' : Addr} {k : Nat} (hg : A.guards = some []) (hr : Room k (A.deeper (lamEnv X scope s.heap.objs.size f c'))) : Cok (lamCx X A outer s H E scope f c') (wishOf E) k := ⟨takes_of rfl rfl rfl rfl, hg, hr⟩
/-- x(), in the def that got the lambda -/
theorem lam_act {Eg : XK} {Ng : List Str} {qg : Str} {sg : Scope} {g f c' : Addr} {cdg pm ctv : Value} {params : Arguments} {body : Expr} {scope : Scope} {k : Nat} {a : Str} {pn : List (Addr × Obj)} {xe : Value → Shared → Prop} {W : WX} {tb : XK → TE} {p1 p2 : Pos}
    (I : Inv X pins σ H s) (L : LamS X.env.scope scope) (hf : s.heap.get? f = some (PySem.W.kla_obj "<lambda>" (X.env.qual ++ "<lambda>") params body scope (cloFrom X.env.cells scope.names []) pm c' ctv)) (hfn : H f = none) (hfr : f ∉ frs X.stack)
    (hbind : bindArgs (PySem.W.kla_fn "<lambda>" (X.env.qual ++ "<lambda>") params body scope (cloFrom X.env.cells scope.names []) pm (.ref c') ctv) ⟨[], []⟩ = pure []) (gd : X.A.guards = some [])
    (tk : Takes ((cxOf (L2.CX X.prog X.w) X.prog X.w X.K X.mg X.base Ng qg sg g cdg X.A X.stack s H Eg).tr pn xe) W) (hr : Room (k + 1) (X.A.deeper (envOfC qg sg s.heap.objs.size g cdg)))
    (hbody : ∀ (A : Around) (outer : List Env) (s : Shared) (H : Hp) (E : XK), A.guards = some [] → Room k (A.deeper (lamEnv X scope s.heap.objs.size f c')) → PE (lamCx X A outer s H E scope f c') body (tb E))
    (hN : Ng[0]? = some a) (hv : Vis sg a) (hd : (a == ("__debug__" : Str)) = false := by decide) (hcd : (a == ("__classdict__" : Str)) = false := by decide) :
    PE ((cxOf (L2.CX X.prog X.w) X.prog X.w X.K X.mg X.base Ng qg sg g cdg X.A X.stack s H Eg).tr pn xe) (.Call (.Name a p1) [] [] p2)
      (fun σZ HZ Q => σZ[0]? = some (some (.ref f)) ∧ HZ c' = some (CodeO c' (X.env.qual ++ "<lambda>")) ∧ tb (fun cls d H' => W cls d σZ H') σ HZ Q) := by
  constructor; intro pZ sZ σZ HZ Q IZ h
  obtain ⟨hs, hc, ht⟩ := h
  refine wpAny_Call_Name_kw (thn ((pe_var (pos := p1) (i := 0) hN hv hd hcd).run pZ sZ σZ HZ (fun v H1 => v = .ref f ∧ H1 = HZ) IZ ⟨.ref f, hs, rfl, rfl⟩) fun u s1 ⟨v, H1, I1, r1, ev, eH⟩ => ?_)
  subst ev; rw [eH] at I1
  obtain rfl : u = Value.ref f := r1
  have of1 : s1.heap.get? f = some (PySem.W.kla_obj "<lambda>" (X.env.qual ++ "<lambda>") params body scope (cloFrom X.env.cells scope.names []) pm c' ctv) := I1.base.keep f _ hf hfn hfr (fun z => nomatch (show f ∈ ([] : List Addr) from z))
  refine PySem.W.callWith_F0 ⟨_, _, _, _, of1⟩ ?_
  have un : Un (frs X.stack) [] H HZ s.heap s1.heap := I1.base
  obtain ⟨⟨oc, vs, t, hoc, hdc, hvc⟩, _, _⟩ := I1.hok c' _ hc
  have rc : codeAny (model X.prog X.w) (X.A.deeper (envOfC qg sg s.heap.objs.size g cdg)) (.call (.ref f) ⟨[], []⟩) (CR (L2.CX X.prog X.w) (envOfC qg sg s.heap.objs.size g cdg :: X.stack) X.prog X.w HZ s1 Q fun cls d H' => W cls d σZ H') s1 := by
    refine PySem.W.kla_callFunE hr.depth of1 rfl L.co L.gen rfl ⟨c', oc, vs, t, rfl, hoc, hdc, hvc⟩ ?_
    rw [hbind]
    refine wpAny_pure (wpAny_newFunctionEnv (fun y hy => (L.own y hy).2) (fun y hy => absurd hy (by simp)) (fun h₁ hns hsb => ⟨I1.nolimit.fresh _ hsb, ?_⟩) L.kind)
    show codeAny _ _ (.expr body (lamEnv X scope s1.heap.objs.size f c')) _ _
    have kp : ∀ b o, s1.heap.get? b = some o → h₁.get? b = some o := fun b o e => hsb.extBut b o (Nat.ne_of_lt (Heap.lt_size e)) (Heap.get?_push_of_some _ e)
    have J : Inv (lamCx X (X.A.deeper (envOfC qg sg s.heap.objs.size g cdg)) (envOfC qg sg s.heap.objs.size g cdg :: X.stack) s1 HZ (fun cls d H' => W cls d σZ H') scope f c') [] σ HZ { s1 with heap := h₁, toks := s1.toks + ([] : List (Str × Value)).length } :=
      lam_start2 I L I1.env0 hr.hd un hns kp
    refine PySem.W.kla_codeExpr (wpAny_mono ((hbody (X.A.deeper (envOfC qg sg s.heap.objs.size g cdg)) (envOfC qg sg s.heap.objs.size g cdg :: X.stack) s1 HZ _ gd (hr.deeper _)).run [] _ _ HZ Q J ht) (fun v s' hq => ?_) fun e s' hq => hq)
    obtain ⟨w', H', J', rv, q⟩ := hq
    exact ⟨w', H', J'.os, J'.bare, J'.base, J'.hok, rv, q⟩
  refine wpAny_call (codeAny_mono rc fun r s' hq => ?_)
  match r, hq with
  | .error e, hq => exact tk e s' (XE.of_call I1 (fun cls d H' h => h) hq)
  | .ok (.ret u), hq => exact I1.after hq
  | .ok .next, hq => exact hq.elim
  | .ok .brk, hq => exact hq.elim
  | .ok .cont, hq => exact hq.elim
end
end DL
set_option Elab.async false
set_option autoImplicit false
set_option linter.all false
set_option maxRecDepth 100000
set_option maxHeartbeats 3900000
namespace DL
open L2 LamX PyProof.Rows PySem PySem.Spec
variable {τ : Tb}
/-- what is one's own is not looked at -/
def hideR (ρ : Rho) : Rho := ρ.map fun s => match s with
  | .own _ _ => .un
  | s => s
theorem hideR_val {ρ : Rho} {i : Nat} {d : D} (h : (hideR ρ)[i]? = some (Sl.val d)) : ρ[i]? = some (Sl.val d) := by
  unfold hideR at h
  rw [List.getElem?_map] at h
  cases e : ρ[i]? with
  | none => rw [e] at h; cases h
  | some s => rw [e] at h; cases s <;> first | exact h | cases h
theorem hideR_own {ρ : Rho} {i : Nat} {l : Addr} {od : OD} : (hideR ρ)[i]? ≠ some (Sl.own l od) := fun h => by
  unfold hideR at h
  rw [List.getElem?_map] at h
  cases e : ρ[i]? with
  | none => rw [e] at h; cases h
  | some s => rw [e] at h; cases s <;> cases h
section
variable {K : Fg} {S F H : Hp} {ρ : Rho} {σ : L2.St}
/-- a later heap in which all that never changes is there still -/
theorem ER.hide {S' H' : Hp} {τ' : Tb} {F' : Hp} (e : ER K τ S F H ρ σ) (s : Same S S') (ex : Same S' H') (t : TbOk τ' S' F' H') : ER K (tb0 τ'.t) S' (others τ'.t S' H' fun _ => False) H' (hideR ρ) σ := by
  refine ⟨by unfold hideR; rw [List.length_map]; exact e.len, ex, fun a o h => ?_, fun i d h => ?_, fun i l od h => absurd h hideR_own, fun i j l o o' h _ => absurd h hideR_own, t.oth⟩
  · obtain ⟨_, a1, a2⟩ := others_inv h; exact ⟨a2, a1⟩
  · obtain ⟨v, h1, h2⟩ := e.val i d (hideR_val h); exact ⟨v, h1, h2.mono s⟩
/-- a table has grown -/
theorem ER.tabs {H1 : Hp} {P : Addr} {q : Str} (e : ER K τ S F H ρ σ) (hm : (P, q) ∈ τ.t) (k : ∀ b o, b ≠ P → H b = some o → H1 b = some o) (T1 : Tabs τ.t H1) : ER K τ S F H1 ρ σ := by
  refine ⟨e.len, fun b u h => k b u (fun z => ?_) (e.ex b u h), fun b u h => ?_, e.val, fun i l od h => ?_, e.dis, ⟨T1, e.tb.nS, e.tb.nF, e.tb.ks, e.tb.kf⟩⟩
  · rw [z, e.tb.nS _ hm] at h; cases h
  · obtain ⟨a1, a2⟩ := e.fr b u h
    exact ⟨k b u (fun z => by rw [z, e.tb.nF _ hm] at h; cases h) a1, a2⟩
  · have nl := e.nTb h
    obtain ⟨a1, a2, a3, o, a4, a5⟩ := e.own i l od h
    exact ⟨a1, a2, a3, o, k l o (fun z => nl (z ▸ List.mem_map.mpr ⟨_, hm, rfl⟩)) a4, a5⟩
end
def wAsk (f : Addr) (tl : (D → Prop) → (Addr → Str → D → Prop) → Prop) : WE := fun ρ χ Φ => ρ[0]? = some (.val (.raw (.ref f))) ∧ tl (fun d => Φ d ρ) fun C fl d => χ C fl d ρ
def wLam (xb : WE → WS) (n : Nat) (wb : WE) : WE := fun ρ χ Φ => ∀ f : Addr, xb (wAsk f fun Ψ Ξ => wb (hideR ρ) (fun C fl d _ => Ξ C fl d) fun d _ => Ψ d) (.val (.raw (.ref f)) :: List.replicate n .un)
  { nx := fun _ => Φ .non ρ, rt := fun d _ => Φ d ρ, bk := fun _ => False, ct := fun _ => False, xc := fun C fl d _ => χ C fl d ρ }
noncomputable abbrev tbL (τ : Tb) (S H : Hp) : Tb := ⟨τ.t, S, others τ.t S H fun _ => False⟩
theorem l_ask {K : Fg} {S F H1 : Hp} {ρ : Rho} {σ : L2.St} {f c' : Addr} {q : Str} {wb : WE} {W' : WX} (e1 : ER K τ S F H1 ρ σ) (hco : H1 c' = some (CodeO c' q)) (σZ : L2.St) (HZ : Hp) (Q : VK)
    (h : lE K (tbL τ S H1) W' (wAsk f fun Ψ Ξ => wb (hideR ρ) (fun C fl d _ => Ξ C fl d) fun d _ => Ψ d) σZ HZ Q) :
    σZ[0]? = some (some (.ref f)) ∧ HZ c' = some (CodeO c' q) ∧ lE K (tb0 τ.t) (wishOf fun cls d H' => W' cls d σZ H') wb σ HZ Q := by
  obtain ⟨ρz, Sz, Fz, χz, Φz, ez, ⟨h0, hw⟩, hxz, hpz⟩ := h
  have sS : Same S Sz := fun a o h => ez.tb.ks a o h
  refine ⟨?_, ?_, hideR ρ, Sz, others τ.t Sz HZ (fun _ => False), _, _, e1.hide (τ' := tbL τ S H1) sS ez.ex ez.tb, hw, fun C fl d v dd ρ' S' σ' H' hq s' er hd iv => ?_, fun v d ρ' S' H' hq s' iv er => ?_⟩
  · obtain ⟨v, a1, a2⟩ := ez.val 0 _ h0
    cases a2; exact a1
  · cases hS : S c' with
    | some u =>
      have z := e1.ex c' u hS
      rw [hco] at z
      rw [← Option.some.inj z] at hS
      exact ez.ex _ _ (sS _ _ hS)
    | none =>
      have nt : c' ∉ τ.t.map (·.1) := fun z => by
        obtain ⟨p, hp, rfl⟩ := List.mem_map.mp z
        obtain ⟨ps, h6⟩ := e1.tb.at hp
        rw [hco] at h6; exact codeO_ne ps (Option.some.inj h6)
      exact (ez.fr _ _ (ez.tb.kf c' _ (others_of (p := fun _ => False) nt (fun z => z) hS hco))).1
  · exact hxz C fl d v dd ρz S' σZ H' hq s' (ez.back s' er.ex er.tb.tab er.tb.nS (fun a o n a1 a2 => others_of n (fun z => z) a1 a2) er.fr) hd iv
  · exact hpz v d ρz S' H' hq s' iv (ez.back s' er.ex er.tb.tab er.tb.nS (fun a o n a1 a2 => others_of n (fun z => z) a1 a2) er.fr)
theorem e_lam {tt : List (Addr × Str)} {X : Cx} {W : WX} {x a : Str} {g c P : Addr} {gfd : FuncData} {pg : Arguments} {bg : List Stmt} {sg : Scope} {Ng : List Str} {k n : Nat} {xb : WE → WS} {wb : WE} {params : Arguments} {body : Expr} {scope : Scope} {p lpos pos : Pos}
    (o : Cok X W (k + 2)) (FD : FunD X.K x x pg bg sg [] [] g gfd) (Sg : FnScope Ng [a] sg) (U : Dn X.K X.mg x g gfd [a] 1) (TB : TabB X.base X.mg c P) (hc0 : X.env.code = .ref c) (hm : (P, X.env.qual ++ "<lambda>") ∈ tt) (hu : ∀ p ∈ tt, p.1 = P → p.2 = X.env.qual ++ "<lambda>")
    (L : LamS X.env.scope scope)
    (hcal : ∀ (cdv : Value) (s : Shared) (H : Hp) (E : XK) (τ' : Tb) (wa : WE), τ'.t = tt → Cok (cxOf (L2.CX X.prog X.w) X.prog X.w X.K X.mg X.base Ng x sg g cdv X.A X.stack s H E) (wishOf E) (k + 1) →
      (∀ (W' : WX) (pn : List (Addr × Obj)) (xe : Value → Shared → Prop) (p1 p2 : Pos), Takes ((cxOf (L2.CX X.prog X.w) X.prog X.w X.K X.mg X.base Ng x sg g cdv X.A X.stack s H E).tr pn xe) W' →
        PE ((cxOf (L2.CX X.prog X.w) X.prog X.w X.K X.mg X.base Ng x sg g cdv X.A X.stack s H E).tr pn xe) (.Call (.Name a p1) [] [] p2) (lE X.K τ' W' wa)) →
      PSs (cxOf (L2.CX X.prog X.w) X.prog X.w X.K X.mg X.base Ng x sg g cdv X.A X.stack s H E) bg (lS X.K τ' (wishOf E) (xb wa)))
    (hbody : ∀ (A : Around) (outer : List Env) (s : Shared) (H : Hp) (E : XK) (f c' : Addr), Cok (lamCx X A outer s H E scope f c') (wishOf E) k → PE (lamCx X A outer s H E scope f c') body (lE X.K (tb0 tt) (wishOf E) wb))
    (hNg : Ng[0]? = some a := by rfl) (hn : Ng.length = n + 1 := by rfl) (hva : Vis sg a := by first | exact .inl rfl | exact .inr (.inl rfl) | exact .inr (.inr rfl)) (hg : Gl X x := by rfl) (hd : defaultsOf params X.env = ([], []) := by rfl)
    (hbind : ∀ (q : Str) (cl : List (Str × Addr)) (pm cv ctv : Value), bindArgs (PySem.W.kla_fn "<lambda>" q params body scope cl pm cv ctv) ⟨[], []⟩ = pure [] := by intros; rfl)
    (hdb : (x == ("__debug__" : Str)) = false := by decide) (hd2 : (a == ("__debug__" : Str)) = false := by decide) (hcd2 : (a == ("__classdict__" : Str)) = false := by decide) (ht : τ.t = tt := by rfl) :
    PEd X τ W (.Call (.Name x p) [.Lambda params body scope lpos] [] pos) (wLam xb n wb) := by
  subst ht
  constructor; rintro pins s σ H Q I ⟨ρ, S, F, χ, Φ, e, hw, hx, hp⟩
  obtain ⟨_, _, dV, kV, doc, pm, an, cdv, ct, _, rfl, lk, hcd, _, _⟩ := FD.ex
  refine wpAny_Call_Name_kw (ld_glob I hg U.m ?_ hdb)
  refine PySem.W.callWith_K (h₀ := X.base) I.ok.mod.kin U.kp ?_ (by rfl) (by rfl)
  show wpAny _ _ (spliced ((false, eval (.Lambda params body scope lpos) X.env) :: backTo pos (starEach [] X.env))) _ _ s
  refine Calls.spliced_cons (lam_mk I TB hc0 hm hu e.tb.tab hd (L.has I.ok) fun f c' pm' ctv H1 s' I1 kp T1 hf hfn hfr hco => ?_)
  refine Calls.spliced_nil ⟨I1.kIn, ?_⟩
  have e1 : ER X.K τ S F H1 ρ σ := e.tabs hm kp T1
  have bt := U.kb.to s' [Value.ref f] [] I1.kIn rfl rfl
  have rc : codeAny (model X.prog X.w) X.A (.call (.ref g) ⟨[.ref f], []⟩) (CR (L2.CX X.prog X.w) X.stack X.prog X.w H1 s' Q fun cls d H' => W cls d σ H') s' := by
    refine run_ofS (N := Ng) (ps := [a]) (us := [.ref f]) (vs := [.ref f]) lk hcd Sg o.rm I1.env0 bt (.cons rfl .nil) rfl fun hr' => ?_
    refine ⟨_, hcal cdv s' H1 (fun cls d H' => W cls d σ H') (tbL τ S H1) (wAsk f fun Ψ Ξ => wb (hideR ρ) (fun C fl d _ => Ξ C fl d) fun d _ => Ψ d) rfl ⟨takes_of rfl rfl rfl rfl, o.gd, hr'⟩ (fun W' pn xe p1 p2 tk => ?_), ?_⟩
    · exact PE.imp (lam_act (tb := fun E => lE X.K (tb0 τ.t) (wishOf E) wb) I1 L hf hfn hfr (hbind _ _ _ _ _) o.gd tk hr' (fun A outer s H E hg hr => hbody A outer s H E f c' (lam_cok hg hr)) hNg hva hd2 hcd2) fun σZ HZ Q' h' => l_ask e1 hco σZ HZ Q' h'
    · have tbc : TbOk (tbL τ S H1) S (others τ.t S H1 fun _ => False) H1 := ⟨e1.tb.tab, e1.tb.nS, (fun _ h => others_tb h), (fun _ _ z => z), fun _ _ z => z⟩
      have er := er_more (er_args (K := X.K) (τ := tbL τ S H1) (vs := [V.ref f]) (ds := [.raw (.ref f)]) (.cons (.raw _) .nil) e1.ex tbc fun a o h => by obtain ⟨_, a1, a2⟩ := others_inv h; exact ⟨a2, a1⟩) n
      have es : L2.start Ng [V.ref f] = [V.ref f].map some ++ List.replicate n none := by unfold L2.start; rw [hn]; rfl
      rw [es]
      have bk : ∀ {ρ' : Rho} {S' H' : Hp} {σ' : L2.St}, Same S S' → ER X.K (tbL τ S H1) S' (others τ.t S H1 fun _ => False) H' ρ' σ' → ER X.K τ S' F H' ρ σ := fun {ρ' S' H' σ'} s' e' => e1.back s' e'.ex e'.tb.tab e'.tb.nS (fun a o n a1 a2 => others_of n (fun z => z) a1 a2) e'.fr
      refine ⟨_, S, _, _, er, hw f, fun C fl d v dd ρ' S' σ' H' q s' e' hd iv => hx C fl d v dd ρ S' σ H' q s' (bk s' e') hd iv, fun ρ' S' σ' H' q s' e' => hp .non .non ρ S' H' q s' .non (bk s' e'), fun d v ρ' S' σ' H' q s' iv e' => hp v d ρ S' H' q s' iv (bk s' e'), fun _ _ _ _ q => q.elim, fun _ _ _ _ q => q.elim, fun _ _ _ _ _ _ _ q => q.elim⟩
  refine wpAny_call (codeAny_mono rc fun r s2 hq => ?_)
  match r, hq with
  | .error er, hq => exact o.tk er s2 (XE.of_call I1 (fun cls d H' h => h) hq)
  | .ok (.ret u), hq => exact I1.after hq
  | .ok .next, hq => exact hq.elim
  | .ok .brk, hq => exact hq.elim
  | .ok .cont, hq => exact hq.elim
end DL
set_option Elab.async false
set_option autoImplicit false
set_option linter.all false
set_option maxRecDepth 100000
set_option maxHeartbeats 3900000
namespace DL
open L2 PyProof.Rows PySem PySem.Spec
variable {τ : Tb}
/-! ### while, name op= e -/
def wWhile (wt : WT) (wb : WS) : WS := fun ρ Δ => ∃ I : Nat → Rho → Prop, (∃ m, I m ρ) ∧ ∀ m ρ, I m ρ → wt ρ Δ.xc fun b ρ1 => if b = true then wb ρ1 { Δ with nx := fun ρ' => ∃ m', m' < m ∧ I m' ρ', ct := fun ρ' => ∃ m', m' < m ∧ I m' ρ', bk := Δ.nx } else Δ.nx ρ1
theorem l_while {K : Fg} {W : WX} {wt : WT} {wb : WS} : ∀ D σ H, lS K τ W (wWhile wt wb) D σ H → tWhile (lT K τ W wt) (lS K τ W wb) D σ H := by
  rintro D σ H ⟨ρ, S, F, Δ, e, ⟨I, ⟨m0, i0⟩, tn⟩, hx, h1, h2, h3, h4, h5⟩
  refine ⟨fun m σ' H' => ∃ ρ' S', Same S S' ∧ ER K τ S' F H' ρ' σ' ∧ I m ρ', ⟨m0, ρ, S, Same.refl S, e, i0⟩, ?_⟩
  rintro m σ' H' ⟨ρ', S', s', e', im⟩
  refine ⟨ρ', S', F, _, _, e', tn m ρ' im, hx.mono s', fun b ρ1 S1 H1 q s1 e1 => ?_⟩
  have t1 : Same S S1 := s'.trans s1
  cases b with
  | false => exact h1 ρ1 S1 _ H1 q t1 e1
  | true =>
    refine ⟨fun σ2 H2 => ∃ ρ2 S2, Same S S2 ∧ ER K τ S2 F H2 ρ2 σ2 ∧ ∃ m', m' < m ∧ I m' ρ2, fun σ2 H2 ⟨ρ2, S2, s2, e2, m', hm, i2⟩ => ⟨m', hm, ρ2, S2, s2, e2, i2⟩, ?_⟩
    exact ⟨ρ1, S1, F, _, e1, q, hx.mono t1, fun ρ4 S4 σ4 H4 a b c => ⟨ρ4, S4, t1.trans b, c, a⟩, fun d v ρ4 S4 σ4 H4 a b c f => h2 d v ρ4 S4 σ4 H4 a (t1.trans b) c f,
      fun ρ4 S4 σ4 H4 a b c => h1 ρ4 S4 σ4 H4 a (t1.trans b) c, fun ρ4 S4 σ4 H4 a b c => ⟨ρ4, S4, t1.trans b, c, a⟩, fun l od o ρ4 S4 σ4 H4 a b => h5 l od o ρ4 S4 σ4 H4 a (t1.trans b)⟩
def wAug (f : Int → Int → Int) (i : Nat) (wa : WE) : WS := fun ρ Δ => ∃ a, ρ[i]? = some (Sl.val (.int a)) ∧ wa ρ Δ.xc fun y ρ1 => match y with
  | .int b => Δ.nx (ρ1.set i (.val (.int (f a b))))
  | _ => False
theorem l_aug {K : Fg} {W : WX} {f : Int → Int → Int} {i : Nat} {wa : WE} : ∀ D σ H, lS K τ W (wAug f i wa) D σ H → tAug i (lE K τ W wa) (ipI f) D σ H := by
  rintro D σ H ⟨ρ, S, F, Δ, e, ⟨a, ha, hw⟩, hx, h1, -⟩
  obtain ⟨v, hv, iv⟩ := e.val i _ ha
  cases iv
  refine ⟨_, hv, ρ, S, F, _, _, e, hw, hx, fun y d ρ1 S1 H1 q s1 i1 e1 => ?_⟩
  cases d with
  | int b => cases i1; exact ⟨a, b, rfl, rfl, h1 _ S1 _ H1 q s1 (e1.set (.int _))⟩
  | _ => exact False.elim q
/-! ### reversed(x), x a list or a tuple -/
def wiRev (wa : WE) : WL := fun ρ χ Φ => wa ρ χ fun d ρ1 => match d with
  | .lst ds => Φ ds.reverse ρ1
  | .tup ds => Φ ds.reverse ρ1
  | _ => False
theorem rev_at {α : Type} {xs : List α} {i : Nat} (h : i < xs.length) : xs.reverse[i]? = xs[xs.length - 1 - i]? := List.getElem?_reverse h
theorem dwk_rvL {K : Fg} {S : Hp} {a : Addr} {vs : List V} {ds : List D} (h : S a = some (.lst vs)) (hi : IsAll K S vs ds) : DWk K τ S (Itv K a vs.length) ds.reverse := by
  have hl := hi.length
  have hq : ∀ {H}, Same S H → SqL K H a vs := fun s => .inl (.inl (s _ _ h))
  refine ⟨fun i H h1 s => ?_, fun H s => by rw [List.length_reverse, ← hl]; exact Nat.le_refl _, fun i H x H' h1 s y => ?_⟩
  · rw [List.length_reverse] at h1
    have hlt : vs.length - 1 - i < vs.length := by omega
    exact ⟨by omega, vs, vs[vs.length - 1 - i], hq s, by simp [hlt]⟩
  · rw [List.length_reverse] at h1
    obtain ⟨rfl, y⟩ := y
    have hx := y vs (hq s)
    have hlt : vs.length - 1 - i < ds.length := by omega
    obtain ⟨v, q1, q2⟩ := hi.get (i := vs.length - 1 - i) (d := ds[vs.length - 1 - i]) (by simp [hlt])
    rw [q1] at hx; cases hx
    exact ⟨_, by rw [rev_at h1, ← hl]; simp [hlt], fun S1 F ρ σ s1 e => ⟨S1, Same.refl S1, q2.mono s1, e⟩⟩
theorem dwk_rvT {K : Fg} {S : Hp} {a : Addr} {vs : List V} {ds : List D} (h : S a = some (.tup vs)) (hi : IsAll K S vs ds) : DWk K τ S (RT.ItvT K a vs.length) ds.reverse := by
  have hl := hi.length
  have hq : ∀ {H}, Same S H → SqT K H a vs := fun s => .inl (.inl (s _ _ h))
  refine ⟨fun i H h1 s => ?_, fun H s => by rw [List.length_reverse, ← hl]; exact Nat.le_refl _, fun i H x H' h1 s y => ?_⟩
  · rw [List.length_reverse] at h1
    have hlt : vs.length - 1 - i < vs.length := by omega
    exact ⟨by omega, vs, vs[vs.length - 1 - i], hq s, by simp [hlt]⟩
  · rw [List.length_reverse] at h1
    obtain ⟨rfl, y⟩ := y
    have hx := y vs (hq s)
    have hlt : vs.length - 1 - i < ds.length := by omega
    obtain ⟨v, q1, q2⟩ := hi.get (i := vs.length - 1 - i) (d := ds[vs.length - 1 - i]) (by simp [hlt])
    rw [q1] at hx; cases hx
    exact ⟨_, by rw [rev_at h1, ← hl]; simp [hlt], fun S1 F ρ σ s1 e => ⟨S1, Same.refl S1, q2.mono s1, e⟩⟩
theorem i_rev {K : Fg} {W : WX} {wa : WE} : ∀ σ H R, lI K τ W (wiRev wa) σ H R → RT.iRevA K (lE K τ W wa) σ H R := by
  rintro σ H R ⟨ρ, S, F, χ, Φ, e, hw, hx, hp⟩
  refine ⟨ρ, S, F, χ, _, e, hw, hx, fun v d ρ1 S1 H1 h1 s1 i1 e1 => ?_⟩
  cases i1 with
  | lst a b => exact ⟨_, _, rfl, .inl ⟨.inl (.inl (e1.ex _ _ a)), hp _ _ ρ1 S1 H1 h1 s1 e1 (dwk_rvL a b)⟩⟩
  | tup a b => exact ⟨_, _, rfl, .inr ⟨.inl (.inl (e1.ex _ _ a)), hp _ _ ρ1 S1 H1 h1 s1 e1 (dwk_rvT a b)⟩⟩
  | _ => exact False.elim h1
/-! ### x[::-1], x a list -/
def revK (wb : WE) (χ : XC) (Φ : D → Rho → Prop) (x : D) (ρ1 : Rho) : Prop := wb ρ1 χ fun y ρ2 => match x, y with
  | .lst ds, .int (-1) => Φ (.lst ds.reverse) ρ2
  | _, _ => False
def wRevSl (wa wb : WE) : WE := fun ρ χ Φ => wa ρ χ fun x ρ1 => revK wb χ Φ x ρ1
section
variable {X : Cx} {W : WX} {k : Nat} {x y : Str} {a b c d e f o : Expr} {es rest : List Expr} {p pos pos' p2 : Pos} {wa wb : WE} {wt : WT} {wl wi : WL} {w u : WS} {body : List Stmt} {i : Nat}
theorem e_revSl (ha : PEd X τ W e wa) (hb : PEd X τ W b wb) : PEd X τ W (.Subscript e (.Slice none none (some b) p2) pos) (wRevSl wa wb) := by
  constructor; rintro pins s σ H Q I ⟨ρ, S, F, χ, Φ, e0, hw, hx, hp⟩
  have h' : lE X.K τ W wa σ H (fun v H1 => ∃ ρ1 S1 dv, ER X.K τ S1 F H1 ρ1 σ ∧ Same S S1 ∧ Is X.K S1 v dv ∧ revK wb χ Φ dv ρ1) := ⟨ρ, S, F, χ, _, e0, hw, hx, fun v dv ρ1 S1 H1 q1 s1 i1 e1 => ⟨ρ1, S1, dv, e1, s1, i1, q1⟩⟩
  refine Subscript_ (thn (ha.run pins s σ H _ I h') fun v s1 ⟨vx, H1, I1, r1, ρ1, S1, dv, e1, t1, i1, q1⟩ => ?_)
  refine wpAny_Slice ?_
  rw [evalPart_none, evalPart_some]
  refine wpAny_pure (wpAny_pure ?_)
  refine thn (hb.run pins s1 σ H1 (fun y H2 => y = .int (-1) ∧ ∃ p ws, vx = .ref p ∧ SqL X.K H2 p ws ∧ ∀ q, H2 q = none → Q (.ref q) (upd H2 q (.lst ws.reverse))) I1 ⟨ρ1, S1, F, χ, _, e1, q1, hx.mono t1, fun y dy ρ2 S2 H2 q2 s2 i2 e2 => ?_⟩) fun vk s2 ⟨y, H2, I2, r2, ey, p, ws, ex, hq, q2⟩ => ?_
  · split at q2
    · rename_i ds
      cases i2
      cases i1 with
      | lst h1 h2 => exact ⟨rfl, _, _, rfl, .inl (.inl (e2.ex _ _ (s2 _ _ h1))), fun q hq => hp _ _ ρ2 _ _ q2 ((t1.trans s2).trans (e2.sn hq)) (.lst upd_same (((h2.mono s2).reverse).mono (e2.sn hq))) (e2.new hq)⟩
    · exact q2.elim
  · subst ey; subst ex
    cases r1
    obtain ⟨t, rfl⟩ := r2
    have I4 : Inv X pins σ H2 { s2 with heap := s2.heap.push { cls := .type "slice", data := .fields #[.none, .none, .int (-1) t] } } := I2.kept (t' := s2.toks) fun b ob q => Heap.get?_push_of_some _ q
    obtain ⟨its, r, ht, hz⟩ := I4.list hq
    have hl := r.length
    have fin : wpAny (model X.prog X.w) X.A (getItem (.ref p) (.ref s2.heap.objs.size)) (EP X pins σ Q) X.xe { s2 with heap := s2.heap.push { cls := .type "slice", data := .fields #[.none, .none, .int (-1) t] } } := by
      refine wpAny_getItem_list_slice (lo := none) (hi := none) (st := some (-1)) ht.isList (Heap.IsSliceOf.new ..) .none .none (.int _ _) (by decide) ?_ (by rw [List.size_toArray]; omega)
      rw [PySem.W.krv_pick]
      refine ⟨.ref _, _, I4.laid (t' := s2.toks) (o := .lst ws.reverse) (fun b ob q => Heap.get?_push_of_some _ q) (Nat.le_refl _) ?_, rfl, q2 _ (I4.hok.fresh (Nat.le_refl _))⟩
      exact ⟨by rw [List.length_reverse]; exact hz, _, 0, r.reverse, Heap.get?_push_size _ rfl⟩
    exact tail_any (ops := [.ref p, .ref s2.heap.objs.size]) ht.isList.typeIs slot_list_getitem.lookup fin (by with_unfolding_all rfl)
theorem s_while {c : Expr} (hp : PassesOwn (model X.prog X.w) X.A X.env X.xe) (hc : PTd X τ W c wt) (hb : PSsd X τ W body w) : PSd X τ W (.While c body [] pos) (wWhile wt w) := PS.imp (ps_while hp hc hb) l_while
theorem s_augS (hN : X.N.Nodup) (i : Nat) (he : PEd X τ W e wa) (hi : X.N[i]? = some x := by rfl) (hx : Loc X.env.scope x := by first | exact .inl rfl | exact .inr rfl) (hf : X.fn x = true ∨ X.env.scope.names.lookup x = some .local := by first | exact .inl rfl | exact .inr rfl) :
    PSd X τ W (.AugAssign (.Name x pos') .Sub e pos) (wAug (fun i j => i - j) i wa) := PS.imp (ps_aug hN hi hx he ip_sub hf) l_aug
theorem s_augA (hN : X.N.Nodup) (i : Nat) (he : PEd X τ W e wa) (hi : X.N[i]? = some x := by rfl) (hx : Loc X.env.scope x := by first | exact .inl rfl | exact .inr rfl) (hf : X.fn x = true ∨ X.env.scope.names.lookup x = some .local := by first | exact .inl rfl | exact .inr rfl) :
    PSd X τ W (.AugAssign (.Name x pos') .Add e pos) (wAug (fun i j => i + j) i wa) := PS.imp (ps_aug hN hi hx he ip_add hf) l_aug
theorem i_rvd {tg : Expr} (hm : X.mg "reversed" = none) (ha : PEd X τ W e wa) (hg : Gl X "reversed" := by rfl) (hs : starEach [e] X.env = (false, eval e X.env) :: starEach [] X.env := by rfl) : PId X τ W tg (.Call (.Name "reversed" p) [e] [] pos) (wiRev wa) := PI.imp (RT.pi_revA hg hm ha hs) i_rev
theorem i_rng2 {tg : Expr} (hm : X.mg "range" = none) (ha : PAd X τ W [a, b] wl) (hg : Gl X "range" := by rfl) (hs : starEach [a, b] X.env = [(false, eval a X.env), (false, eval b X.env)] := by rfl) (hs2 : starEach [b] X.env = [(false, eval b X.env)] := by rfl) : PId X τ W tg (.Call (.Name "range" p) [a, b] [] pos) (wiRg2 wl) := PI.imp (pi_range2 hg hm ha hs hs2) i_rg2
/-- a comprehension's target a, b -/
theorem g_c2 {vs : List Nat} (hN : X.N.Nodup) (hc : X.calm = true) (i m : Nat) {px py pt : Pos} {kt : Nat} (hv : i ∈ vs := by decide) (hv2 : m ∈ vs := by decide) (hi : X.N[i]? = some x := by rfl) (hj : X.N[m]? = some y := by rfl) (hx : Loc X.env.scope x := by first | exact .inl rfl | exact .inr rfl) (hy : Loc X.env.scope y := by first | exact .inl rfl | exact .inr rfl)
    (hf : X.fn x = true ∨ X.env.scope.names.lookup x = some .local := by first | exact .inl rfl | exact .inr rfl) (hf2 : X.fn y = true ∨ X.env.scope.names.lookup y = some .local := by first | exact .inl rfl | exact .inr rfl)
    (hn : (assignEach [.Name x px, .Name y py] X.env).length = 2 := by rfl) (hst : (assignEach [.Name x px, .Name y py] X.env).findIdx? (·.1) = none := by rfl) : PG X (.Tuple [.Name x px, .Name y py] kt pt) (lGc X.K τ vs (wgTup 2 (wgCons (wgName i) (wgCons (wgName m) wgNil)))) :=
  PG.imp (pg_tup hc (PGs.imp (pgs_cons (PG.imp (pg_name hN hi hx hf) (gc_name hv)) (PGs.imp (pgs_cons (PG.imp (pg_name hN hj hy hf2) (gc_name hv2)) (PGs.imp pgs_nil gc_nil)) gc_cons)) gc_cons) hn hst) gc_tup
end
/-- a target a, b for a tuple or a list -/
def wgSeq (n : Nat) (gs : WGs) : WG := fun d ρ Φ => match d with
  | .tup ds => ds.length = n ∧ gs ds ρ Φ
  | .lst ds => ds.length = n ∧ gs ds ρ Φ
  | _ => False
theorem g_c2S {X : Cx} {x y : Str} {vs : List Nat} (hN : X.N.Nodup) (hc : X.calm = true) (i m : Nat) {px py pt : Pos} {kt : Nat} (hv : i ∈ vs := by decide) (hv2 : m ∈ vs := by decide) (hi : X.N[i]? = some x := by rfl) (hj : X.N[m]? = some y := by rfl) (hx : Loc X.env.scope x := by first | exact .inl rfl | exact .inr rfl) (hy : Loc X.env.scope y := by first | exact .inl rfl | exact .inr rfl)
    (hf : X.fn x = true ∨ X.env.scope.names.lookup x = some .local := by first | exact .inl rfl | exact .inr rfl) (hf2 : X.fn y = true ∨ X.env.scope.names.lookup y = some .local := by first | exact .inl rfl | exact .inr rfl)
    (hn : (assignEach [.Name x px, .Name y py] X.env).length = 2 := by rfl) (hst : (assignEach [.Name x px, .Name y py] X.env).findIdx? (·.1) = none := by rfl) : PG X (.Tuple [.Name x px, .Name y py] kt pt) (lGc X.K τ vs (wgSeq 2 (wgCons (wgName i) (wgCons (wgName m) wgNil)))) := by
  constructor; rintro pins s σ H v u Q I r ⟨ρ, S, F, d, Φ, e, hd, hg, hp⟩
  have gs : PGs X [.Name x px, .Name y py] (lGcs X.K τ vs (wgCons (wgName i) (wgCons (wgName m) wgNil))) := PGs.imp (pgs_cons (PG.imp (pg_name hN hi hx hf) (gc_name hv)) (PGs.imp (pgs_cons (PG.imp (pg_name hN hj hy hf2) (gc_name hv2)) (PGs.imp pgs_nil gc_nil)) gc_cons)) gc_cons
  cases hd with
  | tup h1 h2 => exact (pg_tup hc gs hn hst).run pins s σ H _ u Q I r ⟨_, _, rfl, .inl (.inl (e.ex _ _ h1)), h2.length.trans hg.1, ρ, S, F, _, Φ, e, h2, hg.2, hp⟩
  | lst h1 h2 => exact (pg_lst hc gs hn hst).run pins s σ H _ u Q I r ⟨_, _, rfl, .inl (.inl (e.ex _ _ h1)), h2.length.trans hg.1, ρ, S, F, _, Φ, e, h2, hg.2, hp⟩
  | _ => exact False.elim hg
/-! ### max, min of a list of whole numbers; min(.., default=) -/
def intsOf : List D → Option (List Int)
  | [] => some []
  | .int i :: ds => (intsOf ds).map (i :: ·)
  | _ :: _ => none
theorem ints_is {K : Fg} {S : Hp} : ∀ {vs : List V} {ds : List D} {ns : List Int}, IsAll K S vs ds → intsOf ds = some ns → vs = ns.map V.int
  | _, [], ns, .nil, h => by cases h; rfl
  | _, d :: ds, ns, .cons r t, h => by
    cases d with
    | int i =>
      cases r
      have h' : (intsOf ds).map (i :: ·) = some ns := h
      cases e : intsOf ds with
      | none => rw [e] at h'; cases h'
      | some ms => rw [e] at h'; cases h'; rw [ints_is t e]; rfl
    | _ => cases h
def wMaxL : WCl := fun ds Φ => match ds with
  | [.lst xs] => ∃ ns, intsOf xs = some ns ∧ 0 < ns.length ∧ ∀ m, m ∈ ns → (∀ y, y ∈ ns → y ≤ m) → Φ (.int m)
  | _ => False
def wMinL : WCl := fun ds Φ => match ds with
  | [.lst xs] => ∃ ns, intsOf xs = some ns ∧ 0 < ns.length ∧ ∀ m, m ∈ ns → (∀ y, y ∈ ns → m ≤ y) → Φ (.int m)
  | _ => False
theorem ok_maxL {K : Fg} : CallOk K τ (rMax K) wMaxL := by
  intro S F H ρ σ vs ds Φ Q e hi hw hp
  unfold wMaxL at hw
  split at hw
  · obtain ⟨ns, h1, h2, h3⟩ := hw
    cases hi with
    | cons r hi =>
      cases hi; cases r with
      | lst a b =>
        cases ints_is b h1
        exact ⟨_, ns, rfl, .inl (.inl (e.ex _ _ a)), h2, fun m p q => hp _ _ S H (h3 m p q) (Same.refl S) (.int _) e⟩
  · exact hw.elim
theorem ok_minL {K : Fg} : CallOk K τ (rMin K) wMinL := by
  intro S F H ρ σ vs ds Φ Q e hi hw hp
  unfold wMinL at hw
  split at hw
  · obtain ⟨ns, h1, h2, h3⟩ := hw
    cases hi with
    | cons r hi =>
      cases hi; cases r with
      | lst a b =>
        cases ints_is b h1
        exact ⟨_, ns, rfl, .inl (.inl (e.ex _ _ a)), h2, fun m p q => hp _ _ S H (h3 m p q) (Same.refl S) (.int _) e⟩
  · exact hw.elim
def rMinDf (K : Fg) : List V → List V → Hp → VK → Prop := fun vs zs H Q => ∃ (a : Addr) (ns : List Int) (d : Int), vs = [V.ref a] ∧ zs = [V.int d] ∧ SqL K H a (ns.map V.int) ∧ (ns = [] → Q (.int d) H) ∧ ∀ m, m ∈ ns → (∀ y, y ∈ ns → m ≤ y) → Q (.int m) H
theorem minOf_ok : ∀ (xs : List Int) (x : Int), PySem.W.minOf x xs ∈ x :: xs ∧ ∀ y ∈ x :: xs, PySem.W.minOf x xs ≤ y
  | [], x => ⟨by simp [PySem.W.minOf], by simp [PySem.W.minOf]⟩
  | z :: xs, x => by
    have e : PySem.W.minOf x (z :: xs) = PySem.W.minOf (if z < x then z else x) xs := by
      unfold PySem.W.minOf
      rw [List.foldl_cons]
      congr 1
      show (if decide (z < x) = true then z else x) = _
      by_cases h : z < x <;> simp [h]
    obtain ⟨h1, h2⟩ := minOf_ok xs (if z < x then z else x)
    rw [e]
    refine ⟨?_, fun y hy => ?_⟩
    · rcases List.mem_cons.mp h1 with h | h
      · rw [h]; by_cases h : z < x <;> simp [h]
      · simp [h]
    · have h3 := h2 _ List.mem_cons_self
      rcases List.mem_cons.mp hy with rfl | hy
      · by_cases h : z < y
        · rw [if_pos h] at h3 ⊢; omega
        · rw [if_neg h] at h3 ⊢; exact h3
      · rcases List.mem_cons.mp hy with rfl | hy
        · by_cases h : y < x
          · rw [if_pos h] at h3 ⊢; exact h3
          · rw [if_neg h] at h3 ⊢; omega
        · exact h2 y (List.mem_cons_of_mem _ hy)
theorem hold_ints {h : Heap} : ∀ {vs : List Value} {ns : List Int}, IntsAre vs ns → PySem.W.HoldAll h vs ns := fun {vs ns} hi => PySem.W.HoldAll.of_ints hi
theorem cr_minDf {X : Cx} {W : WX} {k : Nat} (hc : X.calm = true) (o : Cok X W k) : CallRK X (.builtin "min") [Str.ofString "default"] (rMinDf X.K) := by
  intro pins s σ H xs zs us ws Q I r rz h
  obtain ⟨a, ns, d, rfl, rfl, hs, h0, h1⟩ := h
  obtain ⟨its, rv, hl, hz⟩ := I.list hs
  rw [Vals.ref1 r]
  cases rz with
  | cons r2 rr =>
    cases rr
    obtain ⟨t, rfl⟩ := r2
    refine PySem.W.min_list_datum_default (α := Int) (xs := ns) (I.ok.hd hc) hl.isList (hold_ints rv.ints) (by have := o.u64'; show X.A.units + 1 + 0 < cLine; omega) (fun e h' tk hk => ⟨.int d, H, I.kept hk, ⟨t, rfl⟩, h0 e⟩) fun y ys i v h' tk e hi hv hk => ?_
    subst e
    obtain ⟨h3, h4⟩ := minOf_ok ys y
    obtain ⟨as, hr⟩ := hv
    have hr : Reads h' v (.int (PySem.W.minOf y ys)) as := hr
    refine ⟨.int (PySem.W.minOf y ys), H, I.kept hk, ?_, h1 _ h3 h4⟩
    cases hr
    exact ⟨_, rfl⟩
/-- min(x, default=d) -/
def wMinDf (wl wk : WL) : WE := fun ρ χ Φ => wl ρ χ fun ds ρ1 => wk ρ1 χ fun zs ρ2 => match ds, zs with
  | [.lst xs], [.int d] => ∃ ns, intsOf xs = some ns ∧ (ns = [] → Φ (.int d) ρ2) ∧ ∀ m, m ∈ ns → (∀ y, y ∈ ns → m ≤ y) → Φ (.int m) ρ2
  | _, _ => False
theorem l_minDf {K : Fg} {W : WX} {wl wk : WL} : ∀ σ H Q, lE K τ W (wMinDf wl wk) σ H Q → tCKw (rMinDf K) (lL K τ W wl) (lL K τ W wk) σ H Q := by
  rintro σ H Q ⟨ρ, S, F, χ, Φ, e, hw, hx, hp⟩
  refine ⟨ρ, S, F, χ, _, e, hw, hx, fun vs ds ρ1 S1 H1 h1 s1 i1 e1 => ?_⟩
  refine ⟨ρ1, S1, F, χ, _, e1, h1, hx.mono s1, fun us zs ρ2 S2 H2 h2 s2 i2 e2 => ?_⟩
  split at h2
  · obtain ⟨ns, a1, a2, a3⟩ := h2
    cases i2 with
    | cons r2 rr =>
      cases rr; cases r2
      cases i1 with
      | cons r rr =>
        cases rr; cases r with
        | lst b1 b2 =>
          cases ints_is b2 a1
          exact ⟨_, ns, _, rfl, rfl, .inl (.inl (e2.ex _ _ (s2 _ _ b1))), fun z => hp _ _ ρ2 S2 H2 (a2 z) (s1.trans s2) (.int _) e2, fun m p q => hp _ _ ρ2 S2 H2 (a3 m p q) (s1.trans s2) (.int _) e2⟩
  · exact h2.elim
/-- a call of what a slot holds: one of some defs -/
def wCallV (i n : Nat) (sps : List (Addr × Spc)) (wl : WL) : WE := fun ρ χ Φ => ∃ f sp, (f, sp) ∈ sps ∧ ρ[i]? = some (Sl.val (.raw (.ref f))) ∧ wl ρ χ fun ds ρ1 => ds.length = n ∧ sp none ds (fun d _ => Φ d ρ1) fun C fl d => χ C fl d ρ1
structure OneOf (P : Program) (w : World) (K : Fg) (mg : Str → Option Value) (base : Heap) (t : List (Addr × Str)) (k n : Nat) (f : Addr) (sp : Spc) : Prop where
  ex : ∃ (fd : FuncData) (ps : List Str), FnG P w K mg base k f fd ps (lSp K t n sp) ∧ PySem.W.keepIn K (Value.ref f) = true ∧ KBn K fd ps n [] (fun us _ => us) (fun us _ => us)
section
variable {X : Cx} {W : WX} {k i n : Nat} {x : Str} {e : Expr} {es : List Expr} {kws : List Keyword} {p pos : Pos} {wl wk : WL} {sps : List (Addr × Spc)}
theorem e_minDf (hc : X.calm = true) (o : Cok X W k) (hm : X.mg "min" = none) (ha : PAd X τ W (e :: es) wl) (hk : PKd X τ W kws wk) (hg : Gl X "min" := by rfl) (he : backTo pos (starEach (e :: es) X.env) = (false, eval e X.env) :: backTo pos (starEach es X.env) := by rfl) (hpl : (backTo pos (starEach (e :: es) X.env)).any (·.1) = false := by rfl)
    (hall : (backToKw pos (keywordEach kws X.env)).all (·.1.isSome) = true := by rfl) (hnone : (backToKw pos (keywordEach kws X.env)).any (·.1.isNone) = false := by rfl) (hks : (backToKw pos (keywordEach kws X.env)).filterMap (·.1) = [Str.ofString "default"] := by rfl) :
    PEd X τ W (.Call (.Name "min" p) (e :: es) kws pos) (wMinDf wl wk) := PE.imp (pe_callBK (cr_minDf hc o) hg hm PyProof.Rows.Boot.min ha hk (by decide) (by decide) he hpl hall hnone hks) l_minDf
theorem e_callV {tt : List (Addr × Str)} (o : Cok X W k) (A : ∀ q ∈ sps, OneOf X.prog X.w X.K X.mg X.base tt k n q.1 q.2) (ha : PAd X τ W (e :: es) wl) (hN : X.N[i]? = some x := by rfl) (hv : Vis X.env.scope x := by first | exact .inl rfl | exact .inr (.inl rfl) | exact .inr (.inr rfl)) (hd : (x == ("__debug__" : Str)) = false := by decide) (hcd : (x == ("__classdict__" : Str)) = false := by decide)
    (he : starEach (e :: es) X.env = (false, eval e X.env) :: starEach es X.env := by rfl) (hpl : (backTo pos (starEach es X.env)).any (·.1) = false := by rfl) (ht : τ.t = tt := by rfl) : PEd X τ W (.Call (.Name x p) (e :: es) [] pos) (wCallV i n sps wl) := by
  subst ht
  constructor; rintro pins s σ H Q I ⟨ρ, S, F, χ, Φ, e0, ⟨f, sp, hm, h0, hw⟩, hx, hp⟩
  obtain ⟨fd, ps, Fn, kp, kb⟩ := (A _ hm).ex
  obtain ⟨v0, hσ, i0⟩ := e0.val i _ h0
  cases i0
  refine wpAny_Call_Name_kw (thn ((pe_var (pos := p) hN hv hd hcd).run pins s σ H (fun v H1 => v = .ref f ∧ H1 = H) I ⟨.ref f, hσ, rfl, rfl⟩) fun u s1 ⟨v, H1, I1, r1, ev, eH⟩ => ?_)
  subst ev; subst eH
  cases r1
  have h' : lE X.K τ W (wCallA n 0 sp (fun ds _ => ds) wl wNil) σ H1 Q := ⟨ρ, S, F, χ, Φ, e0, (by
    show wl ρ χ fun ds ρ1 => ds.length = n ∧ (0 = 0 ∧ sp none ds (fun d _ => Φ d ρ1) fun C f d => χ C f d ρ1)
    simpa using hw), hx, hp⟩
  have h2 := lL_mono (l_callA (K := X.K) (W := W) grel_pos σ H1 Q h') fun vs H' q => l_nil σ H' _ q
  refine PySem.W.callWith_K (h₀ := X.base) I1.ok.mod.kin kp (thn (ha.run pos pins s1 σ H1 _ I1 h2) fun us s2 ⟨vs, H2, I2, r, l1, l2, q⟩ => ⟨I2.kIn, ?_⟩) he hpl
  have z := run_g (us := us) (ws := []) (zs := []) Fn o kb I2 r .nil l1 l2 q
  exact z
end
end DL
namespace DL
open L2 PyProof.Rows PySem PySem.Spec
variable {τ : Tb}
/-- repr where an error may be handled -/
theorem cr_reprU {X Y : Cx} {W : WX} {k : Nat} (c : Cok X W k) (hg : Y.A.guards = X.A.guards := by rfl) (hu : Y.A.units = X.A.units := by rfl) : CallR Y (.builtin "repr") (rRepr Y.K) := by
  rintro pins s σ H xs us Q I r ⟨v, p, rfl, dp, hs, hn, hd, hz, q⟩
  obtain ⟨u, rfl, ru⟩ := vals1 r; obtain ⟨as, rd⟩ := Dp.reads I p v u dp ru
  have un := c.rm.un
  have gd : Y.A.guards = some [] := hg.trans c.gd
  cases dp with
  | non => cases ru; exact PySem.P.repr_of_none ⟨.str _, H, I.tok _, ⟨_, rfl⟩, by simpa only [PyData.shown] using q⟩
  | bl b => cases ru; exact PySem.P.repr_of_bool ⟨.str _, H, I.tok _, ⟨_, rfl⟩, by simpa only [PyData.shown] using q⟩
  | int i =>
    obtain ⟨t, rfl⟩ := ru
    exact PySem.P.repr_of_int (by simpa [PyData.showable] using hs) ⟨.str _, H, I.tok _, ⟨_, rfl⟩, by simpa only [PyData.shown] using q⟩
  | str x =>
    obtain ⟨t, rfl⟩ := ru
    exact PySem.P.repr_of_str ⟨.str _, H, I.tok _, ⟨_, rfl⟩, by simpa only [PyData.shown] using q⟩ (by simpa only [PyData.shown] using hz)
  | lst a b =>
    cases ru
    exact repr_of_reads' (h₀ := s.heap) rd hs (fun e => by rw [hn] at e; cases e) gd (by rw [hu]; omega) (fun _ _ e => e) (fun h' u tk hk => ⟨.str _, H, I.kept hk, ⟨_, rfl⟩, q⟩) hz
  | tup a b =>
    cases ru
    exact repr_of_reads' (h₀ := s.heap) rd hs (fun e => by rw [hn] at e; cases e) gd (by rw [hu]; omega) (fun _ _ e => e) (fun h' u tk hk => ⟨.str _, H, I.kept hk, ⟨_, rfl⟩, q⟩) hz
end DL
set_option Elab.async false
set_option autoImplicit false
set_option linter.all false
set_option maxRecDepth 100000
set_option maxHeartbeats 3900000
namespace K30
open DL L2 PyProof.Rows PySem PySem.Spec
def top (i : Nat) : Stmt := PySem.Challenge.pw_agedcopy_k30_tails_of_copies.main.body.getD i (.Pass ⟨0, 0, 0, 0⟩)
structure Cs where
  AgeError : Addr
  BadMachine : Addr
  BadLog : Addr
  BadCopy : Addr
  Refused : Addr
  NoState : Addr
  Machine : Addr
  fi_BadMachine : Addr
  fd_BadMachine : FuncData
  fi_BadLog : Addr
  fd_BadLog : FuncData
  fi_BadCopy : Addr
  fd_BadCopy : FuncData
  fi_Refused : Addr
  fd_Refused : FuncData
  fi_NoState : Addr
  fd_NoState : FuncData
  f_is_integer : Addr
  d_is_integer : FuncData
  f_is_below : Addr
  d_is_below : FuncData
  f_is_sequence : Addr
  d_is_sequence : FuncData
  f_is_sequence_of : Addr
  d_is_sequence_of : FuncData
  f_fault_place : Addr
  d_fault_place : FuncData
  f_is_table : Addr
  d_is_table : FuncData
  f_check_tables : Addr
  d_check_tables : FuncData
  f_Machine_init : Addr
  d_Machine_init : FuncData
  f_check_state : Addr
  d_check_state : FuncData
  f_log_fault : Addr
  d_log_fault : FuncData
  f_check_log : Addr
  d_check_log : FuncData
  f_check_age : Addr
  d_check_age : FuncData
  f_ends_by_age : Addr
  d_ends_by_age : FuncData
  f_latest_place : Addr
  d_latest_place : FuncData
  f_return_ages : Addr
  d_return_ages : FuncData
  f_tail_place : Addr
  d_tail_place : FuncData
  f_check_copies : Addr
  d_check_copies : FuncData
  f_needed_place : Addr
  d_needed_place : FuncData
  f_law_box : Addr
  d_law_box : FuncData
  f_law_take : Addr
  d_law_take : FuncData
  f_law_pick : Addr
  d_law_pick : FuncData
  f_law_tables : Addr
  d_law_tables : FuncData
  f_law_led : Addr
  d_law_led : FuncData
  f_law_refused : Addr
  d_law_refused : FuncData
  f_law_strangers_right : Addr
  d_law_strangers_right : FuncData
  f_law : Addr
  d_law : FuncData
  c_law_strangers_right : Addr
  p_law_strangers_right : Addr
  t_MOST_TABLES : Tok
  t_MOST_STATES : Tok
  t_MOST_DEEDS : Tok
/-- what the top has left -/
structure Txt (P : Program) (w : World) (K : Fg) (mg : Str → Option Value) (base : Heap) (t : List (Addr × Str)) (C : Cs) : Prop where
  b_KeyError : mg "KeyError" = none
  b_abs : mg "abs" = none
  b_bool : mg "bool" = none
  b_enumerate : mg "enumerate" = none
  b_int : mg "int" = none
  b_isinstance : mg "isinstance" = none
  b_len : mg "len" = none
  b_list : mg "list" = none
  b_max : mg "max" = none
  b_min : mg "min" = none
  b_range : mg "range" = none
  b_repr : mg "repr" = none
  b_reversed : mg "reversed" = none
  b_tuple : mg "tuple" = none
  MOST_TABLES : mg "MOST_TABLES" = some (.int 8 C.t_MOST_TABLES)
  MOST_STATES : mg "MOST_STATES" = some (.int 12 C.t_MOST_STATES)
  MOST_DEEDS : mg "MOST_DEEDS" = some (.int 10000 C.t_MOST_DEEDS)
  AgeError : mg "AgeError" = some (.ref C.AgeError)
  BadMachine : mg "BadMachine" = some (.ref C.BadMachine)
  BadLog : mg "BadLog" = some (.ref C.BadLog)
  BadCopy : mg "BadCopy" = some (.ref C.BadCopy)
  Refused : mg "Refused" = some (.ref C.Refused)
  NoState : mg "NoState" = some (.ref C.NoState)
  Machine : mg "Machine" = some (.ref C.Machine)
  cl_Machine : Cls K C.Machine
  ic_Machine : InsC K C.Machine
  mk_Machine : Mk K C.Machine C.f_Machine_init
  na_Machine_tables : NoAttr K C.Machine "tables"
  na_Machine_deeds : NoAttr K C.Machine "deeds"
  na_Machine_states : NoAttr K C.Machine "states"
  er_BadMachine : ErrC K C.BadMachine C.fi_BadMachine "at"
  in_BadMachine : ∀ k, FnOk P w K mg base (L2.CX P w) (k + 1) C.fi_BadMachine C.fd_BadMachine ["self", "at"] (spIni K "at")
  bi_BadMachine : Binds K C.fd_BadMachine ["self", "at"] []
  xf_BadMachine : XfC K C.BadMachine
  no_BadMachine : PySem.W.findIn K (.ref C.BadMachine) "at" = some none
  ec_BadMachine : ExcC K C.BadMachine
  er_BadLog : ErrC K C.BadLog C.fi_BadLog "at"
  in_BadLog : ∀ k, FnOk P w K mg base (L2.CX P w) (k + 1) C.fi_BadLog C.fd_BadLog ["self", "at"] (spIni K "at")
  bi_BadLog : Binds K C.fd_BadLog ["self", "at"] []
  xf_BadLog : XfC K C.BadLog
  no_BadLog : PySem.W.findIn K (.ref C.BadLog) "at" = some none
  ec_BadLog : ExcC K C.BadLog
  er_BadCopy : ErrC K C.BadCopy C.fi_BadCopy "at"
  in_BadCopy : ∀ k, FnOk P w K mg base (L2.CX P w) (k + 1) C.fi_BadCopy C.fd_BadCopy ["self", "at"] (spIni K "at")
  bi_BadCopy : Binds K C.fd_BadCopy ["self", "at"] []
  xf_BadCopy : XfC K C.BadCopy
  no_BadCopy : PySem.W.findIn K (.ref C.BadCopy) "at" = some none
  ec_BadCopy : ExcC K C.BadCopy
  er_Refused : ErrC K C.Refused C.fi_Refused "at"
  in_Refused : ∀ k, FnOk P w K mg base (L2.CX P w) (k + 1) C.fi_Refused C.fd_Refused ["self", "at"] (spIni K "at")
  bi_Refused : Binds K C.fd_Refused ["self", "at"] []
  xf_Refused : XfC K C.Refused
  no_Refused : PySem.W.findIn K (.ref C.Refused) "at" = some none
  ec_Refused : ExcC K C.Refused
  er_NoState : ErrC K C.NoState C.fi_NoState "state"
  in_NoState : ∀ k, FnOk P w K mg base (L2.CX P w) (k + 1) C.fi_NoState C.fd_NoState ["self", "state"] (spIni K "state")
  bi_NoState : Binds K C.fd_NoState ["self", "state"] []
  xf_NoState : XfC K C.NoState
  no_NoState : PySem.W.findIn K (.ref C.NoState) "state" = some none
  ec_NoState : ExcC K C.NoState
  co_law_strangers_right : codeOf8 K C.f_law_strangers_right = some (.ref C.c_law_strangers_right)
  tb_law_strangers_right : LamX.TabB base mg C.c_law_strangers_right C.p_law_strangers_right
  tm_law_strangers_right : (C.p_law_strangers_right, ("_law_strangers_right" : Str) ++ ".<locals>." ++ "<lambda>") ∈ t
  tu_law_strangers_right : ∀ p ∈ t, p.1 = C.p_law_strangers_right → p.2 = ("_law_strangers_right" : Str) ++ ".<locals>." ++ "<lambda>"
def pm_210 : {α : Type} → List α → List α → List α := fun _ zs => match zs with
  | [x0, x1, x2] => [x2, x1, x0]
  | zs => zs
theorem gr_210 : GRel 0 3 3 (@pm_210 V) (@pm_210 D) := fun K S vs ds us es i1 i2 h1 h2 => by
  match us, es, i2, h2 with
  | [x0, x1, x2], _, .cons r0 (.cons r1 (.cons r2 (.nil))), _ => exact ⟨.cons r2 (.cons r1 (.cons r0 (.nil))), rfl⟩
def pm_3210 : {α : Type} → List α → List α → List α := fun _ zs => match zs with
  | [x0, x1, x2, x3] => [x3, x2, x1, x0]
  | zs => zs
theorem gr_3210 : GRel 0 4 4 (@pm_3210 V) (@pm_3210 D) := fun K S vs ds us es i1 i2 h1 h2 => by
  match us, es, i2, h2 with
  | [x0, x1, x2, x3], _, .cons r0 (.cons r1 (.cons r2 (.cons r3 (.nil)))), _ => exact ⟨.cons r3 (.cons r2 (.cons r1 (.cons r0 (.nil)))), rfl⟩
theorem sc_is_integer : FnScope ["value"] ["value"] (defScope (top 8)) := ⟨rfl, rfl, rfl, by decide +kernel, rfl, by decide +kernel, by decide +kernel⟩
theorem sc_is_below : FnScope ["value", "many"] ["value", "many"] (defScope (top 9)) := ⟨rfl, rfl, rfl, by decide +kernel, rfl, by decide +kernel, by decide +kernel⟩
theorem sc_is_sequence : FnScope ["value"] ["value"] (defScope (top 10)) := ⟨rfl, rfl, rfl, by decide +kernel, rfl, by decide +kernel, by decide +kernel⟩
theorem sc_is_sequence_of : FnScope ["value", "length"] ["value", "length"] (defScope (top 11)) := ⟨rfl, rfl, rfl, by decide +kernel, rfl, by decide +kernel, by decide +kernel⟩
theorem sc_fault_place : FnScope ["value", "many", "at", "item"] ["value", "many"] (defScope (top 12)) := ⟨rfl, rfl, rfl, by decide +kernel, rfl, by decide +kernel, by decide +kernel⟩
theorem sc_is_table : FnScope ["value"] ["value"] (defScope (top 17)) := ⟨rfl, rfl, rfl, by decide +kernel, rfl, by decide +kernel, by decide +kernel⟩
theorem sc_check_tables : FnScope ["value", "at", "table"] ["value"] (defScope (top 18)) := ⟨rfl, rfl, rfl, by decide +kernel, rfl, by decide +kernel, by decide +kernel⟩
theorem sc_Machine_init : FnScope ["self", "tables"] ["self", "tables"] (defScope (inClass (top 19) 0)) := ⟨rfl, rfl, rfl, by decide +kernel, rfl, by decide +kernel, by decide +kernel⟩
theorem sc_check_state : FnScope ["machine", "value"] ["machine", "value"] (defScope (top 20)) := ⟨rfl, rfl, rfl, by decide +kernel, rfl, by decide +kernel, by decide +kernel⟩
theorem sc_log_fault : FnScope ["machine", "value"] ["machine", "value"] (defScope (top 21)) := ⟨rfl, rfl, rfl, by decide +kernel, rfl, by decide +kernel, by decide +kernel⟩
theorem sc_check_log : FnScope ["machine", "value", "at"] ["machine", "value"] (defScope (top 22)) := ⟨rfl, rfl, rfl, by decide +kernel, rfl, by decide +kernel, by decide +kernel⟩
theorem sc_check_age : FnScope ["log", "value"] ["log", "value"] (defScope (top 24)) := ⟨rfl, rfl, rfl, by decide +kernel, rfl, by decide +kernel, by decide +kernel⟩
theorem sc_ends_by_age : FnScope ["machine", "log", "ends", "rows", "deed", "later"] ["machine", "log"] (defScope (top 26)) := ⟨rfl, rfl, rfl, by decide +kernel, rfl, by decide +kernel, by decide +kernel⟩
theorem sc_latest_place : FnScope ["ends", "state", "age", "place"] ["ends", "state", "age"] (defScope (top 27)) := ⟨rfl, rfl, rfl, by decide +kernel, rfl, by decide +kernel, by decide +kernel⟩
theorem sc_return_ages : FnScope ["machine", "log", "state", "age", "found", "now", "at"] ["machine", "log", "state", "age"] (defScope (top 28)) := ⟨rfl, rfl, rfl, by decide +kernel, rfl, by decide +kernel, by decide +kernel⟩
theorem sc_tail_place : FnScope ["machine", "log", "state", "age"] ["machine", "log", "state", "age"] (defScope (top 29)) := ⟨rfl, rfl, rfl, by decide +kernel, rfl, by decide +kernel, by decide +kernel⟩
theorem sc_check_copies : FnScope ["machine", "log", "value", "copy"] ["machine", "log", "value"] (defScope (top 30)) := ⟨rfl, rfl, rfl, by decide +kernel, rfl, by decide +kernel, by decide +kernel⟩
theorem sc_needed_place : FnScope ["machine", "log", "copies", "ends", "state", "age"] ["machine", "log", "copies"] (defScope (top 31)) := ⟨rfl, rfl, rfl, by decide +kernel, rfl, by decide +kernel, by decide +kernel⟩
theorem sc_law_box : FnScope ["script", "k", "cell", "great"] ["script", "k"] (defScope (top 33)) := ⟨rfl, rfl, rfl, by decide +kernel, rfl, by decide +kernel, by decide +kernel⟩
theorem sc_law_take : FnScope ["box", "many", "digit", "raw"] ["box", "many"] (defScope (top 34)) := ⟨rfl, rfl, rfl, by decide +kernel, rfl, by decide +kernel, by decide +kernel⟩
theorem sc_law_pick : FnScope ["box", "some"] ["box", "some"] (defScope (top 35)) := ⟨rfl, rfl, rfl, by decide +kernel, rfl, by decide +kernel, by decide +kernel⟩
theorem sc_law_tables : FnScope ["box", "many", "found", "deed", "style", "by", "other", "s"] ["box"] (defScope (top 36)) := ⟨rfl, rfl, rfl, by decide +kernel, rfl, by decide +kernel, by decide +kernel⟩
theorem sc_law_led : FnScope ["tables", "state", "log", "deed"] ["tables", "state", "log"] (defScope (top 37)) := ⟨rfl, rfl, rfl, by decide +kernel, rfl, by decide +kernel, by decide +kernel⟩
theorem sc_law_refused : FnScope ["ask", "e"] ["ask"] (defScope (top 38)) := ⟨rfl, rfl, rfl, by decide +kernel, rfl, by decide +kernel, by decide +kernel⟩
theorem sc_law_strangers_right : FnScope ["box", "machine", "log", "many", "length", "bad", "age", "work", "some"] ["box", "machine", "log"] (defScope (top 39)) := ⟨rfl, rfl, rfl, by decide +kernel, rfl, by decide +kernel, by decide +kernel⟩
theorem sc_law : FnScope ["script", "k", "box", "tables", "machine", "many", "log", "places", "copies", "turn", "state", "age", "back", "due", "last", "later", "some", "v", "j", "step", "copy"] ["script"] (defScope (top 40)) := ⟨rfl, rfl, rfl, by decide +kernel, rfl, by decide +kernel, by decide +kernel⟩
/-! ### what each def means -/
def tyN : D → Option String
  | .non => some "NoneType" | .bl _ => some "bool" | .int _ => some "int" | .str _ => some "str" | .lst _ => some "list" | .tup _ => some "tuple" | _ => none
def isI : D → Bool
  | .int _ => true | _ => false
def seqD : D → Option (List D)
  | .lst ds => some ds | .tup ds => some ds | _ => none
def belowD (x : D) (m : Int) : Bool := match x with
  | .int v => decide (0 ≤ v) && decide (v < m)
  | _ => false
def faultD (m : Int) : List D → Nat → D
  | [], _ => .non
  | x :: xs, i => if belowD x m = true then faultD m xs (i + 1) else .int i
def plain (x : D) : Prop := (tyN x).isSome = true
def sp_is_integer (_ : Cs) : Spc := fun h ds Ψ _ => h = none ∧ ∃ x, ds = [x] ∧ plain x ∧ Ψ (.bl (isI x)) none
def sp_is_below (_ : Cs) : Spc := fun h ds Ψ _ => h = none ∧ ∃ x m, ds = [x, .int m] ∧ plain x ∧ Ψ (.bl (belowD x m)) none
def sp_is_sequence (_ : Cs) : Spc := fun h ds Ψ _ => h = none ∧ ∃ x, ds = [x] ∧ plain x ∧ Ψ (.bl (seqD x).isSome) none
def lenIs (x : D) (n : Int) : Bool := match seqD x with
  | some xs => decide ((xs.length : Int) = n)
  | none => false
def sp_is_sequence_of (_ : Cs) : Spc := fun h ds Ψ _ => h = none ∧ ∃ x n, ds = [x, .int n] ∧ plain x ∧ Ψ (.bl (lenIs x n)) none
def sp_fault_place (_ : Cs) : Spc := fun h ds Ψ _ => h = none ∧ ∃ x xs m, ds = [x, .int m] ∧ seqD x = some xs ∧ (∀ y ∈ xs, plain y) ∧ Ψ (faultD m xs 0) none
def isNo : D → Bool
  | .non => true | _ => false
def isTab (x : D) : Bool := match seqD x with
  | some xs => decide (1 ≤ xs.length) && decide (xs.length ≤ 12) && isNo (faultD xs.length xs 0)
  | none => false
/-- a value all of whose items, if it has items, are plain -/
def plain2 (x : D) : Prop := plain x ∧ ∀ xs, seqD x = some xs → ∀ y ∈ xs, plain y
def plain3 (x : D) : Prop := plain x ∧ ∀ xs, seqD x = some xs → ∀ y ∈ xs, plain2 y
def sp_is_table (_ : Cs) : Spc := fun h ds Ψ _ => h = none ∧ ∃ x, ds = [x] ∧ plain2 x ∧ Ψ (.bl (isTab x)) none
def tupD (x : D) : D := .tup ((seqD x).getD [])
def lenD (x : D) : Nat := ((seqD x).getD []).length
/-- the first table that is none, or is of another length than the first -/
def tabsFault (n : Nat) : List D → Nat → Option Nat
  | [], _ => none
  | x :: xs, i => if (isTab x && decide (lenD x = n)) = true then tabsFault n xs (i + 1) else some i
def chkTabs (x : D) : Except Int (List D) := match seqD x with
  | some (y :: ys) => if (y :: ys).length ≤ 8 then (match tabsFault (lenD y) (y :: ys) 0 with | none => .ok ((y :: ys).map tupD) | some i => .error i) else .error (-1)
  | _ => .error (-1)
def sp_check_tables (C : Cs) : Spc := fun h ds Ψ Ξ => h = none ∧ ∃ x, ds = [x] ∧ plain3 x ∧ match chkTabs x with
  | .ok rs => Ψ (.tup rs) none
  | .error i => Ξ C.BadMachine "at" (.int i)
def machO (C : Cs) (rs : List D) : OD := .i C.Machine ["tables", "deeds", "states"] [.tup rs, .int rs.length, .int (lenD (rs.headD .non))]
def sp_Machine_init (C : Cs) : Spc := fun h ds Ψ Ξ => h = some (.i C.Machine [] []) ∧ ∃ x, ds = [x] ∧ plain3 x ∧ match chkTabs x with
  | .ok rs => Ψ .non (some (machO C rs))
  | .error i => Ξ C.BadMachine "at" (.int i)
/-- tables of numbers -/
abbrev Tbl := List (List Nat)
def numsD (ns : List Nat) : List D := ns.map fun n => .int (n : Nat)
def rowD (r : List Nat) : D := .tup (r.map fun n => .int (n : Nat))
def mach (C : Cs) (t : Tbl) : D := (machO C (t.map rowD)).d
structure Good (t : Tbl) : Prop where
  ne : t ≠ []
  le : t.length ≤ 8
  row : ∀ r ∈ t, 1 ≤ r.length ∧ r.length ≤ 12 ∧ r.length = (t.headD []).length ∧ ∀ n ∈ r, n < r.length
def wd (t : Tbl) : Nat := (t.headD []).length
def sp_check_state (C : Cs) : Spc := fun h ds Ψ Ξ => h = none ∧ ∃ t x, ds = [mach C t, x] ∧ plain x ∧ (if belowD x (wd t : Nat) = true then Ψ .non none else Ξ C.NoState "state" x)
def logF (n : Nat) (x : D) : D := match seqD x with
  | some xs => if xs.length ≤ 10000 then faultD n xs 0 else .int (-1)
  | none => .int (-1)
def sp_log_fault (C : Cs) : Spc := fun h ds Ψ _ => h = none ∧ ∃ t x, ds = [mach C t, x] ∧ plain2 x ∧ Ψ (logF t.length x) none
def sp_check_log (C : Cs) : Spc := fun h ds Ψ Ξ => h = none ∧ ∃ t x, ds = [mach C t, x] ∧ plain2 x ∧ match logF t.length x with
  | .int i => Ξ C.BadLog "at" (.int i)
  | _ => Ψ (tupD x) none
def sp_check_age (C : Cs) : Spc := fun h ds Ψ Ξ => h = none ∧ ∃ y ys x, ds = [y, x] ∧ seqD y = some ys ∧ plain x ∧ (if belowD x ((ys.length + 1 : Nat) : Int) = true then Ψ .non none else Ξ C.Refused "at" x)
/-- where the deeds lead a state -/
def stepN (t : Tbl) (s d : Nat) : Nat := ((t[d]?).getD [])[s]?.getD 0
def ledN (t : Tbl) (s : Nat) (ns : List Nat) : Nat := ns.foldl (stepN t) s
def endRow (t : Tbl) (ns : List Nat) : List Nat := (List.range (wd t)).map fun s => ledN t s ns
def endsL (t : Tbl) : List Nat → Tbl
  | [] => [endRow t []]
  | d :: ns => endRow t (d :: ns) :: endsL t ns
structure LogOk (t : Tbl) (ns : List Nat) : Prop where
  lt : ∀ n ∈ ns, n < t.length
  le : ns.length ≤ 1000
def sp_ends_by_age (C : Cs) : Spc := fun h ds Ψ _ => h = none ∧ ∃ t ns, Good t ∧ LogOk t ns ∧ ds = [mach C t, rowD ns] ∧ Ψ (.lst ((endsL t ns).map rowD)) none
def cellN (rows : Tbl) (u s : Nat) : Nat := ((rows[u]?).getD [])[s]?.getD 0
/-- the last row that has at s what the row u has -/
structure Latest (rows : Tbl) (s u j : Nat) : Prop where
  lt : j < rows.length
  eq : cellN rows j s = cellN rows u s
  up : ∀ k, j < k → k < rows.length → cellN rows k s ≠ cellN rows u s
def sp_latest_place (_ : Cs) : Spc := fun h ds Ψ _ => h = none ∧ ∃ (rows : Tbl) (s u : Nat), ds = [.lst (rows.map rowD), .int (s : Nat), .int (u : Nat)] ∧ (∀ r ∈ rows, s < r.length) ∧ u < rows.length ∧ rows.length ≤ 10000 ∧ ∀ j, Latest rows s u j → Ψ (.int (j : Nat)) none
/-- the gates that a question about a copy goes through -/
def gate (C : Cs) (ds : List D) (Ξ : Addr → Str → D → Prop) (G : Tbl → List Nat → Nat → Nat → Prop) : Prop := ∃ t x st ag, Good t ∧ ds = [mach C t, x, st, ag] ∧ plain2 x ∧ plain st ∧ plain ag ∧
  ((∃ i, logF t.length x = .int i ∧ Ξ C.BadLog "at" (.int i)) ∨ ∃ ns, LogOk t ns ∧ seqD x = some (numsD ns) ∧ ((belowD st (wd t : Nat) = false ∧ Ξ C.NoState "state" st) ∨ ∃ s : Nat, st = .int (s : Nat) ∧ s < wd t ∧
    ((belowD ag ((ns.length + 1 : Nat) : Int) = false ∧ Ξ C.Refused "at" ag) ∨ ∃ u : Nat, ag = .int (u : Nat) ∧ u ≤ ns.length ∧ G t ns s u)))
/-- the ages from u on at which the state s is there again -/
def backL (t : Tbl) (ns : List Nat) (s u : Nat) : List Nat := (List.range (ns.length + 1 - u)).map (u + ·) |>.filter fun v => decide (ledN t s ((ns.take v).drop u) = s)
def sp_return_ages (C : Cs) : Spc := fun h ds Ψ Ξ => h = none ∧ gate C ds Ξ fun t ns s u => Ψ (rowD (backL t ns s u)) none
/-- the last age from which s comes to where it comes from u -/
structure LastAt (t : Tbl) (ns : List Nat) (s u j : Nat) : Prop where
  le : j ≤ ns.length
  eq : ledN t s (ns.drop j) = ledN t s (ns.drop u)
  up : ∀ k, j < k → k ≤ ns.length → ledN t s (ns.drop k) ≠ ledN t s (ns.drop u)
def sp_tail_place (C : Cs) : Spc := fun h ds Ψ Ξ => h = none ∧ gate C ds Ξ fun t ns s u => ∀ j, LastAt t ns s u j → Ψ (.int (j : Nat)) none
def copB (m n : Int) (c : D) : Bool := match seqD c with
  | some [a, b] => belowD a m && belowD b n
  | _ => false
def copsB (m n : Int) (x : D) : Bool := match seqD x with
  | some cs => cs.all (copB m n)
  | none => false
def sp_check_copies (C : Cs) : Spc := fun h ds Ψ Ξ => h = none ∧ ∃ t y ys x, ds = [mach C t, y, x] ∧ seqD y = some ys ∧ plain3 x ∧ (if copsB (wd t : Nat) ((ys.length + 1 : Nat) : Int) x = true then Ψ .non none else Ξ C.BadCopy "at" x)
/-- a copy, told as a tuple or as a list -/
def IsCop (p : Nat × Nat) (c : D) : Prop := seqD c = some [.int (p.1 : Nat), .int (p.2 : Nat)]
/-- the least of some last ages, or the log's length -/
structure Least (t : Tbl) (ns : List Nat) (cs : List (Nat × Nat)) (m : Nat) : Prop where
  mem : (cs = [] ∧ m = ns.length) ∨ ∃ p ∈ cs, LastAt t ns p.1 p.2 m
  le : ∀ p ∈ cs, ∀ j, LastAt t ns p.1 p.2 j → m ≤ j
def sp_needed_place (C : Cs) : Spc := fun h ds Ψ Ξ => h = none ∧ ∃ t x y, Good t ∧ ds = [mach C t, x, y] ∧ plain2 x ∧
  ((∃ i, logF t.length x = .int i ∧ Ξ C.BadLog "at" (.int i)) ∨ ∃ ns, LogOk t ns ∧ seqD x = some (numsD ns) ∧ plain3 y ∧ ((copsB (wd t : Nat) ((ns.length + 1 : Nat) : Int) y = false ∧ Ξ C.BadCopy "at" y) ∨
    ∃ cs ds, seqD y = some ds ∧ Paired IsCop cs ds ∧ cs.length ≤ 1000 ∧ (∀ p ∈ cs, p.1 < wd t ∧ p.2 ≤ ns.length) ∧ ∀ m, Least t ns cs m → Ψ (.int (m : Nat)) none))
/-! the law's own -/
def GoodB (o : OD) : Prop := ∃ a b : Int, 0 ≤ a ∧ o = .l [.int a, .int b]
def so_law_box (_ : Cs) : SpcO := fun ds Ψ => ∃ ns k, ds = [.scr ns, .int k] ∧ 0 ≤ k ∧ k < 1000 ∧ ns.length < 1000 ∧ ∀ o, GoodB o → Ψ o
def sp_law_take (_ : Cs) : Spc := fun h ds Ψ _ => ∃ o m, h = some o ∧ GoodB o ∧ ds = [.int m] ∧ 0 < m ∧ m < 1000000 ∧ ∀ d o', 0 ≤ d → d < m → GoodB o' → Ψ (.int d) (some o')
def sp_law_pick (_ : Cs) : Spc := fun h ds Ψ _ => ∃ o xs, h = some o ∧ GoodB o ∧ ds = [.lst xs] ∧ xs ≠ [] ∧ xs.length < 1000000 ∧ ∀ d o', d ∈ xs → GoodB o' → Ψ d (some o')
def tbsD (t : Tbl) : D := .lst (t.map rowD)
def sp_law_tables (_ : Cs) : Spc := fun h ds Ψ _ => ∃ o, h = some o ∧ GoodB o ∧ ds = [] ∧ ∀ t o', Good t → GoodB o' → Ψ (tbsD t) (some o')
def sp_law_led (_ : Cs) : Spc := fun h ds Ψ _ => h = none ∧ ∃ t s ns, Good t ∧ s < wd t ∧ (∀ n ∈ ns, n < t.length) ∧ ds = [tbsD t, .int (s : Nat), rowD ns] ∧ Ψ (.int (ledN t s ns : Nat)) none
def sp_law_strangers_right (C : Cs) : Spc := fun h ds Ψ _ => ∃ o t ns, h = some o ∧ GoodB o ∧ Good t ∧ (∀ n ∈ ns, n < t.length) ∧ ns.length ≤ 9 ∧ ds = [mach C t, rowD ns] ∧ ∀ o', GoodB o' → Ψ (.bl true) (some o')
def sp_law (_ : Cs) : Spc := spLaw fun ns => ns.length ≤ 63
section
variable {P : Program} {w : World} {K : Fg} {mg : Str → Option Value} {base : Heap} {t : List (Addr × Str)} {C : Cs}
abbrev x_is_integer (K : Fg) (C : Cs) : WS := (wRet (wAndV (wCB (wIsI K) (wCons (wVar 0) (wCons (wC (.raw (.ty "int"))) wNil))) (wNotV (wCB (wIsI K) (wCons (wVar 0) (wCons (wC (.raw (.ty "bool"))) wNil))))))
theorem dv_is_integer (T : Txt P w K mg base t C)  (cdv : Value) (A : Around) (outer : List Env) (s : Shared) (H : Hp) (E : XK) (c : Cok (cxOf (L2.CX P w) P w K mg base ["value"] "is_integer" (defScope (top 8)) C.f_is_integer cdv A outer s H E) (wishOf E) 1) :
    PSs (cxOf (L2.CX P w) P w K mg base ["value"] "is_integer" (defScope (top 8)) C.f_is_integer cdv A outer s H E) (defBody (top 8)) (lS K (tb0 t) (wishOf E) (x_is_integer K C)) := by
  exact (s_one (s_ret (e_and (e_blt call_isi ok_isI T.b_isinstance PyProof.Rows.Boot.isinstance (a_cons (e_var (i := 0)) (a_cons (e_ty T.b_int PyProof.Rows.Boot.int) a_nil))) (e_and1 (e_not (e_blt call_isi ok_isI T.b_isinstance PyProof.Rows.Boot.isinstance (a_cons (e_var (i := 0)) (a_cons (e_ty T.b_bool PyProof.Rows.Boot.bool) a_nil))))))))
abbrev x_is_below (K : Fg) (C : Cs) : WS := (wRet (wAndV (wCallA 1 0 (sp_is_integer C) (fun ds _ => ds) (wCons (wVar 0) wNil) wNil) (wChain wLe wLt (wC (.int 0)) (wVar 0) (wVar 1))))
theorem dv_is_below (T : Txt P w K mg base t C) (G_is_integer : FnG P w K mg base 2 C.f_is_integer C.d_is_integer ["value"] (lSp K t 1 (sp_is_integer C))) (U_is_integer : Dn K mg "is_integer" C.f_is_integer C.d_is_integer ["value"] 1) (cdv : Value) (A : Around) (outer : List Env) (s : Shared) (H : Hp) (E : XK) (c : Cok (cxOf (L2.CX P w) P w K mg base ["value", "many"] "is_below" (defScope (top 9)) C.f_is_below cdv A outer s H E) (wishOf E) 2) :
    PSs (cxOf (L2.CX P w) P w K mg base ["value", "many"] "is_below" (defScope (top 9)) C.f_is_below cdv A outer s H E) (defBody (top 9)) (lS K (tb0 t) (wishOf E) (x_is_below K C)) := by
  exact (s_one (s_ret (e_and (e_call c G_is_integer U_is_integer (a_cons (e_var (i := 0)) a_nil)) (e_and1 (e_leLt e_int (e_var (i := 0)) (e_var (i := 1)))))))
abbrev x_is_sequence (K : Fg) (C : Cs) : WS := (wRet (wCB (wIsT K) (wCons (wVar 0) (wCons (wTup (wCons (wC (.raw (.ty "list"))) (wCons (wC (.raw (.ty "tuple"))) wNil))) wNil))))
theorem dv_is_sequence (T : Txt P w K mg base t C)  (cdv : Value) (A : Around) (outer : List Env) (s : Shared) (H : Hp) (E : XK) (c : Cok (cxOf (L2.CX P w) P w K mg base ["value"] "is_sequence" (defScope (top 10)) C.f_is_sequence cdv A outer s H E) (wishOf E) 1) :
    PSs (cxOf (L2.CX P w) P w K mg base ["value"] "is_sequence" (defScope (top 10)) C.f_is_sequence cdv A outer s H E) (defBody (top 10)) (lS K (tb0 t) (wishOf E) (x_is_sequence K C)) := by
  exact (s_one (s_ret (e_blt call_isiT ok_isT T.b_isinstance PyProof.Rows.Boot.isinstance (a_cons (e_var (i := 0)) (a_cons (e_tup (a_cons (e_ty T.b_list PyProof.Rows.Boot.list) (a_cons (e_ty T.b_tuple PyProof.Rows.Boot.tuple) a_nil))) a_nil)))))
abbrev x_is_sequence_of (K : Fg) (C : Cs) : WS := (wRet (wAndV (wCallA 1 0 (sp_is_sequence C) (fun ds _ => ds) (wCons (wVar 0) wNil) wNil) (wOp (wEq false) (wCB wLen (wCons (wVar 0) wNil)) (wVar 1))))
theorem dv_is_sequence_of (T : Txt P w K mg base t C) (G_is_sequence : FnG P w K mg base 2 C.f_is_sequence C.d_is_sequence ["value"] (lSp K t 1 (sp_is_sequence C))) (U_is_sequence : Dn K mg "is_sequence" C.f_is_sequence C.d_is_sequence ["value"] 1) (cdv : Value) (A : Around) (outer : List Env) (s : Shared) (H : Hp) (E : XK) (c : Cok (cxOf (L2.CX P w) P w K mg base ["value", "length"] "is_sequence_of" (defScope (top 11)) C.f_is_sequence_of cdv A outer s H E) (wishOf E) 2) :
    PSs (cxOf (L2.CX P w) P w K mg base ["value", "length"] "is_sequence_of" (defScope (top 11)) C.f_is_sequence_of cdv A outer s H E) (defBody (top 11)) (lS K (tb0 t) (wishOf E) (x_is_sequence_of K C)) := by
  exact (s_one (s_ret (e_and (e_call c G_is_sequence U_is_sequence (a_cons (e_var (i := 0)) a_nil)) (e_and1 (e_eq c (e_blt cr_lenD ok_len T.b_len PyProof.Rows.Boot.len (a_cons (e_var (i := 0)) a_nil)) (e_var (i := 1)))))))
abbrev x_fault_place (K : Fg) (C : Cs) : WS := (wSeq (wFor (wiEnum (wCons (wVar 0) wNil)) (wgTup 2 (wgCons (wgName 2) (wgCons (wgName 3) wgNil))) (wIfS (wNot (wB (wCallA 2 0 (sp_is_below C) (fun ds _ => ds) (wCons (wVar 3) (wCons (wVar 1) wNil)) wNil))) (wRet (wVar 2)) wNext)) (wRet (wC .non)))
theorem dv_fault_place (T : Txt P w K mg base t C) (G_is_below : FnG P w K mg base 3 C.f_is_below C.d_is_below ["value", "many"] (lSp K t 2 (sp_is_below C))) (U_is_below : Dn K mg "is_below" C.f_is_below C.d_is_below ["value", "many"] 2) (cdv : Value) (A : Around) (outer : List Env) (s : Shared) (H : Hp) (E : XK) (c : Cok (cxOf (L2.CX P w) P w K mg base ["value", "many", "at", "item"] "fault_place" (defScope (top 12)) C.f_fault_place cdv A outer s H E) (wishOf E) 3) :
    PSs (cxOf (L2.CX P w) P w K mg base ["value", "many", "at", "item"] "fault_place" (defScope (top 12)) C.f_fault_place cdv A outer s H E) (defBody (top 12)) (lS K (tb0 t) (wishOf E) (x_fault_place K C)) := by
  exact (s_cons (s_for (passes_of rfl) rfl (d_enum rfl T.b_enumerate (a_cons (e_var (i := 0)) a_nil)) (g_two sc_fault_place.nd rfl 2 3) (s_one (s_if (t_not (t_val (e_call c G_is_below U_is_below (a_cons (e_var (i := 3)) (a_cons (e_var (i := 1)) a_nil))))) (s_one (s_ret (e_var (i := 2)))) s_nil))) (s_one (s_ret e_non)))
abbrev x_is_table (K : Fg) (C : Cs) : WS := (wSeq (wIfS (wOr (wNot (wB (wCallA 1 0 (sp_is_sequence C) (fun ds _ => ds) (wCons (wVar 0) wNil) wNil))) (wNot (wB (wChain wLe wLe (wC (.int 1)) (wCB wLen (wCons (wVar 0) wNil)) (wC (.int 12)))))) (wRet (wC (.bl false))) wNext) (wRet (wOp (wIsN false) (wCallA 2 0 (sp_fault_place C) (fun ds _ => ds) (wCons (wVar 0) (wCons (wCB wLen (wCons (wVar 0) wNil)) wNil)) wNil) (wC .non))))
theorem dv_is_table (T : Txt P w K mg base t C) (G_fault_place : FnG P w K mg base 4 C.f_fault_place C.d_fault_place ["value", "many"] (lSp K t 2 (sp_fault_place C))) (U_fault_place : Dn K mg "fault_place" C.f_fault_place C.d_fault_place ["value", "many"] 2) (G_is_sequence : FnG P w K mg base 2 C.f_is_sequence C.d_is_sequence ["value"] (lSp K t 1 (sp_is_sequence C))) (U_is_sequence : Dn K mg "is_sequence" C.f_is_sequence C.d_is_sequence ["value"] 1) (cdv : Value) (A : Around) (outer : List Env) (s : Shared) (H : Hp) (E : XK) (c : Cok (cxOf (L2.CX P w) P w K mg base ["value"] "is_table" (defScope (top 17)) C.f_is_table cdv A outer s H E) (wishOf E) 4) :
    PSs (cxOf (L2.CX P w) P w K mg base ["value"] "is_table" (defScope (top 17)) C.f_is_table cdv A outer s H E) (defBody (top 17)) (lS K (tb0 t) (wishOf E) (x_is_table K C)) := by
  exact (s_cons (s_if (t_pw (q_or (t_not (t_val (e_call c G_is_sequence U_is_sequence (a_cons (e_var (i := 0)) a_nil)))) (q_or1 (t_not (t_leLe e_int (e_blt cr_lenD ok_len T.b_len PyProof.Rows.Boot.len (a_cons (e_var (i := 0)) a_nil)) (e_globI T.MOST_STATES)))))) (s_one (s_ret e_bl)) s_nil) (s_one (s_ret (e_isN (e_call c G_fault_place U_fault_place (a_cons (e_var (i := 0)) (a_cons (e_blt cr_lenD ok_len T.b_len PyProof.Rows.Boot.len (a_cons (e_var (i := 0)) a_nil)) a_nil))) e_non))))
abbrev x_check_tables (K : Fg) (C : Cs) : WS := (wSeq (wIfS (wOr (wNot (wB (wCallA 1 0 (sp_is_sequence C) (fun ds _ => ds) (wCons (wVar 0) wNil) wNil))) (wNot (wB (wChain wLe wLe (wC (.int 1)) (wCB wLen (wCons (wVar 0) wNil)) (wC (.int 8)))))) (wRaise C.BadMachine "at" (wCons (wUn wNeg (wC (.int 1))) wNil)) wNext) (wSeq (wFor (wiEnum (wCons (wVar 0) wNil)) (wgTup 2 (wgCons (wgName 1) (wgCons (wgName 2) wgNil))) (wIfS (wOr (wNot (wB (wCallA 1 0 (sp_is_table C) (fun ds _ => ds) (wCons (wVar 2) wNil) wNil))) (wB (wOp (wEq true) (wCB wLen (wCons (wVar 2) wNil)) (wCB wLen (wCons (wOp wIx (wVar 0) (wC (.int 0))) wNil))))) (wRaise C.BadMachine "at" (wCons (wVar 1) wNil)) wNext)) (wRet (wCB wTupOf (wCons (wLc (wiSeq (wVar 0)) (wgName 2) wTrue (wCB wTupOf (wCons (wVar 2) wNil)) [2]) wNil)))))
theorem dv_check_tables (T : Txt P w K mg base t C) (G_is_sequence : FnG P w K mg base 2 C.f_is_sequence C.d_is_sequence ["value"] (lSp K t 1 (sp_is_sequence C))) (U_is_sequence : Dn K mg "is_sequence" C.f_is_sequence C.d_is_sequence ["value"] 1) (G_is_table : FnG P w K mg base 5 C.f_is_table C.d_is_table ["value"] (lSp K t 1 (sp_is_table C))) (U_is_table : Dn K mg "is_table" C.f_is_table C.d_is_table ["value"] 1) (cdv : Value) (A : Around) (outer : List Env) (s : Shared) (H : Hp) (E : XK) (c : Cok (cxOf (L2.CX P w) P w K mg base ["value", "at", "table"] "check_tables" (defScope (top 18)) C.f_check_tables cdv A outer s H E) (wishOf E) 5) :
    PSs (cxOf (L2.CX P w) P w K mg base ["value", "at", "table"] "check_tables" (defScope (top 18)) C.f_check_tables cdv A outer s H E) (defBody (top 18)) (lS K (tb0 t) (wishOf E) (x_check_tables K C)) := by
  exact (s_cons (s_if (t_pw (q_or (t_not (t_val (e_call c G_is_sequence U_is_sequence (a_cons (e_var (i := 0)) a_nil)))) (q_or1 (t_not (t_leLe e_int (e_blt cr_lenD ok_len T.b_len PyProof.Rows.Boot.len (a_cons (e_var (i := 0)) a_nil)) (e_globI T.MOST_TABLES)))))) (s_one (s_raise rfl c T.er_BadMachine (T.in_BadMachine _) T.bi_BadMachine passes_none T.BadMachine (a_cons (e_neg e_int) a_nil))) s_nil) (s_cons (s_for (passes_of rfl) rfl (d_enum rfl T.b_enumerate (a_cons (e_var (i := 0)) a_nil)) (g_two sc_check_tables.nd rfl 1 2) (s_one (s_if (t_pw (q_or (t_not (t_val (e_call c G_is_table U_is_table (a_cons (e_var (i := 2)) a_nil)))) (q_or1 (t_ne c (e_blt cr_lenD ok_len T.b_len PyProof.Rows.Boot.len (a_cons (e_var (i := 2)) a_nil)) (e_blt cr_lenD ok_len T.b_len PyProof.Rows.Boot.len (a_cons (e_ix (e_var (i := 0)) e_int) a_nil)))))) (s_one (s_raise rfl c T.er_BadMachine (T.in_BadMachine _) T.bi_BadMachine passes_none T.BadMachine (a_cons (e_var (i := 1)) a_nil))) s_nil))) (s_one (s_ret (e_bty call_tuple_of ok_tupOf T.b_tuple PyProof.Rows.Boot.tuple (a_cons (e_lc (own := [("table", 2)]) rfl sc_check_tables.nd (i_seq (e_var (i := 0))) (blk_ok (by kernel_rfl)) (fun _ _ _ _ _ => (g_c 2 sc_check_tables.nd)) (fun _ _ _ _ _ => f_nil) (fun _ _ _ _ _ => (e_bty call_tuple_of ok_tupOf T.b_tuple PyProof.Rows.Boot.tuple (a_cons (e_var (i := 2)) a_nil)))) a_nil))))))
abbrev x_Machine_init (K : Fg) (C : Cs) : WS := (wSeq (wFset C.Machine "tables" 0 (wCallA 1 0 (sp_check_tables C) (fun ds _ => ds) (wCons (wVar 1) wNil) wNil)) (wSeq (wFset C.Machine "deeds" 0 (wCB wLen (wCons (wFldO C.Machine "tables" 0) wNil))) (wFset C.Machine "states" 0 (wCB wLen (wCons (wOp wIx (wFldO C.Machine "tables" 0) (wC (.int 0))) wNil)))))
theorem dv_Machine_init (T : Txt P w K mg base t C) (G_check_tables : FnG P w K mg base 6 C.f_check_tables C.d_check_tables ["value"] (lSp K t 1 (sp_check_tables C))) (U_check_tables : Dn K mg "check_tables" C.f_check_tables C.d_check_tables ["value"] 1) (cdv : Value) (A : Around) (outer : List Env) (s : Shared) (H : Hp) (E : XK) (c : Cok (cxOf (L2.CX P w) P w K mg base ["self", "tables"] "Machine.__init__" (defScope (inClass (top 19) 0)) C.f_Machine_init cdv A outer s H E) (wishOf E) 6) :
    PSs (cxOf (L2.CX P w) P w K mg base ["self", "tables"] "Machine.__init__" (defScope (inClass (top 19) 0)) C.f_Machine_init cdv A outer s H E) (defBody (inClass (top 19) 0)) (lS K (tb0 t) (wishOf E) (x_Machine_init K C)) := by
  exact (s_cons (s_fset 0 T.cl_Machine T.na_Machine_tables (e_call c G_check_tables U_check_tables (a_cons (e_var (i := 1)) a_nil))) (s_cons (s_fset 0 T.cl_Machine T.na_Machine_deeds (e_blt cr_lenD ok_len T.b_len PyProof.Rows.Boot.len (a_cons (e_fldO (i := 0) T.cl_Machine T.na_Machine_tables) a_nil))) (s_one (s_fset 0 T.cl_Machine T.na_Machine_states (e_blt cr_lenD ok_len T.b_len PyProof.Rows.Boot.len (a_cons (e_ix (e_fldO (i := 0) T.cl_Machine T.na_Machine_tables) e_int) a_nil))))))
abbrev x_check_state (K : Fg) (C : Cs) : WS := (wIfS (wNot (wB (wCallA 2 0 (sp_is_below C) (fun ds _ => ds) (wCons (wVar 1) (wCons (wFld C.Machine "states" (wVar 0)) wNil)) wNil))) (wRaise C.NoState "state" (wCons (wVar 1) wNil)) wNext)
theorem dv_check_state (T : Txt P w K mg base t C) (G_is_below : FnG P w K mg base 3 C.f_is_below C.d_is_below ["value", "many"] (lSp K t 2 (sp_is_below C))) (U_is_below : Dn K mg "is_below" C.f_is_below C.d_is_below ["value", "many"] 2) (cdv : Value) (A : Around) (outer : List Env) (s : Shared) (H : Hp) (E : XK) (c : Cok (cxOf (L2.CX P w) P w K mg base ["machine", "value"] "check_state" (defScope (top 20)) C.f_check_state cdv A outer s H E) (wishOf E) 3) :
    PSs (cxOf (L2.CX P w) P w K mg base ["machine", "value"] "check_state" (defScope (top 20)) C.f_check_state cdv A outer s H E) (defBody (top 20)) (lS K (tb0 t) (wishOf E) (x_check_state K C)) := by
  exact (s_one (s_if (t_not (t_val (e_call c G_is_below U_is_below (a_cons (e_var (i := 1)) (a_cons (e_fld T.cl_Machine T.na_Machine_states (e_var (i := 0))) a_nil))))) (s_one (s_raise rfl c T.er_NoState (T.in_NoState _) T.bi_NoState passes_none T.NoState (a_cons (e_var (i := 1)) a_nil))) s_nil))
abbrev x_log_fault (K : Fg) (C : Cs) : WS := (wSeq (wIfS (wOr (wNot (wB (wCallA 1 0 (sp_is_sequence C) (fun ds _ => ds) (wCons (wVar 1) wNil) wNil))) (wB (wOp wGt (wCB wLen (wCons (wVar 1) wNil)) (wC (.int 10000))))) (wRet (wUn wNeg (wC (.int 1)))) wNext) (wRet (wCallA 2 0 (sp_fault_place C) (fun ds _ => ds) (wCons (wVar 1) (wCons (wFld C.Machine "deeds" (wVar 0)) wNil)) wNil)))
theorem dv_log_fault (T : Txt P w K mg base t C) (G_fault_place : FnG P w K mg base 4 C.f_fault_place C.d_fault_place ["value", "many"] (lSp K t 2 (sp_fault_place C))) (U_fault_place : Dn K mg "fault_place" C.f_fault_place C.d_fault_place ["value", "many"] 2) (G_is_sequence : FnG P w K mg base 2 C.f_is_sequence C.d_is_sequence ["value"] (lSp K t 1 (sp_is_sequence C))) (U_is_sequence : Dn K mg "is_sequence" C.f_is_sequence C.d_is_sequence ["value"] 1) (cdv : Value) (A : Around) (outer : List Env) (s : Shared) (H : Hp) (E : XK) (c : Cok (cxOf (L2.CX P w) P w K mg base ["machine", "value"] "log_fault" (defScope (top 21)) C.f_log_fault cdv A outer s H E) (wishOf E) 4) :
    PSs (cxOf (L2.CX P w) P w K mg base ["machine", "value"] "log_fault" (defScope (top 21)) C.f_log_fault cdv A outer s H E) (defBody (top 21)) (lS K (tb0 t) (wishOf E) (x_log_fault K C)) := by
  exact (s_cons (s_if (t_pw (q_or (t_not (t_val (e_call c G_is_sequence U_is_sequence (a_cons (e_var (i := 1)) a_nil)))) (q_or1 (t_gt (e_blt cr_lenD ok_len T.b_len PyProof.Rows.Boot.len (a_cons (e_var (i := 1)) a_nil)) (e_globI T.MOST_DEEDS))))) (s_one (s_ret (e_neg e_int))) s_nil) (s_one (s_ret (e_call c G_fault_place U_fault_place (a_cons (e_var (i := 1)) (a_cons (e_fld T.cl_Machine T.na_Machine_deeds (e_var (i := 0))) a_nil))))))
abbrev x_check_log (K : Fg) (C : Cs) : WS := (wSeq (wAsg 2 (wCallA 2 0 (sp_log_fault C) (fun ds _ => ds) (wCons (wVar 0) (wCons (wVar 1) wNil)) wNil)) (wSeq (wIfS (wB (wOp (wIsN true) (wVar 2) (wC .non))) (wRaise C.BadLog "at" (wCons (wVar 2) wNil)) wNext) (wRet (wCB wTupOf (wCons (wVar 1) wNil)))))
theorem dv_check_log (T : Txt P w K mg base t C) (G_log_fault : FnG P w K mg base 5 C.f_log_fault C.d_log_fault ["machine", "value"] (lSp K t 2 (sp_log_fault C))) (U_log_fault : Dn K mg "log_fault" C.f_log_fault C.d_log_fault ["machine", "value"] 2) (cdv : Value) (A : Around) (outer : List Env) (s : Shared) (H : Hp) (E : XK) (c : Cok (cxOf (L2.CX P w) P w K mg base ["machine", "value", "at"] "check_log" (defScope (top 22)) C.f_check_log cdv A outer s H E) (wishOf E) 5) :
    PSs (cxOf (L2.CX P w) P w K mg base ["machine", "value", "at"] "check_log" (defScope (top 22)) C.f_check_log cdv A outer s H E) (defBody (top 22)) (lS K (tb0 t) (wishOf E) (x_check_log K C)) := by
  exact (s_cons (s_set sc_check_log.nd 2 (e_call c G_log_fault U_log_fault (a_cons (e_var (i := 0)) (a_cons (e_var (i := 1)) a_nil)))) (s_cons (s_if (t_notN (e_var (i := 2)) e_non) (s_one (s_raise rfl c T.er_BadLog (T.in_BadLog _) T.bi_BadLog passes_none T.BadLog (a_cons (e_var (i := 2)) a_nil))) s_nil) (s_one (s_ret (e_bty call_tuple_of ok_tupOf T.b_tuple PyProof.Rows.Boot.tuple (a_cons (e_var (i := 1)) a_nil))))))
abbrev x_check_age (K : Fg) (C : Cs) : WS := (wIfS (wNot (wB (wCallA 2 0 (sp_is_below C) (fun ds _ => ds) (wCons (wVar 1) (wCons (wOp wAdd (wCB wLen (wCons (wVar 0) wNil)) (wC (.int 1))) wNil)) wNil))) (wRaise C.Refused "at" (wCons (wVar 1) wNil)) wNext)
theorem dv_check_age (T : Txt P w K mg base t C) (G_is_below : FnG P w K mg base 3 C.f_is_below C.d_is_below ["value", "many"] (lSp K t 2 (sp_is_below C))) (U_is_below : Dn K mg "is_below" C.f_is_below C.d_is_below ["value", "many"] 2) (cdv : Value) (A : Around) (outer : List Env) (s : Shared) (H : Hp) (E : XK) (c : Cok (cxOf (L2.CX P w) P w K mg base ["log", "value"] "check_age" (defScope (top 24)) C.f_check_age cdv A outer s H E) (wishOf E) 3) :
    PSs (cxOf (L2.CX P w) P w K mg base ["log", "value"] "check_age" (defScope (top 24)) C.f_check_age cdv A outer s H E) (defBody (top 24)) (lS K (tb0 t) (wishOf E) (x_check_age K C)) := by
  exact (s_one (s_if (t_not (t_val (e_call c G_is_below U_is_below (a_cons (e_var (i := 1)) (a_cons (e_add (e_blt cr_lenD ok_len T.b_len PyProof.Rows.Boot.len (a_cons (e_var (i := 0)) a_nil)) e_int) a_nil))))) (s_one (s_raise rfl c T.er_Refused (T.in_Refused _) T.bi_Refused passes_none T.Refused (a_cons (e_var (i := 1)) a_nil))) s_nil))
abbrev x_ends_by_age (K : Fg) (C : Cs) : WS := (wSeq (wAsg 2 (wRgT (wCons (wFld C.Machine "states" (wVar 0)) wNil))) (wSeq (wAsgO 3 (woLst (wCons (wVar 2) wNil))) (wSeq (wFor (wiRev (wVar 1)) (wgName 4) (wSeq (wAsg 2 (wCB wTupOf (wCons (wLc (wiSeq (wOp wIx (wFld C.Machine "tables" (wVar 0)) (wVar 4))) (wgName 5) wTrue (wOp wIx (wVar 2) (wVar 5)) [5]) wNil))) (wApp 3 (wVar 2)))) (wRet (wRevSl (wVar 3) (wUn wNeg (wC (.int 1))))))))
theorem dv_ends_by_age (T : Txt P w K mg base t C)  (cdv : Value) (A : Around) (outer : List Env) (s : Shared) (H : Hp) (E : XK) (c : Cok (cxOf (L2.CX P w) P w K mg base ["machine", "log", "ends", "rows", "deed", "later"] "ends_by_age" (defScope (top 26)) C.f_ends_by_age cdv A outer s H E) (wishOf E) 1) :
    PSs (cxOf (L2.CX P w) P w K mg base ["machine", "log", "ends", "rows", "deed", "later"] "ends_by_age" (defScope (top 26)) C.f_ends_by_age cdv A outer s H E) (defBody (top 26)) (lS K (tb0 t) (wishOf E) (x_ends_by_age K C)) := by
  exact (s_cons (s_set sc_ends_by_age.nd 2 (e_tupRg rfl T.b_tuple T.b_range (e_fld T.cl_Machine T.na_Machine_states (e_var (i := 0))))) (s_cons (s_setO sc_ends_by_age.nd 3 (o_lst (a_cons (e_var (i := 2)) a_nil))) (s_cons (s_for (passes_of rfl) rfl (i_rvd T.b_reversed (e_var (i := 1))) (g_nm sc_ends_by_age.nd 4) (s_cons (s_set sc_ends_by_age.nd 2 (e_bty call_tuple_of ok_tupOf T.b_tuple PyProof.Rows.Boot.tuple (a_cons (e_lc (own := [("later", 5)]) rfl sc_ends_by_age.nd (i_seq (e_ix (e_fld T.cl_Machine T.na_Machine_tables (e_var (i := 0))) (e_var (i := 4)))) (blk_ok (by kernel_rfl)) (fun _ _ _ _ _ => (g_c 5 sc_ends_by_age.nd)) (fun _ _ _ _ _ => f_nil) (fun _ _ _ _ _ => (e_ix (e_var (i := 2)) (e_var (i := 5))))) a_nil))) (s_one (s_app 3 (e_var (i := 2)))))) (s_one (s_ret (e_revSl (e_var (i := 3)) (e_neg e_int)))))))
abbrev x_latest_place (K : Fg) (C : Cs) : WS := (wSeq (wAsg 3 (wOp wSub (wCB wLen (wCons (wVar 0) wNil)) (wC (.int 1)))) (wSeq (wWhile (wB (wOp (wEq true) (wOp wIx (wOp wIx (wVar 0) (wVar 3)) (wVar 1)) (wOp wIx (wOp wIx (wVar 0) (wVar 2)) (wVar 1)))) (wAug (fun i j => i - j) 3 (wC (.int 1)))) (wRet (wVar 3))))
theorem dv_latest_place (T : Txt P w K mg base t C)  (cdv : Value) (A : Around) (outer : List Env) (s : Shared) (H : Hp) (E : XK) (c : Cok (cxOf (L2.CX P w) P w K mg base ["ends", "state", "age", "place"] "latest_place" (defScope (top 27)) C.f_latest_place cdv A outer s H E) (wishOf E) 1) :
    PSs (cxOf (L2.CX P w) P w K mg base ["ends", "state", "age", "place"] "latest_place" (defScope (top 27)) C.f_latest_place cdv A outer s H E) (defBody (top 27)) (lS K (tb0 t) (wishOf E) (x_latest_place K C)) := by
  exact (s_cons (s_set sc_latest_place.nd 3 (e_sub (e_blt cr_lenD ok_len T.b_len PyProof.Rows.Boot.len (a_cons (e_var (i := 0)) a_nil)) e_int)) (s_cons (s_while (passes_of rfl) (t_ne c (e_ix (e_ix (e_var (i := 0)) (e_var (i := 3))) (e_var (i := 1))) (e_ix (e_ix (e_var (i := 0)) (e_var (i := 2))) (e_var (i := 1)))) (s_one (s_augS sc_latest_place.nd 3 e_int))) (s_one (s_ret (e_var (i := 3))))))
abbrev x_return_ages (K : Fg) (C : Cs) : WS := (wSeq (wAsg 1 (wCallA 2 0 (sp_check_log C) (fun ds _ => ds) (wCons (wVar 0) (wCons (wVar 1) wNil)) wNil)) (wSeq (wDrop (wCallA 2 0 (sp_check_state C) (fun ds _ => ds) (wCons (wVar 0) (wCons (wVar 2) wNil)) wNil)) (wSeq (wDrop (wCallA 2 0 (sp_check_age C) (fun ds _ => ds) (wCons (wVar 1) (wCons (wVar 3) wNil)) wNil)) (wSeq (wAsgO 4 (woLst (wCons (wVar 3) wNil))) (wSeq (wAsg 5 (wVar 2)) (wSeq (wFor (wiRg2 (wCons (wVar 3) (wCons (wCB wLen (wCons (wVar 1) wNil)) wNil))) (wgName 6) (wSeq (wAsg 5 (wOp wIx (wOp wIx (wFld C.Machine "tables" (wVar 0)) (wOp wIx (wVar 1) (wVar 6))) (wVar 5))) (wIfS (wB (wOp (wEq false) (wVar 5) (wVar 2))) (wApp 4 (wOp wAdd (wVar 6) (wC (.int 1)))) wNext))) (wRet (wCB wTupOf (wCons (wVar 4) wNil)))))))))
theorem dv_return_ages (T : Txt P w K mg base t C) (G_check_age : FnG P w K mg base 4 C.f_check_age C.d_check_age ["log", "value"] (lSp K t 2 (sp_check_age C))) (U_check_age : Dn K mg "check_age" C.f_check_age C.d_check_age ["log", "value"] 2) (G_check_log : FnG P w K mg base 6 C.f_check_log C.d_check_log ["machine", "value"] (lSp K t 2 (sp_check_log C))) (U_check_log : Dn K mg "check_log" C.f_check_log C.d_check_log ["machine", "value"] 2) (G_check_state : FnG P w K mg base 4 C.f_check_state C.d_check_state ["machine", "value"] (lSp K t 2 (sp_check_state C))) (U_check_state : Dn K mg "check_state" C.f_check_state C.d_check_state ["machine", "value"] 2) (cdv : Value) (A : Around) (outer : List Env) (s : Shared) (H : Hp) (E : XK) (c : Cok (cxOf (L2.CX P w) P w K mg base ["machine", "log", "state", "age", "found", "now", "at"] "return_ages" (defScope (top 28)) C.f_return_ages cdv A outer s H E) (wishOf E) 6) :
    PSs (cxOf (L2.CX P w) P w K mg base ["machine", "log", "state", "age", "found", "now", "at"] "return_ages" (defScope (top 28)) C.f_return_ages cdv A outer s H E) (defBody (top 28)) (lS K (tb0 t) (wishOf E) (x_return_ages K C)) := by
  exact (s_cons (s_set sc_return_ages.nd 1 (e_call c G_check_log U_check_log (a_cons (e_var (i := 0)) (a_cons (e_var (i := 1)) a_nil)))) (s_cons (s_drop (e_call c G_check_state U_check_state (a_cons (e_var (i := 0)) (a_cons (e_var (i := 2)) a_nil)))) (s_cons (s_drop (e_call c G_check_age U_check_age (a_cons (e_var (i := 1)) (a_cons (e_var (i := 3)) a_nil)))) (s_cons (s_setO sc_return_ages.nd 4 (o_lst (a_cons (e_var (i := 3)) a_nil))) (s_cons (s_set sc_return_ages.nd 5 (e_var (i := 2))) (s_cons (s_for (passes_of rfl) rfl (i_rng2 T.b_range (a_cons (e_var (i := 3)) (a_cons (e_blt cr_lenD ok_len T.b_len PyProof.Rows.Boot.len (a_cons (e_var (i := 1)) a_nil)) a_nil))) (g_nm sc_return_ages.nd 6) (s_cons (s_set sc_return_ages.nd 5 (e_ix (e_ix (e_fld T.cl_Machine T.na_Machine_tables (e_var (i := 0))) (e_ix (e_var (i := 1)) (e_var (i := 6)))) (e_var (i := 5)))) (s_one (s_if (t_eq c (e_var (i := 5)) (e_var (i := 2))) (s_one (s_app 4 (e_add (e_var (i := 6)) e_int))) s_nil)))) (s_one (s_ret (e_bty call_tuple_of ok_tupOf T.b_tuple PyProof.Rows.Boot.tuple (a_cons (e_var (i := 4)) a_nil))))))))))
abbrev x_tail_place (K : Fg) (C : Cs) : WS := (wSeq (wAsg 1 (wCallA 2 0 (sp_check_log C) (fun ds _ => ds) (wCons (wVar 0) (wCons (wVar 1) wNil)) wNil)) (wSeq (wDrop (wCallA 2 0 (sp_check_state C) (fun ds _ => ds) (wCons (wVar 0) (wCons (wVar 2) wNil)) wNil)) (wSeq (wDrop (wCallA 2 0 (sp_check_age C) (fun ds _ => ds) (wCons (wVar 1) (wCons (wVar 3) wNil)) wNil)) (wRet (wCallA 3 0 (sp_latest_place C) (fun ds _ => ds) (wCons (wCallA 2 0 (sp_ends_by_age C) (fun ds _ => ds) (wCons (wVar 0) (wCons (wVar 1) wNil)) wNil) (wCons (wVar 2) (wCons (wVar 3) wNil))) wNil)))))
theorem dv_tail_place (T : Txt P w K mg base t C) (G_check_age : FnG P w K mg base 4 C.f_check_age C.d_check_age ["log", "value"] (lSp K t 2 (sp_check_age C))) (U_check_age : Dn K mg "check_age" C.f_check_age C.d_check_age ["log", "value"] 2) (G_check_log : FnG P w K mg base 6 C.f_check_log C.d_check_log ["machine", "value"] (lSp K t 2 (sp_check_log C))) (U_check_log : Dn K mg "check_log" C.f_check_log C.d_check_log ["machine", "value"] 2) (G_check_state : FnG P w K mg base 4 C.f_check_state C.d_check_state ["machine", "value"] (lSp K t 2 (sp_check_state C))) (U_check_state : Dn K mg "check_state" C.f_check_state C.d_check_state ["machine", "value"] 2) (G_ends_by_age : FnG P w K mg base 2 C.f_ends_by_age C.d_ends_by_age ["machine", "log"] (lSp K t 2 (sp_ends_by_age C))) (U_ends_by_age : Dn K mg "ends_by_age" C.f_ends_by_age C.d_ends_by_age ["machine", "log"] 2) (G_latest_place : FnG P w K mg base 2 C.f_latest_place C.d_latest_place ["ends", "state", "age"] (lSp K t 3 (sp_latest_place C))) (U_latest_place : Dn K mg "latest_place" C.f_latest_place C.d_latest_place ["ends", "state", "age"] 3) (cdv : Value) (A : Around) (outer : List Env) (s : Shared) (H : Hp) (E : XK) (c : Cok (cxOf (L2.CX P w) P w K mg base ["machine", "log", "state", "age"] "tail_place" (defScope (top 29)) C.f_tail_place cdv A outer s H E) (wishOf E) 6) :
    PSs (cxOf (L2.CX P w) P w K mg base ["machine", "log", "state", "age"] "tail_place" (defScope (top 29)) C.f_tail_place cdv A outer s H E) (defBody (top 29)) (lS K (tb0 t) (wishOf E) (x_tail_place K C)) := by
  exact (s_cons (s_set sc_tail_place.nd 1 (e_call c G_check_log U_check_log (a_cons (e_var (i := 0)) (a_cons (e_var (i := 1)) a_nil)))) (s_cons (s_drop (e_call c G_check_state U_check_state (a_cons (e_var (i := 0)) (a_cons (e_var (i := 2)) a_nil)))) (s_cons (s_drop (e_call c G_check_age U_check_age (a_cons (e_var (i := 1)) (a_cons (e_var (i := 3)) a_nil)))) (s_one (s_ret (e_call c G_latest_place U_latest_place (a_cons (e_call c G_ends_by_age U_ends_by_age (a_cons (e_var (i := 0)) (a_cons (e_var (i := 1)) a_nil))) (a_cons (e_var (i := 2)) (a_cons (e_var (i := 3)) a_nil)))))))))
abbrev x_check_copies (K : Fg) (C : Cs) : WS := (wSeq (wIfS (wNot (wB (wCallA 1 0 (sp_is_sequence C) (fun ds _ => ds) (wCons (wVar 2) wNil) wNil))) (wRaise C.BadCopy "at" (wCons (wVar 2) wNil)) wNext) (wFor (wiSeq (wVar 2)) (wgName 3) (wSeq (wIfS (wNot (wB (wCallA 2 0 (sp_is_sequence_of C) (fun ds _ => ds) (wCons (wVar 3) (wCons (wC (.int 2)) wNil)) wNil))) (wRaise C.BadCopy "at" (wCons (wVar 2) wNil)) wNext) (wIfS (wOr (wNot (wB (wCallA 2 0 (sp_is_below C) (fun ds _ => ds) (wCons (wOp wIx (wVar 3) (wC (.int 0))) (wCons (wFld C.Machine "states" (wVar 0)) wNil)) wNil))) (wNot (wB (wCallA 2 0 (sp_is_below C) (fun ds _ => ds) (wCons (wOp wIx (wVar 3) (wC (.int 1))) (wCons (wOp wAdd (wCB wLen (wCons (wVar 1) wNil)) (wC (.int 1))) wNil)) wNil)))) (wRaise C.BadCopy "at" (wCons (wVar 2) wNil)) wNext))))
theorem dv_check_copies (T : Txt P w K mg base t C) (G_is_below : FnG P w K mg base 3 C.f_is_below C.d_is_below ["value", "many"] (lSp K t 2 (sp_is_below C))) (U_is_below : Dn K mg "is_below" C.f_is_below C.d_is_below ["value", "many"] 2) (G_is_sequence : FnG P w K mg base 2 C.f_is_sequence C.d_is_sequence ["value"] (lSp K t 1 (sp_is_sequence C))) (U_is_sequence : Dn K mg "is_sequence" C.f_is_sequence C.d_is_sequence ["value"] 1) (G_is_sequence_of : FnG P w K mg base 3 C.f_is_sequence_of C.d_is_sequence_of ["value", "length"] (lSp K t 2 (sp_is_sequence_of C))) (U_is_sequence_of : Dn K mg "is_sequence_of" C.f_is_sequence_of C.d_is_sequence_of ["value", "length"] 2) (cdv : Value) (A : Around) (outer : List Env) (s : Shared) (H : Hp) (E : XK) (c : Cok (cxOf (L2.CX P w) P w K mg base ["machine", "log", "value", "copy"] "check_copies" (defScope (top 30)) C.f_check_copies cdv A outer s H E) (wishOf E) 3) :
    PSs (cxOf (L2.CX P w) P w K mg base ["machine", "log", "value", "copy"] "check_copies" (defScope (top 30)) C.f_check_copies cdv A outer s H E) (defBody (top 30)) (lS K (tb0 t) (wishOf E) (x_check_copies K C)) := by
  exact (s_cons (s_if (t_not (t_val (e_call c G_is_sequence U_is_sequence (a_cons (e_var (i := 2)) a_nil)))) (s_one (s_raise rfl c T.er_BadCopy (T.in_BadCopy _) T.bi_BadCopy passes_none T.BadCopy (a_cons (e_var (i := 2)) a_nil))) s_nil) (s_one (s_for (passes_of rfl) rfl (i_seq (e_var (i := 2))) (g_nm sc_check_copies.nd 3) (s_cons (s_if (t_not (t_val (e_call c G_is_sequence_of U_is_sequence_of (a_cons (e_var (i := 3)) (a_cons e_int a_nil))))) (s_one (s_raise rfl c T.er_BadCopy (T.in_BadCopy _) T.bi_BadCopy passes_none T.BadCopy (a_cons (e_var (i := 2)) a_nil))) s_nil) (s_one (s_if (t_pw (q_or (t_not (t_val (e_call c G_is_below U_is_below (a_cons (e_ix (e_var (i := 3)) e_int) (a_cons (e_fld T.cl_Machine T.na_Machine_states (e_var (i := 0))) a_nil))))) (q_or1 (t_not (t_val (e_call c G_is_below U_is_below (a_cons (e_ix (e_var (i := 3)) e_int) (a_cons (e_add (e_blt cr_lenD ok_len T.b_len PyProof.Rows.Boot.len (a_cons (e_var (i := 1)) a_nil)) e_int) a_nil)))))))) (s_one (s_raise rfl c T.er_BadCopy (T.in_BadCopy _) T.bi_BadCopy passes_none T.BadCopy (a_cons (e_var (i := 2)) a_nil))) s_nil))))))
abbrev x_needed_place (K : Fg) (C : Cs) : WS := (wSeq (wAsg 1 (wCallA 2 0 (sp_check_log C) (fun ds _ => ds) (wCons (wVar 0) (wCons (wVar 1) wNil)) wNil)) (wSeq (wDrop (wCallA 3 0 (sp_check_copies C) (fun ds _ => ds) (wCons (wVar 0) (wCons (wVar 1) (wCons (wVar 2) wNil))) wNil)) (wSeq (wAsg 3 (wCallA 2 0 (sp_ends_by_age C) (fun ds _ => ds) (wCons (wVar 0) (wCons (wVar 1) wNil)) wNil)) (wRet (wMinDf (wCons (wLc (wiSeq (wVar 2)) (wgSeq 2 (wgCons (wgName 4) (wgCons (wgName 5) wgNil))) wTrue (wCallA 3 0 (sp_latest_place C) (fun ds _ => ds) (wCons (wVar 3) (wCons (wVar 4) (wCons (wVar 5) wNil))) wNil) [4, 5]) wNil) (wCons (wCB wLen (wCons (wVar 1) wNil)) wNil))))))
theorem dv_needed_place (T : Txt P w K mg base t C) (G_check_copies : FnG P w K mg base 4 C.f_check_copies C.d_check_copies ["machine", "log", "value"] (lSp K t 3 (sp_check_copies C))) (U_check_copies : Dn K mg "check_copies" C.f_check_copies C.d_check_copies ["machine", "log", "value"] 3) (G_check_log : FnG P w K mg base 6 C.f_check_log C.d_check_log ["machine", "value"] (lSp K t 2 (sp_check_log C))) (U_check_log : Dn K mg "check_log" C.f_check_log C.d_check_log ["machine", "value"] 2) (G_ends_by_age : FnG P w K mg base 2 C.f_ends_by_age C.d_ends_by_age ["machine", "log"] (lSp K t 2 (sp_ends_by_age C))) (U_ends_by_age : Dn K mg "ends_by_age" C.f_ends_by_age C.d_ends_by_age ["machine", "log"] 2) (G_latest_place : FnG P w K mg base 2 C.f_latest_place C.d_latest_place ["ends", "state", "age"] (lSp K t 3 (sp_latest_place C))) (U_latest_place : Dn K mg "latest_place" C.f_latest_place C.d_latest_place ["ends", "state", "age"] 3) (cdv : Value) (A : Around) (outer : List Env) (s : Shared) (H : Hp) (E : XK) (c : Cok (cxOf (L2.CX P w) P w K mg base ["machine", "log", "copies", "ends", "state", "age"] "needed_place" (defScope (top 31)) C.f_needed_place cdv A outer s H E) (wishOf E) 6) :
    PSs (cxOf (L2.CX P w) P w K mg base ["machine", "log", "copies", "ends", "state", "age"] "needed_place" (defScope (top 31)) C.f_needed_place cdv A outer s H E) (defBody (top 31)) (lS K (tb0 t) (wishOf E) (x_needed_place K C)) := by
  exact (s_cons (s_set sc_needed_place.nd 1 (e_call c G_check_log U_check_log (a_cons (e_var (i := 0)) (a_cons (e_var (i := 1)) a_nil)))) (s_cons (s_drop (e_call c G_check_copies U_check_copies (a_cons (e_var (i := 0)) (a_cons (e_var (i := 1)) (a_cons (e_var (i := 2)) a_nil))))) (s_cons (s_set sc_needed_place.nd 3 (e_call c G_ends_by_age U_ends_by_age (a_cons (e_var (i := 0)) (a_cons (e_var (i := 1)) a_nil)))) (s_one (s_ret (e_minDf rfl c T.b_min (a_cons (e_lc (own := [("state", 4), ("age", 5)]) rfl sc_needed_place.nd (i_seq (e_var (i := 2))) (blk_ok (by kernel_rfl)) (fun _ _ _ _ _ => (g_c2S sc_needed_place.nd rfl 4 5)) (fun _ _ _ _ _ => f_nil) (fun _ _ _ _ _ => (e_call (c.blk _ _ _ _ _) G_latest_place U_latest_place (a_cons (e_var (i := 3)) (a_cons (e_var (i := 4)) (a_cons (e_var (i := 5)) a_nil)))))) a_nil) (k_cons (e_blt cr_lenD ok_len T.b_len PyProof.Rows.Boot.len (a_cons (e_var (i := 1)) a_nil)) k_nil)))))))
abbrev x_law_box (K : Fg) (C : Cs) : WS := (wSeq (wAsg 2 (wOp wAdd (wOp wMul (wC (.int 5953)) (wVar 1)) (wC (.int 673)))) (wSeq (wIfS (wB (wOp wLt (wVar 1) (wCB wLen (wCons (wVar 0) wNil)))) (wAsg 2 (wCB wAbs (wCons (wCB wInt (wCons (wOp wIx (wVar 0) (wVar 1)) wNil)) wNil))) (wIfS (wB (wOp wGt (wCB wLen (wCons (wVar 0) wNil)) (wC (.int 0)))) (wAsg 2 (wOp wAdd (wVar 2) (wOp wMul (wOp wMod (wCB wInt (wCons (wCB wAbs (wCons (wCB wInt (wCons (wOp wIx (wVar 0) (wOp wMod (wCB wInt (wCons (wVar 1) wNil)) (wCB wLen (wCons (wVar 0) wNil)))) wNil)) wNil)) wNil)) (wC (.int 2147483563))) (wC (.int 41201))))) wNext)) (wSeq (wAsg 3 (wIf (wB (wOp wGe (wVar 2) (wOp wPow (wC (.int 10)) (wC (.int 18))))) (wVar 2) (wC (.int 0)))) (wRetO (woLst (wCons (wVar 3) (wCons (wOp wAdd (wOp wMod (wCB wInt (wCons (wOp wAdd (wOp wMul (wOp wMod (wCB wInt (wCons (wVar 2) wNil)) (wC (.int 2147483563))) (wC (.int 40014))) (wOp wMul (wC (.int 6857)) (wVar 1))) wNil)) (wC (.int 2147483563))) (wC (.int 1))) wNil)))))))
theorem dv_law_box (T : Txt P w K mg base t C)  (cdv : Value) (A : Around) (outer : List Env) (s : Shared) (H : Hp) (E : XK) (c : Cok (cxOf (L2.CX P w) P w K mg base ["script", "k", "cell", "great"] "_law_box" (defScope (top 33)) C.f_law_box cdv A outer s H E) (wishOf E) 1) :
    PSs (cxOf (L2.CX P w) P w K mg base ["script", "k", "cell", "great"] "_law_box" (defScope (top 33)) C.f_law_box cdv A outer s H E) (defBody (top 33)) (lS K (tb0 t) (wishOf E) (x_law_box K C)) := by
  exact (s_cons (s_set sc_law_box.nd 2 (e_add (e_mul e_int (e_var (i := 1))) e_int)) (s_cons (s_if (t_lt (e_var (i := 1)) (e_blt cr_lenD ok_len T.b_len PyProof.Rows.Boot.len (a_cons (e_var (i := 0)) a_nil))) (s_one (s_set sc_law_box.nd 2 (e_blt call_abs ok_abs T.b_abs PyProof.Rows.Boot.abs (a_cons (e_bty call_int1 ok_int T.b_int PyProof.Rows.Boot.int (a_cons (e_ix (e_var (i := 0)) (e_var (i := 1))) a_nil)) a_nil)))) (s_one (s_if (t_gt (e_blt cr_lenD ok_len T.b_len PyProof.Rows.Boot.len (a_cons (e_var (i := 0)) a_nil)) e_int) (s_one (s_set sc_law_box.nd 2 (e_add (e_var (i := 2)) (e_mul (e_mod (e_bty call_int1 ok_int T.b_int PyProof.Rows.Boot.int (a_cons (e_blt call_abs ok_abs T.b_abs PyProof.Rows.Boot.abs (a_cons (e_bty call_int1 ok_int T.b_int PyProof.Rows.Boot.int (a_cons (e_ix (e_var (i := 0)) (e_mod (e_bty call_int1 ok_int T.b_int PyProof.Rows.Boot.int (a_cons (e_var (i := 1)) a_nil)) (e_blt cr_lenD ok_len T.b_len PyProof.Rows.Boot.len (a_cons (e_var (i := 0)) a_nil)))) a_nil)) a_nil)) a_nil)) e_int) e_int)))) s_nil))) (s_cons (s_set sc_law_box.nd 3 (e_if (t_ge (e_var (i := 2)) (e_pow e_int e_int)) (e_var (i := 2)) e_int)) (s_one (s_retO (o_lst (a_cons (e_var (i := 3)) (a_cons (e_add (e_mod (e_bty call_int1 ok_int T.b_int PyProof.Rows.Boot.int (a_cons (e_add (e_mul (e_mod (e_bty call_int1 ok_int T.b_int PyProof.Rows.Boot.int (a_cons (e_var (i := 2)) a_nil)) e_int) e_int) (e_mul e_int (e_var (i := 1)))) a_nil)) e_int) e_int) a_nil))))))))
abbrev x_law_take (K : Fg) (C : Cs) : WS := (wSeq (wIfS (wB (wOp wGt (wIxO 0 (wC (.int 0))) (wC (.int 0)))) (wSeq (wAsg 2 (wOp wMod (wCB wInt (wCons (wIxO 0 (wC (.int 0))) wNil)) (wVar 1))) (wSeq (wSetO 0 (wC (.int 0)) (wOp wDiv (wIxO 0 (wC (.int 0))) (wVar 1))) (wRet (wVar 2)))) wNext) (wSeq (wAsg 3 (wOp wMod (wCB wInt (wCons (wOp wAdd (wOp wMul (wIxO 0 (wC (.int 1))) (wC (.int 39373))) (wC (.int 331))) wNil)) (wC (.int 2147483647)))) (wSeq (wSetO 0 (wC (.int 1)) (wOp wAdd (wOp wMod (wCB wInt (wCons (wOp wAdd (wOp wMul (wVar 3) (wC (.int 40692))) (wC (.int 37))) wNil)) (wC (.int 2147483399))) (wC (.int 1)))) (wRet (wOp wMod (wCB wInt (wCons (wOp wDiv (wOp wAdd (wOp wMul (wVar 3) (wC (.int 2147483629))) (wIxO 0 (wC (.int 1)))) (wC (.int 8209))) wNil)) (wVar 1))))))
theorem dv_law_take (T : Txt P w K mg base t C)  (cdv : Value) (A : Around) (outer : List Env) (s : Shared) (H : Hp) (E : XK) (c : Cok (cxOf (L2.CX P w) P w K mg base ["box", "many", "digit", "raw"] "_law_take" (defScope (top 34)) C.f_law_take cdv A outer s H E) (wishOf E) 1) :
    PSs (cxOf (L2.CX P w) P w K mg base ["box", "many", "digit", "raw"] "_law_take" (defScope (top 34)) C.f_law_take cdv A outer s H E) (defBody (top 34)) (lS K (tb0 t) (wishOf E) (x_law_take K C)) := by
  exact (s_cons (s_if (t_gt (e_ixO (i := 0) e_int) e_int) (s_cons (s_set sc_law_take.nd 2 (e_mod (e_bty call_int1 ok_int T.b_int PyProof.Rows.Boot.int (a_cons (e_ixO (i := 0) e_int) a_nil)) (e_var (i := 1)))) (s_cons (s_setO1 0 e_int (e_div (e_ixO (i := 0) e_int) (e_var (i := 1)))) (s_one (s_ret (e_var (i := 2)))))) s_nil) (s_cons (s_set sc_law_take.nd 3 (e_mod (e_bty call_int1 ok_int T.b_int PyProof.Rows.Boot.int (a_cons (e_add (e_mul (e_ixO (i := 0) e_int) e_int) e_int) a_nil)) e_int)) (s_cons (s_setO1 0 e_int (e_add (e_mod (e_bty call_int1 ok_int T.b_int PyProof.Rows.Boot.int (a_cons (e_add (e_mul (e_var (i := 3)) e_int) e_int) a_nil)) e_int) e_int)) (s_one (s_ret (e_mod (e_bty call_int1 ok_int T.b_int PyProof.Rows.Boot.int (a_cons (e_div (e_add (e_mul (e_var (i := 3)) e_int) (e_ixO (i := 0) e_int)) e_int) a_nil)) (e_var (i := 1))))))))
abbrev x_law_pick (K : Fg) (C : Cs) : WS := (wRet (wOp wIx (wVar 1) (wCallB 0 1 (sp_law_take C) (wCons (wCB wLen (wCons (wVar 1) wNil)) wNil))))
theorem dv_law_pick (T : Txt P w K mg base t C) (G_law_take : FnG P w K mg base 2 C.f_law_take C.d_law_take ["box", "many"] (lSp K t 2 (sp_law_take C))) (U_law_take : Dn K mg "_law_take" C.f_law_take C.d_law_take ["box", "many"] 2) (cdv : Value) (A : Around) (outer : List Env) (s : Shared) (H : Hp) (E : XK) (c : Cok (cxOf (L2.CX P w) P w K mg base ["box", "some"] "_law_pick" (defScope (top 35)) C.f_law_pick cdv A outer s H E) (wishOf E) 2) :
    PSs (cxOf (L2.CX P w) P w K mg base ["box", "some"] "_law_pick" (defScope (top 35)) C.f_law_pick cdv A outer s H E) (defBody (top 35)) (lS K (tb0 t) (wishOf E) (x_law_pick K C)) := by
  exact (s_one (s_ret (e_ix (e_var (i := 1)) (e_callB c (i := 0) G_law_take U_law_take (a_cons (e_blt cr_lenD ok_len T.b_len PyProof.Rows.Boot.len (a_cons (e_var (i := 1)) a_nil)) a_nil)))))
abbrev x_law_tables (K : Fg) (C : Cs) : WS := (wSeq (wParO 1 2 (wCallB 0 1 (sp_law_pick C) (wCons (wLst (wCons (wC (.int 3)) (wCons (wC (.int 2)) (wCons (wC (.int 4)) (wCons (wC (.int 3)) (wCons (wC (.int 5)) (wCons (wC (.int 1)) wNil))))))) wNil)) (woLst wNil)) (wSeq (wFor (wiRg1 (wCons (wCallB 0 1 (sp_law_pick C) (wCons (wLst (wCons (wC (.int 2)) (wCons (wC (.int 2)) (wCons (wC (.int 1)) (wCons (wC (.int 3)) wNil))))) wNil)) wNil)) (wgName 3) (wSeq (wAsgG (wgTup 2 (wgCons (wgName 4) (wgCons (wgName 5) wgNil))) (wTup (wCons (wCallB 0 1 (sp_law_take C) (wCons (wC (.int 6)) wNil)) (wCons (wCallB 0 1 (sp_law_take C) (wCons (wVar 1) wNil)) wNil)))) (wIfS (wB (wOp (wEq false) (wVar 4) (wC (.int 0)))) (wApp 2 (wCB wTupOf (wCons (wLc (wiRg1 (wCons (wVar 1) wNil)) (wgName 7) wTrue (wOp wMod (wCB wInt (wCons (wOp wAdd (wOp wAdd (wVar 7) (wC (.int 1))) (wVar 5)) wNil)) (wVar 1)) [7]) wNil))) (wIfS (wB (wOp (wEq false) (wVar 4) (wC (.int 1)))) (wApp 2 (wCB wTupOf (wCons (wLc (wiRg1 (wCons (wVar 1) wNil)) (wgName 7) wTrue (wCB wMin2 (wCons (wOp wSub (wVar 1) (wC (.int 1))) (wCons (wOp wAdd (wVar 7) (wC (.int 1))) wNil))) [7]) wNil))) (wIfS (wB (wOp (wEq false) (wVar 4) (wC (.int 2)))) (wApp 2 (wCB wTupOf (wCons (wLc (wiRg1 (wCons (wVar 1) wNil)) (wgName 7) wTrue (wVar 5) [7]) wNil))) (wIfS (wB (wOp (wEq false) (wVar 4) (wC (.int 3)))) (wSeq (wAsg 6 (wCallB 0 1 (sp_law_take C) (wCons (wVar 1) wNil))) (wApp 2 (wCB wTupOf (wCons (wLc (wiRg1 (wCons (wVar 1) wNil)) (wgName 7) wTrue (wIf (wB (wOp (wEq false) (wVar 7) (wVar 5))) (wVar 6) (wIf (wB (wOp (wEq false) (wVar 7) (wVar 6))) (wVar 5) (wVar 7))) [7]) wNil)))) (wApp 2 (wCB wTupOf (wCons (wLc (wiRg1 (wCons (wVar 1) wNil)) (wgName 7) wTrue (wCallB 0 1 (sp_law_take C) (wCons (wVar 1) wNil)) [7]) wNil))))))))) (wRet (wVar 2))))
theorem dv_law_tables (T : Txt P w K mg base t C) (G_law_pick : FnG P w K mg base 3 C.f_law_pick C.d_law_pick ["box", "some"] (lSp K t 2 (sp_law_pick C))) (U_law_pick : Dn K mg "_law_pick" C.f_law_pick C.d_law_pick ["box", "some"] 2) (G_law_take : FnG P w K mg base 2 C.f_law_take C.d_law_take ["box", "many"] (lSp K t 2 (sp_law_take C))) (U_law_take : Dn K mg "_law_take" C.f_law_take C.d_law_take ["box", "many"] 2) (cdv : Value) (A : Around) (outer : List Env) (s : Shared) (H : Hp) (E : XK) (c : Cok (cxOf (L2.CX P w) P w K mg base ["box", "many", "found", "deed", "style", "by", "other", "s"] "_law_tables" (defScope (top 36)) C.f_law_tables cdv A outer s H E) (wishOf E) 3) :
    PSs (cxOf (L2.CX P w) P w K mg base ["box", "many", "found", "deed", "style", "by", "other", "s"] "_law_tables" (defScope (top 36)) C.f_law_tables cdv A outer s H E) (defBody (top 36)) (lS K (tb0 t) (wishOf E) (x_law_tables K C)) := by
  exact (s_cons (s_parG sc_law_tables.nd rfl 1 2 (e_callB c (i := 0) G_law_pick U_law_pick (a_cons (e_lst (a_cons e_int (a_cons e_int (a_cons e_int (a_cons e_int (a_cons e_int (a_cons e_int a_nil))))))) a_nil)) (o_lst a_nil)) (s_cons (s_for (passes_of rfl) rfl (i_rng1 T.b_range (a_cons (e_callB c (i := 0) G_law_pick U_law_pick (a_cons (e_lst (a_cons e_int (a_cons e_int (a_cons e_int (a_cons e_int a_nil))))) a_nil)) a_nil)) (g_nm sc_law_tables.nd 3) (s_cons (s_asg (e_tup (a_cons (e_callB c (i := 0) G_law_take U_law_take (a_cons e_int a_nil)) (a_cons (e_callB c (i := 0) G_law_take U_law_take (a_cons (e_var (i := 1)) a_nil)) a_nil))) (g_two sc_law_tables.nd rfl 4 5)) (s_one (s_if (t_eq c (e_var (i := 4)) e_int) (s_one (s_app 2 (e_bty call_tuple_of ok_tupOf T.b_tuple PyProof.Rows.Boot.tuple (a_cons (e_lc (own := [("s", 7)]) rfl sc_law_tables.nd (i_rng1 T.b_range (a_cons (e_var (i := 1)) a_nil)) (blk_ok (by kernel_rfl)) (fun _ _ _ _ _ => (g_c 7 sc_law_tables.nd)) (fun _ _ _ _ _ => f_nil) (fun _ _ _ _ _ => (e_mod (e_bty call_int1 ok_int T.b_int PyProof.Rows.Boot.int (a_cons (e_add (e_add (e_var (i := 7)) e_int) (e_var (i := 5))) a_nil)) (e_var (i := 1))))) a_nil)))) (s_one (s_if (t_eq c (e_var (i := 4)) e_int) (s_one (s_app 2 (e_bty call_tuple_of ok_tupOf T.b_tuple PyProof.Rows.Boot.tuple (a_cons (e_lc (own := [("s", 7)]) rfl sc_law_tables.nd (i_rng1 T.b_range (a_cons (e_var (i := 1)) a_nil)) (blk_ok (by kernel_rfl)) (fun _ _ _ _ _ => (g_c 7 sc_law_tables.nd)) (fun _ _ _ _ _ => f_nil) (fun _ _ _ _ _ => (e_blt (call_min2 rfl) ok_min2 T.b_min PyProof.Rows.Boot.min (a_cons (e_sub (e_var (i := 1)) e_int) (a_cons (e_add (e_var (i := 7)) e_int) a_nil))))) a_nil)))) (s_one (s_if (t_eq c (e_var (i := 4)) e_int) (s_one (s_app 2 (e_bty call_tuple_of ok_tupOf T.b_tuple PyProof.Rows.Boot.tuple (a_cons (e_lc (own := [("s", 7)]) rfl sc_law_tables.nd (i_rng1 T.b_range (a_cons (e_var (i := 1)) a_nil)) (blk_ok (by kernel_rfl)) (fun _ _ _ _ _ => (g_c 7 sc_law_tables.nd)) (fun _ _ _ _ _ => f_nil) (fun _ _ _ _ _ => (e_var (i := 5)))) a_nil)))) (s_one (s_if (t_eq c (e_var (i := 4)) e_int) (s_cons (s_set sc_law_tables.nd 6 (e_callB c (i := 0) G_law_take U_law_take (a_cons (e_var (i := 1)) a_nil))) (s_one (s_app 2 (e_bty call_tuple_of ok_tupOf T.b_tuple PyProof.Rows.Boot.tuple (a_cons (e_lc (own := [("s", 7)]) rfl sc_law_tables.nd (i_rng1 T.b_range (a_cons (e_var (i := 1)) a_nil)) (blk_ok (by kernel_rfl)) (fun _ _ _ _ _ => (g_c 7 sc_law_tables.nd)) (fun _ _ _ _ _ => f_nil) (fun _ _ _ _ _ => (e_if (t_eq (c.blk _ _ _ _ _) (e_var (i := 7)) (e_var (i := 5))) (e_var (i := 6)) (e_if (t_eq (c.blk _ _ _ _ _) (e_var (i := 7)) (e_var (i := 6))) (e_var (i := 5)) (e_var (i := 7)))))) a_nil))))) (s_one (s_app 2 (e_bty call_tuple_of ok_tupOf T.b_tuple PyProof.Rows.Boot.tuple (a_cons (e_lc (own := [("s", 7)]) rfl sc_law_tables.nd (i_rng1 T.b_range (a_cons (e_var (i := 1)) a_nil)) (blk_ok (by kernel_rfl)) (fun _ _ _ _ _ => (g_c 7 sc_law_tables.nd)) (fun _ _ _ _ _ => f_nil) (fun _ _ _ _ _ => (e_callB (c.blk _ _ _ _ _) (i := 0) G_law_take U_law_take (a_cons (e_var (i := 1)) a_nil)))) a_nil)))))))))))))) (s_one (s_ret (e_var (i := 2))))))
abbrev x_law_led (K : Fg) (C : Cs) : WS := (wSeq (wFor (wiSeq (wVar 2)) (wgName 3) (wAsg 1 (wOp wIx (wOp wIx (wVar 0) (wVar 3)) (wVar 1)))) (wRet (wVar 1)))
theorem dv_law_led (T : Txt P w K mg base t C)  (cdv : Value) (A : Around) (outer : List Env) (s : Shared) (H : Hp) (E : XK) (c : Cok (cxOf (L2.CX P w) P w K mg base ["tables", "state", "log", "deed"] "_law_led" (defScope (top 37)) C.f_law_led cdv A outer s H E) (wishOf E) 1) :
    PSs (cxOf (L2.CX P w) P w K mg base ["tables", "state", "log", "deed"] "_law_led" (defScope (top 37)) C.f_law_led cdv A outer s H E) (defBody (top 37)) (lS K (tb0 t) (wishOf E) (x_law_led K C)) := by
  exact (s_cons (s_for (passes_of rfl) rfl (i_seq (e_var (i := 2))) (g_nm sc_law_led.nd 3) (s_one (s_set sc_law_led.nd 1 (e_ix (e_ix (e_var (i := 0)) (e_var (i := 3))) (e_var (i := 1)))))) (s_one (s_ret (e_var (i := 1)))))
abbrev x_law_refused (K : Fg) (C : Cs) (wa : WE) : WS := (wSeq (wTryM K (wDrop wa) [(.ref C.BadLog, 1, fun a cls d => (wRet (wTup (wCons (wC (.str "log")) (wCons (wXf a cls d C.BadLog "at" (wVar 1)) (wCons (wCB (rIsXD K cls d a) (wCons (wVar 1) (wCons (wC (.raw (.ref C.AgeError))) wNil))) wNil)))))), (.ref C.BadCopy, 1, fun a cls d => (wRet (wTup (wCons (wC (.str "copy")) (wCons (wCB wRepr (wCons (wXf a cls d C.BadCopy "at" (wVar 1)) wNil)) (wCons (wCB (rIsXD K cls d a) (wCons (wVar 1) (wCons (wC (.raw (.ref C.AgeError))) wNil))) wNil)))))), (.ref C.Refused, 1, fun a cls d => (wRet (wTup (wCons (wC (.str "refused")) (wCons (wCB wRepr (wCons (wXf a cls d C.Refused "at" (wVar 1)) wNil)) (wCons (wCB (rIsXD K cls d a) (wCons (wVar 1) (wCons (wC (.raw (.ref C.AgeError))) wNil))) wNil)))))), (.ref C.NoState, 1, fun a cls d => (wRet (wTup (wCons (wC (.str "state")) (wCons (wCB wRepr (wCons (wXf a cls d C.NoState "state" (wVar 1)) wNil)) (wCons (wCB (rIsXD K cls d a) (wCons (wVar 1) (wCons (wC (.raw (.ty "KeyError"))) wNil))) wNil))))))]) (wRet (wC .non)))
theorem dv_law_refused {τ : Tb} (T : Txt P w K mg base t C)  (cdv : Value) (A : Around) (outer : List Env) (s : Shared) (H : Hp) (E : XK) (wa : WE)
    (hA : ∀ (W : WX) (pn : List (Addr × Obj)) (xe : Value → Shared → Prop) (p1 p2 : Pos), Takes ((cxOf (L2.CX P w) P w K mg base ["ask", "e"] "_law_refused" (defScope (top 38)) C.f_law_refused cdv A outer s H E).tr pn xe) W → PE ((cxOf (L2.CX P w) P w K mg base ["ask", "e"] "_law_refused" (defScope (top 38)) C.f_law_refused cdv A outer s H E).tr pn xe) (.Call (.Name "ask" p1) [] [] p2) (lE K τ W wa)) (c : Cok (cxOf (L2.CX P w) P w K mg base ["ask", "e"] "_law_refused" (defScope (top 38)) C.f_law_refused cdv A outer s H E) (wishOf E) 1) :
    PSs (cxOf (L2.CX P w) P w K mg base ["ask", "e"] "_law_refused" (defScope (top 38)) C.f_law_refused cdv A outer s H E) (defBody (top 38)) (lS K τ (wishOf E) (x_law_refused K C wa)) :=
  (s_cons (s_tryM sc_law_refused.nd c (fun W' pn xe c' hp' => (s_one (s_drop (hA _ _ _ _ _ c'.tk)))) (.cons ⟨rfl, by decide, .inl T.BadLog⟩ (fun a oe cls d pn hz hf => (s_one (s_ret (e_tup (a_cons e_str (a_cons (e_xf T.xf_BadLog T.no_BadLog hz hf (e_var (i := 1))) (a_cons (e_blt (call_isX hz hf) ok_isX T.b_isinstance PyProof.Rows.Boot.isinstance (a_cons (e_var (i := 1)) (a_cons (e_cls T.AgeError) a_nil))) a_nil))))))) (.cons ⟨rfl, by decide, .inl T.BadCopy⟩ (fun a oe cls d pn hz hf => (s_one (s_ret (e_tup (a_cons e_str (a_cons (e_blt (cr_reprU c) ok_repr T.b_repr PyProof.Rows.Boot.repr (a_cons (e_xf T.xf_BadCopy T.no_BadCopy hz hf (e_var (i := 1))) a_nil)) (a_cons (e_blt (call_isX hz hf) ok_isX T.b_isinstance PyProof.Rows.Boot.isinstance (a_cons (e_var (i := 1)) (a_cons (e_cls T.AgeError) a_nil))) a_nil))))))) (.cons ⟨rfl, by decide, .inl T.Refused⟩ (fun a oe cls d pn hz hf => (s_one (s_ret (e_tup (a_cons e_str (a_cons (e_blt (cr_reprU c) ok_repr T.b_repr PyProof.Rows.Boot.repr (a_cons (e_xf T.xf_Refused T.no_Refused hz hf (e_var (i := 1))) a_nil)) (a_cons (e_blt (call_isX hz hf) ok_isX T.b_isinstance PyProof.Rows.Boot.isinstance (a_cons (e_var (i := 1)) (a_cons (e_cls T.AgeError) a_nil))) a_nil))))))) (.cons ⟨rfl, by decide, .inl T.NoState⟩ (fun a oe cls d pn hz hf => (s_one (s_ret (e_tup (a_cons e_str (a_cons (e_blt (cr_reprU c) ok_repr T.b_repr PyProof.Rows.Boot.repr (a_cons (e_xf T.xf_NoState T.no_NoState hz hf (e_var (i := 1))) a_nil)) (a_cons (e_blt (call_isX hz hf) ok_isX T.b_isinstance PyProof.Rows.Boot.isinstance (a_cons (e_var (i := 1)) (a_cons (e_ty T.b_KeyError (by decide +kernel)) a_nil))) a_nil))))))) .nil))))) (s_one (s_ret e_non)))
abbrev x_law_strangers_right (K : Fg) (C : Cs) : WS := (wSeq (wPar 3 4 (wCons (wFld C.Machine "states" (wVar 1)) (wCons (wCB wLen (wCons (wVar 2) wNil)) wNil))) (wSeq (wAsg 5 (wCallB 0 1 (sp_law_pick C) (wCons (wLst (wCons (wVar 3) (wCons (wOp wSub (wC (.int 0)) (wC (.int 1))) (wCons (wC .non) (wCons (wC (.bl true)) (wCons (wC (.str "0")) wNil)))))) wNil))) (wSeq (wAsg 6 (wCallB 0 1 (sp_law_pick C) (wCons (wLst (wCons (wOp wAdd (wVar 4) (wC (.int 1))) (wCons (wOp wSub (wC (.int 0)) (wC (.int 1))) (wCons (wC .non) (wCons (wC (.bl true)) (wCons (wC (.str "0")) wNil)))))) wNil))) (wSeq (wFor (wiSeq (wTup (wCons (wC (.raw (.ref C.f_return_ages))) (wCons (wC (.raw (.ref C.f_tail_place))) wNil)))) (wgName 7) (wSeq (wIfS (wB (wOp (wEq true) (wLam (x_law_refused K C) 1 (wCallV 7 4 [(C.f_return_ages, (sp_return_ages C)), (C.f_tail_place, (sp_tail_place C))] (wCons (wVar 1) (wCons (wOp wAdd (wCB wLstOf (wCons (wVar 2) wNil)) (wLst (wCons (wFld C.Machine "deeds" (wVar 1)) wNil))) (wCons (wVar 5) (wCons (wVar 6) wNil)))))) (wTup (wCons (wC (.str "log")) (wCons (wVar 4) (wCons (wC (.bl true)) wNil)))))) (wRet (wC (.bl false))) wNext) (wSeq (wIfS (wB (wOp (wEq true) (wLam (x_law_refused K C) 1 (wCallV 7 4 [(C.f_return_ages, (sp_return_ages C)), (C.f_tail_place, (sp_tail_place C))] (wCons (wVar 1) (wCons (wVar 2) (wCons (wVar 5) (wCons (wVar 6) wNil)))))) (wTup (wCons (wC (.str "state")) (wCons (wCB wRepr (wCons (wVar 5) wNil)) (wCons (wC (.bl true)) wNil)))))) (wRet (wC (.bl false))) wNext) (wIfS (wB (wOp (wEq true) (wLam (x_law_refused K C) 1 (wCallV 7 4 [(C.f_return_ages, (sp_return_ages C)), (C.f_tail_place, (sp_tail_place C))] (wCons (wVar 1) (wCons (wVar 2) (wCons (wC (.int 0)) (wCons (wVar 6) wNil)))))) (wTup (wCons (wC (.str "refused")) (wCons (wCB wRepr (wCons (wVar 6) wNil)) (wCons (wC (.bl true)) wNil)))))) (wRet (wC (.bl false))) wNext)))) (wSeq (wIfS (wB (wOp (wEq true) (wLam (x_law_refused K C) 1 (wCallA 3 0 (sp_needed_place C) (fun ds _ => ds) (wCons (wVar 1) (wCons (wC .non) (wCons (wC .non) wNil))) wNil)) (wTup (wCons (wC (.str "log")) (wCons (wOp wSub (wC (.int 0)) (wC (.int 1))) (wCons (wC (.bl true)) wNil)))))) (wRet (wC (.bl false))) wNext) (wSeq (wAsg 8 (wCallB 0 1 (sp_law_pick C) (wCons (wLst (wCons (wC .non) (wCons (wC (.int 0)) (wCons (wLst (wCons (wC (.int 0)) wNil)) (wCons (wLst (wCons (wTup (wCons (wC (.int 0)) wNil)) wNil)) (wCons (wLst (wCons (wTup (wCons (wC (.int 0)) (wCons (wC (.int 0)) wNil))) (wCons (wTup (wCons (wVar 5) (wCons (wC (.int 0)) wNil))) wNil))) (wCons (wLst (wCons (wTup (wCons (wC (.int 0)) (wCons (wVar 6) wNil))) wNil)) (wCons (wLst (wCons (wTup (wCons (wC (.int 0)) (wCons (wC (.int 0)) (wCons (wC (.int 0)) wNil)))) wNil)) (wCons (wC (.str "00")) wNil))))))))) wNil))) (wRet (wOp (wEq false) (wLam (x_law_refused K C) 1 (wCallA 3 0 (sp_needed_place C) (fun ds _ => ds) (wCons (wVar 1) (wCons (wVar 2) (wCons (wVar 8) wNil))) wNil)) (wTup (wCons (wC (.str "copy")) (wCons (wCB wRepr (wCons (wVar 8) wNil)) (wCons (wC (.bl true)) wNil))))))))))))
theorem dv_law_strangers_right (T : Txt P w K mg base t C) (FD_law_refused : FunD K "_law_refused" "_law_refused" (defArgs (top 38)) (defBody (top 38)) (defScope (top 38)) [] [] C.f_law_refused C.d_law_refused) (U_law_refused : Dn K mg "_law_refused" C.f_law_refused C.d_law_refused ["ask"] 1) (G_law_pick : FnG P w K mg base 3 C.f_law_pick C.d_law_pick ["box", "some"] (lSp K t 2 (sp_law_pick C))) (U_law_pick : Dn K mg "_law_pick" C.f_law_pick C.d_law_pick ["box", "some"] 2) (G_needed_place : FnG P w K mg base 7 C.f_needed_place C.d_needed_place ["machine", "log", "copies"] (lSp K t 3 (sp_needed_place C))) (U_needed_place : Dn K mg "needed_place" C.f_needed_place C.d_needed_place ["machine", "log", "copies"] 3) (G_return_ages : FnG P w K mg base 7 C.f_return_ages C.d_return_ages ["machine", "log", "state", "age"] (lSp K t 4 (sp_return_ages C))) (U_return_ages : Dn K mg "return_ages" C.f_return_ages C.d_return_ages ["machine", "log", "state", "age"] 4) (G_tail_place : FnG P w K mg base 7 C.f_tail_place C.d_tail_place ["machine", "log", "state", "age"] (lSp K t 4 (sp_tail_place C))) (U_tail_place : Dn K mg "tail_place" C.f_tail_place C.d_tail_place ["machine", "log", "state", "age"] 4) (cdv : Value) (A : Around) (outer : List Env) (s : Shared) (H : Hp) (E : XK) (hcv : codeOf8 K C.f_law_strangers_right = some cdv) (c : Cok (cxOf (L2.CX P w) P w K mg base ["box", "machine", "log", "many", "length", "bad", "age", "work", "some"] "_law_strangers_right" (defScope (top 39)) C.f_law_strangers_right cdv A outer s H E) (wishOf E) 9) :
    PSs (cxOf (L2.CX P w) P w K mg base ["box", "machine", "log", "many", "length", "bad", "age", "work", "some"] "_law_strangers_right" (defScope (top 39)) C.f_law_strangers_right cdv A outer s H E) (defBody (top 39)) (lS K (tb0 t) (wishOf E) (x_law_strangers_right K C)) := by
  obtain rfl : cdv = .ref C.c_law_strangers_right := Option.some.inj (hcv.symm.trans T.co_law_strangers_right)
  exact (s_cons (s_par sc_law_strangers_right.nd rfl 3 4 (a_cons (e_fld T.cl_Machine T.na_Machine_states (e_var (i := 1))) (a_cons (e_blt cr_lenD ok_len T.b_len PyProof.Rows.Boot.len (a_cons (e_var (i := 2)) a_nil)) a_nil)) rfl) (s_cons (s_set sc_law_strangers_right.nd 5 (e_callB c (i := 0) G_law_pick U_law_pick (a_cons (e_lst (a_cons (e_var (i := 3)) (a_cons (e_sub e_int e_int) (a_cons e_non (a_cons e_bl (a_cons e_str a_nil)))))) a_nil))) (s_cons (s_set sc_law_strangers_right.nd 6 (e_callB c (i := 0) G_law_pick U_law_pick (a_cons (e_lst (a_cons (e_add (e_var (i := 4)) e_int) (a_cons (e_sub e_int e_int) (a_cons e_non (a_cons e_bl (a_cons e_str a_nil)))))) a_nil))) (s_cons (s_for (passes_of rfl) rfl (i_seq (e_tup (a_cons (e_cls U_return_ages.m) (a_cons (e_cls U_tail_place.m) a_nil)))) (g_nm sc_law_strangers_right.nd 7) (s_cons (s_if (t_ne c (e_lam (k := 7) (n := 1) (c.mono (j := 9) (by decide)) FD_law_refused sc_law_refused U_law_refused T.tb_law_strangers_right rfl T.tm_law_strangers_right T.tu_law_strangers_right (LamX.lamS_by (by kernel_rfl)) (fun cdv s H E τq wq hτ cq hq => dv_law_refused T cdv _ _ s H E wq hq (cq.mono (by decide))) (fun A outer s H E f cl cL => (e_callV (i := 7) (sps := [(C.f_return_ages, (sp_return_ages C)), (C.f_tail_place, (sp_tail_place C))]) (cL.mono (j := 7) (by decide)) (fun q hq => by (simp only [List.mem_cons, List.not_mem_nil, or_false] at hq); rcases hq with rfl | rfl; (· exact ⟨_, _, G_return_ages.mono (by decide), U_return_ages.kp, U_return_ages.kb⟩); (· exact ⟨_, _, G_tail_place.mono (by decide), U_tail_place.kp, U_tail_place.kb⟩)) (a_cons (e_var (i := 1)) (a_cons (e_add (e_bty call_list_of ok_lstOf T.b_list PyProof.Rows.Boot.list (a_cons (e_var (i := 2)) a_nil)) (e_lst (a_cons (e_fld T.cl_Machine T.na_Machine_deeds (e_var (i := 1))) a_nil))) (a_cons (e_var (i := 5)) (a_cons (e_var (i := 6)) a_nil))))))) (e_tup (a_cons e_str (a_cons (e_var (i := 4)) (a_cons e_bl a_nil))))) (s_one (s_ret e_bl)) s_nil) (s_cons (s_if (t_ne c (e_lam (k := 7) (n := 1) (c.mono (j := 9) (by decide)) FD_law_refused sc_law_refused U_law_refused T.tb_law_strangers_right rfl T.tm_law_strangers_right T.tu_law_strangers_right (LamX.lamS_by (by kernel_rfl)) (fun cdv s H E τq wq hτ cq hq => dv_law_refused T cdv _ _ s H E wq hq (cq.mono (by decide))) (fun A outer s H E f cl cL => (e_callV (i := 7) (sps := [(C.f_return_ages, (sp_return_ages C)), (C.f_tail_place, (sp_tail_place C))]) (cL.mono (j := 7) (by decide)) (fun q hq => by (simp only [List.mem_cons, List.not_mem_nil, or_false] at hq); rcases hq with rfl | rfl; (· exact ⟨_, _, G_return_ages.mono (by decide), U_return_ages.kp, U_return_ages.kb⟩); (· exact ⟨_, _, G_tail_place.mono (by decide), U_tail_place.kp, U_tail_place.kb⟩)) (a_cons (e_var (i := 1)) (a_cons (e_var (i := 2)) (a_cons (e_var (i := 5)) (a_cons (e_var (i := 6)) a_nil))))))) (e_tup (a_cons e_str (a_cons (e_blt (cr_repr c) ok_repr T.b_repr PyProof.Rows.Boot.repr (a_cons (e_var (i := 5)) a_nil)) (a_cons e_bl a_nil))))) (s_one (s_ret e_bl)) s_nil) (s_one (s_if (t_ne c (e_lam (k := 7) (n := 1) (c.mono (j := 9) (by decide)) FD_law_refused sc_law_refused U_law_refused T.tb_law_strangers_right rfl T.tm_law_strangers_right T.tu_law_strangers_right (LamX.lamS_by (by kernel_rfl)) (fun cdv s H E τq wq hτ cq hq => dv_law_refused T cdv _ _ s H E wq hq (cq.mono (by decide))) (fun A outer s H E f cl cL => (e_callV (i := 7) (sps := [(C.f_return_ages, (sp_return_ages C)), (C.f_tail_place, (sp_tail_place C))]) (cL.mono (j := 7) (by decide)) (fun q hq => by (simp only [List.mem_cons, List.not_mem_nil, or_false] at hq); rcases hq with rfl | rfl; (· exact ⟨_, _, G_return_ages.mono (by decide), U_return_ages.kp, U_return_ages.kb⟩); (· exact ⟨_, _, G_tail_place.mono (by decide), U_tail_place.kp, U_tail_place.kb⟩)) (a_cons (e_var (i := 1)) (a_cons (e_var (i := 2)) (a_cons e_int (a_cons (e_var (i := 6)) a_nil))))))) (e_tup (a_cons e_str (a_cons (e_blt (cr_repr c) ok_repr T.b_repr PyProof.Rows.Boot.repr (a_cons (e_var (i := 6)) a_nil)) (a_cons e_bl a_nil))))) (s_one (s_ret e_bl)) s_nil))))) (s_cons (s_if (t_ne c (e_lam (k := 7) (n := 1) (c.mono (j := 9) (by decide)) FD_law_refused sc_law_refused U_law_refused T.tb_law_strangers_right rfl T.tm_law_strangers_right T.tu_law_strangers_right (LamX.lamS_by (by kernel_rfl)) (fun cdv s H E τq wq hτ cq hq => dv_law_refused T cdv _ _ s H E wq hq (cq.mono (by decide))) (fun A outer s H E f cl cL => (e_call cL G_needed_place U_needed_place (a_cons (e_var (i := 1)) (a_cons e_non (a_cons e_non a_nil)))))) (e_tup (a_cons e_str (a_cons (e_sub e_int e_int) (a_cons e_bl a_nil))))) (s_one (s_ret e_bl)) s_nil) (s_cons (s_set sc_law_strangers_right.nd 8 (e_callB c (i := 0) G_law_pick U_law_pick (a_cons (e_lst (a_cons e_non (a_cons e_int (a_cons (e_lst (a_cons e_int a_nil)) (a_cons (e_lst (a_cons (e_tup (a_cons e_int a_nil)) a_nil)) (a_cons (e_lst (a_cons (e_tup (a_cons e_int (a_cons e_int a_nil))) (a_cons (e_tup (a_cons (e_var (i := 5)) (a_cons e_int a_nil))) a_nil))) (a_cons (e_lst (a_cons (e_tup (a_cons e_int (a_cons (e_var (i := 6)) a_nil))) a_nil)) (a_cons (e_lst (a_cons (e_tup (a_cons e_int (a_cons e_int (a_cons e_int a_nil)))) a_nil)) (a_cons e_str a_nil))))))))) a_nil))) (s_one (s_ret (e_eq c (e_lam (k := 7) (n := 1) (c.mono (j := 9) (by decide)) FD_law_refused sc_law_refused U_law_refused T.tb_law_strangers_right rfl T.tm_law_strangers_right T.tu_law_strangers_right (LamX.lamS_by (by kernel_rfl)) (fun cdv s H E τq wq hτ cq hq => dv_law_refused T cdv _ _ s H E wq hq (cq.mono (by decide))) (fun A outer s H E f cl cL => (e_call cL G_needed_place U_needed_place (a_cons (e_var (i := 1)) (a_cons (e_var (i := 2)) (a_cons (e_var (i := 8)) a_nil)))))) (e_tup (a_cons e_str (a_cons (e_blt (cr_repr c) ok_repr T.b_repr PyProof.Rows.Boot.repr (a_cons (e_var (i := 8)) a_nil)) (a_cons e_bl a_nil)))))))))))))
abbrev x_law (K : Fg) (C : Cs) : WS := (wSeq (wFor (wiRg1 (wCons (wC (.int 4)) wNil)) (wgName 1) (wSeq (wAsgO 2 (woCall 2 (so_law_box C) (wCons (wVar 0) (wCons (wVar 1) wNil)))) (wSeq (wAsg 3 (wCallB 2 0 (sp_law_tables C) wNil)) (wSeq (wPar 4 5 (wCons (wMake C.Machine 1 0 (sp_Machine_init C) (fun ds _ => ds) (wCons (wVar 3) wNil) wNil) (wCons (wCB wLen (wCons (wOp wIx (wVar 3) (wC (.int 0))) wNil)) wNil))) (wSeq (wAsg 6 (wCB wTupOf (wCons (wLc (wiRg1 (wCons (wCallB 2 1 (sp_law_take C) (wCons (wC (.int 10)) wNil)) wNil)) (wgName 9) wTrue (wCallB 2 1 (sp_law_take C) (wCons (wCB wLen (wCons (wVar 3) wNil)) wNil)) [9]) wNil))) (wSeq (wPar 7 8 (wCons (wLst wNil) (wCons (wLst wNil) wNil))) (wSeq (wFor (wiRg1 (wCons (wCallB 2 1 (sp_law_take C) (wCons (wC (.int 5)) wNil)) wNil)) (wgName 9) (wSeq (wAsgG (wgTup 2 (wgCons (wgName 10) (wgCons (wgName 11) wgNil))) (wTup (wCons (wCallB 2 1 (sp_law_take C) (wCons (wVar 5) wNil)) (wCons (wCallB 2 1 (sp_law_take C) (wCons (wOp wAdd (wCB wLen (wCons (wVar 6) wNil)) (wC (.int 1))) wNil)) wNil)))) (wSeq (wAsg 12 (wCB wTupOf (wCons (wLc (wiRg2 (wCons (wVar 11) (wCons (wOp wAdd (wCB wLen (wCons (wVar 6) wNil)) (wC (.int 1))) wNil))) (wgName 17) (wB (wOp (wEq false) (wCallA 3 0 (sp_law_led C) (fun ds _ => ds) (wCons (wVar 3) (wCons (wVar 10) (wCons (wSl (wVar 6) (woSome (wVar 11)) (woSome (wVar 17))) wNil))) wNil) (wVar 10))) (wVar 17) [17]) wNil))) (wSeq (wAsg 13 (wCallA 3 0 (sp_law_led C) (fun ds _ => ds) (wCons (wVar 3) (wCons (wVar 10) (wCons (wSl (wVar 6) (woSome (wVar 11)) woNone) wNil))) wNil)) (wSeq (wAsg 14 (wCB wMaxL (wCons (wLc (wiRg1 (wCons (wOp wAdd (wCB wLen (wCons (wVar 6) wNil)) (wC (.int 1))) wNil)) (wgName 18) (wB (wOp (wEq false) (wCallA 3 0 (sp_law_led C) (fun ds _ => ds) (wCons (wVar 3) (wCons (wVar 10) (wCons (wSl (wVar 6) (woSome (wVar 18)) woNone) wNil))) wNil) (wVar 13))) (wVar 18) [18]) wNil))) (wSeq (wIfS (wB (wOp (wEq true) (wCB wRepr (wCons (wCallA 4 0 (sp_return_ages C) (fun ds _ => ds) (wCons (wVar 4) (wCons (wCB wLstOf (wCons (wVar 6) wNil)) (wCons (wVar 10) (wCons (wVar 11) wNil)))) wNil) wNil)) (wCB wRepr (wCons (wVar 12) wNil)))) (wRet (wC (.bl false))) wNext) (wSeq (wIfS (wB (wOp (wEq true) (wCB wRepr (wCons (wCallA 0 4 (sp_return_ages C) pm_3210 wNil (wCons (wVar 11) (wCons (wVar 10) (wCons (wVar 6) (wCons (wVar 4) wNil))))) wNil)) (wCB wRepr (wCons (wVar 12) wNil)))) (wRet (wC (.bl false))) wNext) (wSeq (wIfS (wOr (wB (wOp (wEq true) (wCB wRepr (wCons (wCallA 4 0 (sp_tail_place C) (fun ds _ => ds) (wCons (wVar 4) (wCons (wVar 6) (wCons (wVar 10) (wCons (wVar 11) wNil)))) wNil) wNil)) (wCB wRepr (wCons (wVar 14) wNil)))) (wB (wOp wLt (wVar 14) (wOp wIx (wVar 12) (wOp wSub (wCB wLen (wCons (wVar 12) wNil)) (wC (.int 1))))))) (wRet (wC (.bl false))) wNext) (wSeq (wIfS (wB (wOp (wEq true) (wCallA 0 4 (sp_tail_place C) pm_3210 wNil (wCons (wVar 11) (wCons (wVar 10) (wCons (wCB wLstOf (wCons (wVar 6) wNil)) (wCons (wVar 4) wNil))))) (wVar 14))) (wRet (wC (.bl false))) wNext) (wSeq (wAsg 15 (wCB wTupOf (wCons (wLc (wiRg1 (wCons (wCallB 2 1 (sp_law_take C) (wCons (wC (.int 6)) wNil)) wNil)) (wgName 19) wTrue (wCallB 2 1 (sp_law_take C) (wCons (wCB wLen (wCons (wVar 3) wNil)) wNil)) [19]) wNil))) (wSeq (wIfS (wB (wOp (wEq true) (wCallA 3 0 (sp_law_led C) (fun ds _ => ds) (wCons (wVar 3) (wCons (wVar 10) (wCons (wOp wAdd (wSl (wVar 6) (woSome (wVar 14)) woNone) (wVar 15)) wNil))) wNil) (wCallA 3 0 (sp_law_led C) (fun ds _ => ds) (wCons (wVar 3) (wCons (wVar 10) (wCons (wOp wAdd (wSl (wVar 6) (woSome (wVar 11)) woNone) (wVar 15)) wNil))) wNil))) (wRet (wC (.bl false))) wNext) (wPar 7 8 (wCons (wOp wAdd (wVar 7) (wLst (wCons (wVar 14) wNil))) (wCons (wOp wAdd (wVar 8) (wLst (wCons (wTup (wCons (wVar 10) (wCons (wVar 11) wNil))) wNil))) wNil)))))))))))))) (wSeq (wIfS (wB (wOp (wEq true) (wCB wRepr (wCons (wCallA 3 0 (sp_needed_place C) (fun ds _ => ds) (wCons (wVar 4) (wCons (wVar 6) (wCons (wVar 8) wNil))) wNil) wNil)) (wCB wRepr (wCons (wCB wMinL (wCons (wOp wAdd (wVar 7) (wLst (wCons (wCB wLen (wCons (wVar 6) wNil)) wNil))) wNil)) wNil)))) (wRet (wC (.bl false))) wNext) (wSeq (wAsg 16 (wCB wTupOf (wCons (wLc (wiSeq (wVar 8)) (wgName 20) wTrue (wCB wLstOf (wCons (wVar 20) wNil)) [20]) wNil))) (wSeq (wIfS (wB (wOp (wEq true) (wCallA 0 3 (sp_needed_place C) pm_210 wNil (wCons (wVar 16) (wCons (wCB wLstOf (wCons (wVar 6) wNil)) (wCons (wVar 4) wNil)))) (wCB wMinL (wCons (wOp wAdd (wVar 7) (wLst (wCons (wCB wLen (wCons (wVar 6) wNil)) wNil))) wNil)))) (wRet (wC (.bl false))) wNext) (wIfS (wNot (wB (wCallB 2 2 (sp_law_strangers_right C) (wCons (wVar 4) (wCons (wVar 6) wNil))))) (wRet (wC (.bl false))) wNext))))))))))) (wRet (wC (.bl true))))
theorem dv_law (T : Txt P w K mg base t C) (kb_needed_place_210 : KBn K C.d_needed_place ["machine", "log", "copies"] 0 ["copies", "log", "machine"] (@pm_210 Value) (@pm_210 V)) (kb_return_ages_3210 : KBn K C.d_return_ages ["machine", "log", "state", "age"] 0 ["age", "state", "log", "machine"] (@pm_3210 Value) (@pm_3210 V)) (kb_tail_place_3210 : KBn K C.d_tail_place ["machine", "log", "state", "age"] 0 ["age", "state", "log", "machine"] (@pm_3210 Value) (@pm_3210 V)) (G_Machine_init : FnG P w K mg base 7 C.f_Machine_init C.d_Machine_init ["self", "tables"] (lSp K t 2 (sp_Machine_init C))) (K_Machine_init : KBn K C.d_Machine_init ["self", "tables"] 2 [] (fun us _ => us) (fun us _ => us)) (G_law_box : FnG P w K mg base 2 C.f_law_box C.d_law_box ["script", "k"] (lSpO K t 2 (so_law_box C))) (U_law_box : Dn K mg "_law_box" C.f_law_box C.d_law_box ["script", "k"] 2) (G_law_led : FnG P w K mg base 2 C.f_law_led C.d_law_led ["tables", "state", "log"] (lSp K t 3 (sp_law_led C))) (U_law_led : Dn K mg "_law_led" C.f_law_led C.d_law_led ["tables", "state", "log"] 3) (G_law_strangers_right : FnG P w K mg base 10 C.f_law_strangers_right C.d_law_strangers_right ["box", "machine", "log"] (lSp K t 3 (sp_law_strangers_right C))) (U_law_strangers_right : Dn K mg "_law_strangers_right" C.f_law_strangers_right C.d_law_strangers_right ["box", "machine", "log"] 3) (G_law_tables : FnG P w K mg base 4 C.f_law_tables C.d_law_tables ["box"] (lSp K t 1 (sp_law_tables C))) (U_law_tables : Dn K mg "_law_tables" C.f_law_tables C.d_law_tables ["box"] 1) (G_law_take : FnG P w K mg base 2 C.f_law_take C.d_law_take ["box", "many"] (lSp K t 2 (sp_law_take C))) (U_law_take : Dn K mg "_law_take" C.f_law_take C.d_law_take ["box", "many"] 2) (G_needed_place : FnG P w K mg base 7 C.f_needed_place C.d_needed_place ["machine", "log", "copies"] (lSp K t 3 (sp_needed_place C))) (U_needed_place : Dn K mg "needed_place" C.f_needed_place C.d_needed_place ["machine", "log", "copies"] 3) (G_return_ages : FnG P w K mg base 7 C.f_return_ages C.d_return_ages ["machine", "log", "state", "age"] (lSp K t 4 (sp_return_ages C))) (U_return_ages : Dn K mg "return_ages" C.f_return_ages C.d_return_ages ["machine", "log", "state", "age"] 4) (G_tail_place : FnG P w K mg base 7 C.f_tail_place C.d_tail_place ["machine", "log", "state", "age"] (lSp K t 4 (sp_tail_place C))) (U_tail_place : Dn K mg "tail_place" C.f_tail_place C.d_tail_place ["machine", "log", "state", "age"] 4) (cdv : Value) (A : Around) (outer : List Env) (s : Shared) (H : Hp) (E : XK) (c : Cok (cxOf (L2.CX P w) P w K mg base ["script", "k", "box", "tables", "machine", "many", "log", "places", "copies", "turn", "state", "age", "back", "due", "last", "later", "some", "v", "j", "step", "copy"] "law" (defScope (top 40)) C.f_law cdv A outer s H E) (wishOf E) 10) :
    PSs (cxOf (L2.CX P w) P w K mg base ["script", "k", "box", "tables", "machine", "many", "log", "places", "copies", "turn", "state", "age", "back", "due", "last", "later", "some", "v", "j", "step", "copy"] "law" (defScope (top 40)) C.f_law cdv A outer s H E) (defBody (top 40)) (lS K (tb0 t) (wishOf E) (x_law K C)) := by
  exact (s_cons (s_for (passes_of rfl) rfl (i_rng1 T.b_range (a_cons e_int a_nil)) (g_nm sc_law.nd 1) (s_cons (s_setO sc_law.nd 2 (o_call c G_law_box U_law_box (a_cons (e_var (i := 0)) (a_cons (e_var (i := 1)) a_nil)))) (s_cons (s_set sc_law.nd 3 (e_callB c (i := 2) G_law_tables U_law_tables a_nil)) (s_cons (s_par sc_law.nd rfl 4 5 (a_cons (e_make c T.mk_Machine G_Machine_init T.Machine K_Machine_init (a_cons (e_var (i := 3)) a_nil)) (a_cons (e_blt cr_lenD ok_len T.b_len PyProof.Rows.Boot.len (a_cons (e_ix (e_var (i := 3)) e_int) a_nil)) a_nil)) rfl) (s_cons (s_set sc_law.nd 6 (e_bty call_tuple_of ok_tupOf T.b_tuple PyProof.Rows.Boot.tuple (a_cons (e_lc (own := [("turn", 9)]) rfl sc_law.nd (i_rng1 T.b_range (a_cons (e_callB c (i := 2) G_law_take U_law_take (a_cons e_int a_nil)) a_nil)) (blk_ok (by kernel_rfl)) (fun _ _ _ _ _ => (g_c 9 sc_law.nd)) (fun _ _ _ _ _ => f_nil) (fun _ _ _ _ _ => (e_callB (c.blk _ _ _ _ _) (i := 2) G_law_take U_law_take (a_cons (e_blt cr_lenD ok_len T.b_len PyProof.Rows.Boot.len (a_cons (e_var (i := 3)) a_nil)) a_nil)))) a_nil))) (s_cons (s_par sc_law.nd rfl 7 8 (a_cons (e_lst a_nil) (a_cons (e_lst a_nil) a_nil)) rfl) (s_cons (s_for (passes_of rfl) rfl (i_rng1 T.b_range (a_cons (e_callB c (i := 2) G_law_take U_law_take (a_cons e_int a_nil)) a_nil)) (g_nm sc_law.nd 9) (s_cons (s_asg (e_tup (a_cons (e_callB c (i := 2) G_law_take U_law_take (a_cons (e_var (i := 5)) a_nil)) (a_cons (e_callB c (i := 2) G_law_take U_law_take (a_cons (e_add (e_blt cr_lenD ok_len T.b_len PyProof.Rows.Boot.len (a_cons (e_var (i := 6)) a_nil)) e_int) a_nil)) a_nil))) (g_two sc_law.nd rfl 10 11)) (s_cons (s_set sc_law.nd 12 (e_bty call_tuple_of ok_tupOf T.b_tuple PyProof.Rows.Boot.tuple (a_cons (e_lc (own := [("v", 17)]) rfl sc_law.nd (i_rng2 T.b_range (a_cons (e_var (i := 11)) (a_cons (e_add (e_blt cr_lenD ok_len T.b_len PyProof.Rows.Boot.len (a_cons (e_var (i := 6)) a_nil)) e_int) a_nil))) (blk_ok (by kernel_rfl)) (fun _ _ _ _ _ => (g_c 17 sc_law.nd)) (fun _ _ _ _ _ => (f_one (t_eq (c.blk _ _ _ _ _) (e_call (c.blk _ _ _ _ _) G_law_led U_law_led (a_cons (e_var (i := 3)) (a_cons (e_var (i := 10)) (a_cons (e_slice (e_var (i := 6)) (s_some (e_var (i := 11))) (s_some (e_var (i := 17)))) a_nil)))) (e_var (i := 10))))) (fun _ _ _ _ _ => (e_var (i := 17)))) a_nil))) (s_cons (s_set sc_law.nd 13 (e_call c G_law_led U_law_led (a_cons (e_var (i := 3)) (a_cons (e_var (i := 10)) (a_cons (e_slice (e_var (i := 6)) (s_some (e_var (i := 11))) s_none) a_nil))))) (s_cons (s_set sc_law.nd 14 (e_blt (cr_max rfl) ok_maxL T.b_max PyProof.Rows.Boot.max (a_cons (e_lc (own := [("j", 18)]) rfl sc_law.nd (i_rng1 T.b_range (a_cons (e_add (e_blt cr_lenD ok_len T.b_len PyProof.Rows.Boot.len (a_cons (e_var (i := 6)) a_nil)) e_int) a_nil)) (blk_ok (by kernel_rfl)) (fun _ _ _ _ _ => (g_c 18 sc_law.nd)) (fun _ _ _ _ _ => (f_one (t_eq (c.blk _ _ _ _ _) (e_call (c.blk _ _ _ _ _) G_law_led U_law_led (a_cons (e_var (i := 3)) (a_cons (e_var (i := 10)) (a_cons (e_slice (e_var (i := 6)) (s_some (e_var (i := 18))) s_none) a_nil)))) (e_var (i := 13))))) (fun _ _ _ _ _ => (e_var (i := 18)))) a_nil))) (s_cons (s_if (t_ne c (e_blt (cr_repr c) ok_repr T.b_repr PyProof.Rows.Boot.repr (a_cons (e_call c G_return_ages U_return_ages (a_cons (e_var (i := 4)) (a_cons (e_bty call_list_of ok_lstOf T.b_list PyProof.Rows.Boot.list (a_cons (e_var (i := 6)) a_nil)) (a_cons (e_var (i := 10)) (a_cons (e_var (i := 11)) a_nil))))) a_nil)) (e_blt (cr_repr c) ok_repr T.b_repr PyProof.Rows.Boot.repr (a_cons (e_var (i := 12)) a_nil))) (s_one (s_ret e_bl)) s_nil) (s_cons (s_if (t_ne c (e_blt (cr_repr c) ok_repr T.b_repr PyProof.Rows.Boot.repr (a_cons (e_callK c G_return_ages U_return_ages.m U_return_ages.kp kb_return_ages_3210 gr_3210 (k_cons (e_var (i := 11)) (k_cons (e_var (i := 10)) (k_cons (e_var (i := 6)) (k_cons (e_var (i := 4)) k_nil))))) a_nil)) (e_blt (cr_repr c) ok_repr T.b_repr PyProof.Rows.Boot.repr (a_cons (e_var (i := 12)) a_nil))) (s_one (s_ret e_bl)) s_nil) (s_cons (s_if (t_pw (q_or (t_ne c (e_blt (cr_repr c) ok_repr T.b_repr PyProof.Rows.Boot.repr (a_cons (e_call c G_tail_place U_tail_place (a_cons (e_var (i := 4)) (a_cons (e_var (i := 6)) (a_cons (e_var (i := 10)) (a_cons (e_var (i := 11)) a_nil))))) a_nil)) (e_blt (cr_repr c) ok_repr T.b_repr PyProof.Rows.Boot.repr (a_cons (e_var (i := 14)) a_nil))) (q_or1 (t_lt (e_var (i := 14)) (e_ix (e_var (i := 12)) (e_sub (e_blt cr_lenD ok_len T.b_len PyProof.Rows.Boot.len (a_cons (e_var (i := 12)) a_nil)) e_int)))))) (s_one (s_ret e_bl)) s_nil) (s_cons (s_if (t_ne c (e_callK c G_tail_place U_tail_place.m U_tail_place.kp kb_tail_place_3210 gr_3210 (k_cons (e_var (i := 11)) (k_cons (e_var (i := 10)) (k_cons (e_bty call_list_of ok_lstOf T.b_list PyProof.Rows.Boot.list (a_cons (e_var (i := 6)) a_nil)) (k_cons (e_var (i := 4)) k_nil))))) (e_var (i := 14))) (s_one (s_ret e_bl)) s_nil) (s_cons (s_set sc_law.nd 15 (e_bty call_tuple_of ok_tupOf T.b_tuple PyProof.Rows.Boot.tuple (a_cons (e_lc (own := [("step", 19)]) rfl sc_law.nd (i_rng1 T.b_range (a_cons (e_callB c (i := 2) G_law_take U_law_take (a_cons e_int a_nil)) a_nil)) (blk_ok (by kernel_rfl)) (fun _ _ _ _ _ => (g_c 19 sc_law.nd)) (fun _ _ _ _ _ => f_nil) (fun _ _ _ _ _ => (e_callB (c.blk _ _ _ _ _) (i := 2) G_law_take U_law_take (a_cons (e_blt cr_lenD ok_len T.b_len PyProof.Rows.Boot.len (a_cons (e_var (i := 3)) a_nil)) a_nil)))) a_nil))) (s_cons (s_if (t_ne c (e_call c G_law_led U_law_led (a_cons (e_var (i := 3)) (a_cons (e_var (i := 10)) (a_cons (e_add (e_slice (e_var (i := 6)) (s_some (e_var (i := 14))) s_none) (e_var (i := 15))) a_nil)))) (e_call c G_law_led U_law_led (a_cons (e_var (i := 3)) (a_cons (e_var (i := 10)) (a_cons (e_add (e_slice (e_var (i := 6)) (s_some (e_var (i := 11))) s_none) (e_var (i := 15))) a_nil))))) (s_one (s_ret e_bl)) s_nil) (s_one (s_par sc_law.nd rfl 7 8 (a_cons (e_add (e_var (i := 7)) (e_lst (a_cons (e_var (i := 14)) a_nil))) (a_cons (e_add (e_var (i := 8)) (e_lst (a_cons (e_tup (a_cons (e_var (i := 10)) (a_cons (e_var (i := 11)) a_nil))) a_nil))) a_nil)) rfl))))))))))))) (s_cons (s_if (t_ne c (e_blt (cr_repr c) ok_repr T.b_repr PyProof.Rows.Boot.repr (a_cons (e_call c G_needed_place U_needed_place (a_cons (e_var (i := 4)) (a_cons (e_var (i := 6)) (a_cons (e_var (i := 8)) a_nil)))) a_nil)) (e_blt (cr_repr c) ok_repr T.b_repr PyProof.Rows.Boot.repr (a_cons (e_blt (cr_min rfl) ok_minL T.b_min PyProof.Rows.Boot.min (a_cons (e_add (e_var (i := 7)) (e_lst (a_cons (e_blt cr_lenD ok_len T.b_len PyProof.Rows.Boot.len (a_cons (e_var (i := 6)) a_nil)) a_nil))) a_nil)) a_nil))) (s_one (s_ret e_bl)) s_nil) (s_cons (s_set sc_law.nd 16 (e_bty call_tuple_of ok_tupOf T.b_tuple PyProof.Rows.Boot.tuple (a_cons (e_lc (own := [("copy", 20)]) rfl sc_law.nd (i_seq (e_var (i := 8))) (blk_ok (by kernel_rfl)) (fun _ _ _ _ _ => (g_c 20 sc_law.nd)) (fun _ _ _ _ _ => f_nil) (fun _ _ _ _ _ => (e_bty call_list_of ok_lstOf T.b_list PyProof.Rows.Boot.list (a_cons (e_var (i := 20)) a_nil)))) a_nil))) (s_cons (s_if (t_ne c (e_callK c G_needed_place U_needed_place.m U_needed_place.kp kb_needed_place_210 gr_210 (k_cons (e_var (i := 16)) (k_cons (e_bty call_list_of ok_lstOf T.b_list PyProof.Rows.Boot.list (a_cons (e_var (i := 6)) a_nil)) (k_cons (e_var (i := 4)) k_nil)))) (e_blt (cr_min rfl) ok_minL T.b_min PyProof.Rows.Boot.min (a_cons (e_add (e_var (i := 7)) (e_lst (a_cons (e_blt cr_lenD ok_len T.b_len PyProof.Rows.Boot.len (a_cons (e_var (i := 6)) a_nil)) a_nil))) a_nil))) (s_one (s_ret e_bl)) s_nil) (s_one (s_if (t_not (t_val (e_callB c (i := 2) G_law_strangers_right U_law_strangers_right (a_cons (e_var (i := 4)) (a_cons (e_var (i := 6)) a_nil))))) (s_one (s_ret e_bl)) s_nil)))))))))))) (s_one (s_ret e_bl)))
end
end K30
set_option Elab.async false
set_option autoImplicit false
set_option linter.all false
set_option maxRecDepth 100000
set_option maxHeartbeats 3900000
namespace K30
open DL L2 PyProof.Rows PySem PySem.Spec
def subT (a b : String) : Bool := decide (a = b) || (decide (a = "bool") && decide (b = "int"))
theorem is_ty {K : Fg} {x : D} {t n : String} {Φ : D → Prop} (h : tyN x = some t) (hn : n ∈ ["int", "bool", "str", "list", "tuple"]) (q : Φ (.bl (subT t n))) : wIsI K [x, .raw (.ty n)] Φ := by
  have go : ∀ b, PySem.W.kitOne K (.type t) (.type n) = some b → subT t n = b → DTy K x (.type t) → wIsI K [x, .raw (.ty n)] Φ := fun b h1 h2 h3 => ⟨.type n, .type t, b, .ty n, h3, h1, h2 ▸ q⟩
  simp only [List.mem_cons, List.not_mem_nil, or_false] at hn
  cases x <;> cases h <;> rcases hn with rfl | rfl | rfl | rfl | rfl <;> first | exact go true (by kernel_rfl) (by decide) (by constructor) | exact go false (by kernel_rfl) (by decide) (by constructor)
theorem is_seq {K : Fg} {x : D} {Φ : D → Prop} (h : plain x) (q : Φ (.bl (seqD x).isSome)) : wIsT K [x, .tup [.raw (.ty "list"), .raw (.ty "tuple")]] Φ := by
  have go : ∀ (t : String) b, PySem.W.kitAny K (.type t) [.type "list", .type "tuple"] = some b → (seqD x).isSome = b → DTy K x (.type t) → wIsT K [x, .tup [.raw (.ty "list"), .raw (.ty "tuple")]] Φ := fun t b h1 h2 h3 =>
    ⟨_, [.type "list", .type "tuple"], .type t, b, .cons _ (.cons _ .nil), .cons (.ty _) (.cons (.ty _) .nil), h3, h1, h2 ▸ q⟩
  cases x <;> first
    | exact go _ true (by kernel_rfl) rfl (by constructor)
    | exact go _ false (by kernel_rfl) rfl (by constructor)
    | (cases h)
theorem none_of {α β : Type} {h : Option α} {f : α → β} (e : h.map f = none) : h = none := by cases h <;> first | rfl | cases e
section
variable {K : Fg} {C : Cs}
/-- the sem of a def that owns nothing -/
abbrev Sem0 (n m : Nat) (sp : Spc) (x : WS) : Prop := ∀ hl ds Ψ Ξ, (args hl ds).length = n → sp (hl.map (·.2)) ds Ψ Ξ → x (args hl ds ++ List.replicate (m - n) .un) (dEnds hl Ψ Ξ)
theorem m_is_integer : Sem0 1 1 (sp_is_integer C) (x_is_integer K C) := by
  rintro hl ds Ψ Ξ - ⟨h, x, rfl, hp, q⟩
  cases none_of h
  obtain ⟨t, ht⟩ := Option.isSome_iff_exists.mp hp
  simp only [x_is_integer, wRet, wAndV, wCB, wCons, wVar, wNil, wC, wNotV, args, List.map, List.nil_append, List.cons_append, List.getElem?_cons_zero]
  refine is_ty ht (by decide) ?_
  cases x <;> cases ht <;> first
    | exact q
    | (show if subT "int" "int" = true then _ else _; rw [if_pos (by decide)]; refine is_ty (t := "int") rfl (by decide) ?_; exact q)
    | (show if subT "bool" "int" = true then _ else _; rw [if_pos (by decide)]; refine is_ty (t := "bool") rfl (by decide) ?_; exact q)
theorem m_is_below : Sem0 2 2 (sp_is_below C) (x_is_below K C) := by
  rintro hl ds Ψ Ξ - ⟨h, x, m, rfl, hp, q⟩
  cases none_of h
  refine ⟨rfl, rfl, rfl, x, rfl, hp, ?_⟩
  cases x <;> first | exact q | skip
  rename_i v
  show if (decide (0 ≤ v)) = true then _ else _
  replace q : Ψ (.bl (decide (0 ≤ v) && decide (v < m))) none := q
  cases h : decide (0 ≤ v) <;> rw [h] at q <;> exact q
theorem m_is_sequence : Sem0 1 1 (sp_is_sequence C) (x_is_sequence K C) := by
  rintro hl ds Ψ Ξ - ⟨h, x, rfl, hp, q⟩
  cases none_of h
  simp only [x_is_sequence, wRet, wCB, wCons, wVar, wNil, wC, wTup, args, List.map, List.nil_append, List.cons_append, List.getElem?_cons_zero]
  refine ⟨show 2 ≤ sizeLine by decide, is_seq hp ?_⟩
  exact q
theorem m_fault_place : Sem0 2 4 (sp_fault_place C) (x_fault_place K C) := by
  rintro hl ds Ψ Ξ - ⟨h, x, xs, m, rfl, hx, hp, q⟩
  cases none_of h
  have loop : ∀ (xs : List D) (i : Nat) (a b : Sl), (∀ y ∈ xs, plain y) → Ψ (faultD m xs i) none →
      wForL (wgTup 2 (wgCons (wgName 2) (wgCons (wgName 3) wgNil))) (wIfS (wNot (wB (wCallA 2 0 (sp_is_below C) (fun ds _ => ds) (wCons (wVar 3) (wCons (wVar 1) wNil)) wNil))) (wRet (wVar 2)) wNext)
        ((xs.zipIdx i).map fun p => .tup [.int (p.2 : Nat), p.1]) [.val x, .val (.int m), a, b] { dEnds none Ψ Ξ with nx := fun ρ => (dEnds none Ψ Ξ).rt .non ρ } := by
    intro xs
    induction xs with
    | nil => intro i a b _ q; exact q
    | cons y ys ih =>
      intro i a b hp q
      refine ⟨rfl, rfl, rfl, rfl, rfl, y, m, rfl, hp y List.mem_cons_self, ?_⟩
      show if (!belowD y m) = true then _ else _
      unfold faultD at q
      cases hb : belowD y m <;> rw [hb] at q
      · exact q
      · exact ih (i + 1) _ _ (fun z hz => hp z (List.mem_cons_of_mem _ hz)) q
  have := loop xs 0 .un .un hp q
  cases x <;> cases hx <;> exact this
theorem seq_cases {x : D} {xs : List D} (h : seqD x = some xs) : x = .lst xs ∨ x = .tup xs := by cases x <;> cases h <;> simp
theorem eqF_ints {a b : Int} {Φ : D → Prop} (q : Φ (.bl (decide (a = b)))) : wEq false (.int a) (.int b) Φ := ⟨.int a, .int b, rfl, rfl, rfl, rfl, by
  have : PyData.eqv (.int a) (.int b) = decide (a = b) := by simp [PyData.eqv, Bool.beq_eq_decide_eq]
  rw [this]; exact q⟩
theorem m_is_sequence_of : Sem0 2 2 (sp_is_sequence_of C) (x_is_sequence_of K C) := by
  rintro hl ds Ψ Ξ - ⟨h, x, n, rfl, hp, q⟩
  cases none_of h
  simp only [x_is_sequence_of, wSeq, wNext, wBreak, wCont, wAsg, wRet, wRetN, wDrop, wIfS, wRetO, wgName, wgNil, wgCons, wgTup, wAsgG, wOp, wUn, wCB, wC, wVar, wNil, wCons, wTup, wLst, wB, wAnd, wOr, wNot, wAndV, wOrV, wNotV, wIf, wChain, wAdd, wSub, wMul, wMod, wDiv, wPow, wCmp, wIsN, DL.isNon, wLen, wAbs, wMin2, wMax2, wInt, wFld, wFldO, wM1, wCallA, wCallB, wMake, wRaise, wNeg, wIxO, wLenO, wApp, wSetO, wFset, wPar, wParO, wAsgO, woLst, woCall, wFor, wiSeq, wiRg1, wiEnum, dEnds, outs, args, List.getElem?_cons_zero, List.getElem?_cons_succ, List.nil_append, List.cons_append, List.map_cons, List.map_nil, List.set_cons_zero, List.set_cons_succ, List.append_nil, List.replicate_zero, List.replicate_succ, Option.map_none, Option.map_some, List.length_cons, List.length_nil, sp_is_sequence]
  refine ⟨trivial, trivial, trivial, x, rfl, hp, ?_⟩
  unfold lenIs at q
  cases hx : seqD x with
  | none => rw [hx] at q; exact q
  | some xs =>
    rw [hx] at q
    replace q : Ψ (.bl (decide ((xs.length : Int) = n))) none := q
    have go : wEq false (.int (xs.length : Nat)) (.int n) (fun z => Ψ z none) := eqF_ints q
    obtain rfl | rfl := seq_cases hx <;> exact go
end
end K30
set_option Elab.async false
set_option autoImplicit false
set_option linter.all false
set_option maxRecDepth 100000
set_option maxHeartbeats 3900000
namespace K30
open DL L2 PyProof.Rows PySem PySem.Spec
section
variable {K : Fg} {C : Cs}
theorem fault_is (m : Int) : ∀ (xs : List D) (i : Nat), (faultD m xs i = .non ∧ isNo (faultD m xs i) = true ∧ DL.isNon (faultD m xs i) = some true) ∨ ∃ j : Nat, faultD m xs i = .int j ∧ isNo (faultD m xs i) = false ∧ DL.isNon (faultD m xs i) = some false
  | [], i => .inl ⟨rfl, rfl, rfl⟩
  | x :: xs, i => by
    unfold faultD
    split
    · exact fault_is m xs (i + 1)
    · exact .inr ⟨i, rfl, rfl, rfl⟩
theorem m_is_table : Sem0 1 1 (sp_is_table C) (x_is_table K C) := by
  rintro hl ds Ψ Ξ - ⟨h, x, rfl, hp, q⟩
  cases none_of h
  simp only [x_is_table, wSeq, wNext, wBreak, wCont, wAsg, wRet, wRetN, wDrop, wIfS, wRetO, wgName, wgNil, wgCons, wgTup, wAsgG, wOp, wUn, wCB, wC, wVar, wNil, wCons, wTup, wLst, wB, wAnd, wOr, wNot, wAndV, wOrV, wNotV, wIf, wChain, wAdd, wSub, wMul, wMod, wDiv, wPow, wCmp, wIsN, DL.isNon, wLen, wAbs, wMin2, wMax2, wInt, wFld, wFldO, wM1, wCallA, wCallB, wMake, wRaise, wNeg, wIxO, wLenO, wApp, wSetO, wFset, wPar, wParO, wAsgO, woLst, woCall, wFor, wiSeq, wiRg1, wiEnum, dEnds, outs, args, List.getElem?_cons_zero, List.getElem?_cons_succ, List.nil_append, List.cons_append, List.map_cons, List.map_nil, List.set_cons_zero, List.set_cons_succ, List.append_nil, List.replicate_zero, List.replicate_succ, Option.map_none, Option.map_some, List.length_cons, List.length_nil, sp_is_sequence, sp_fault_place]
  refine ⟨trivial, trivial, trivial, x, rfl, hp.1, ?_⟩
  cases hx : seqD x with
  | none => simp only [isTab, hx] at q; simpa using q
  | some xs =>
    have hpl := hp.2 xs hx
    simp only [isTab, hx] at q
    obtain rfl | rfl := seq_cases hx
    all_goals
      simp
      split
      · rename_i h1
        split
        · rename_i h2
          have e : decide (xs.length ≤ 12) = false := decide_eq_false (by omega)
          simp only [e, Bool.and_false, Bool.false_and] at q; exact q
        · rename_i h2
          have e1 : decide (1 ≤ xs.length) = true := decide_eq_true (by omega)
          have e2 : decide (xs.length ≤ 12) = true := decide_eq_true (by omega)
          rw [e1, e2] at q
          refine ⟨_, xs, _, ⟨rfl, rfl⟩, rfl, hpl, ?_⟩
          rcases fault_is (xs.length : Int) xs 0 with ⟨-, a, b⟩ | ⟨j, -, a, b⟩ <;> rw [a] at q
          · exact .inr ⟨b, q⟩
          · exact .inl ⟨b, q⟩
      · rename_i h1
        have e : decide (1 ≤ xs.length) = false := decide_eq_false (by omega)
        simp only [e, Bool.false_and] at q; exact q
/-- a comprehension, item by item -/
theorem lc_gen {i : Nat} {we : WE} {vs : List Nat} {R : Rho → Prop} {P : D → D → Prop} {Φ : List D → Rho → Prop} : ∀ (ds acc : List D) (ρ : Rho), R ρ → acc.length + ds.length ≤ sizeLine →
    (∀ d ∈ ds, ∀ ρ' (Ψ : D → Rho → Prop), R ρ' → (∀ y ρ3, P d y → R (wipeR ρ3 vs) → Ψ y ρ3) → we (ρ'.set i (.val d)) χ0 Ψ) → (∀ ys ρ', Paired P ds ys → R ρ' → Φ (acc ++ ys) ρ') → wLcL (wgName i) wTrue we vs ds acc ρ Φ
  | [], acc, ρ, hR, _, _, hΦ => by
    have := hΦ [] ρ .nil hR
    rw [List.append_nil] at this
    exact this
  | d :: ds, acc, ρ, hR, hl, hs, hΦ => by
    simp only [wLcL, wgName, wTrue, ↓reduceIte]
    refine hs d List.mem_cons_self ρ _ hR fun y ρ3 hy h3 => ⟨by simp only [List.length_cons] at hl; omega, ?_⟩
    refine lc_gen ds (acc ++ [y]) _ h3 (by simp only [List.length_append, List.length_cons, List.length_nil] at hl ⊢; omega) (fun d' hd' => hs d' (List.mem_cons_of_mem _ hd')) fun ys ρ' h1 h2 => ?_
    rw [List.append_assoc]
    exact hΦ (y :: ys) ρ' (.cons hy h1) h2
theorem paired_map {f : D → D} : ∀ {ds ys : List D}, Paired (fun d y => y = f d) ds ys → ys = ds.map f
  | _, _, .nil => rfl
  | _, _, .cons h t => by rw [h, paired_map t]; rfl
theorem lc_map {i : Nat} {we : WE} {vs : List Nat} {R : Rho → Prop} {Φ : List D → Rho → Prop} (f : D → D) (ds : List D) (ρ : Rho) (hR : R ρ) (hl : ds.length ≤ sizeLine)
    (hs : ∀ d ∈ ds, ∀ ρ' (Ψ : D → Rho → Prop), R ρ' → (∀ ρ3, R (wipeR ρ3 vs) → Ψ (f d) ρ3) → we (ρ'.set i (.val d)) χ0 Ψ) (hΦ : ∀ ρ', R ρ' → Φ (ds.map f) ρ') : wLcL (wgName i) wTrue we vs ds [] ρ Φ :=
  lc_gen (P := fun d y => y = f d) ds [] ρ hR (by simpa using hl) (fun d hd ρ' Ψ h1 h2 => hs d hd ρ' Ψ h1 fun ρ3 h3 => h2 _ ρ3 rfl h3) fun ys ρ' h1 h2 => by rw [List.nil_append, paired_map h1]; exact hΦ ρ' h2
theorem big : 1000000 ≤ sizeLine := by rw [sizeLine_eq]; omega
theorem len_lst (x : D) (xs : List D) (h : seqD x = some xs) {Φ : D → Prop} (q : Φ (.int xs.length)) : wLen [x] Φ := by obtain rfl | rfl := seq_cases h <;> exact q
theorem tab_seq {x : D} (h : isTab x = true) : ∃ xs, seqD x = some xs := by
  unfold isTab at h
  cases hx : seqD x with
  | none => rw [hx] at h; cases h
  | some xs => exact ⟨xs, rfl⟩
theorem eq_ints {a b : Int} {Φ : D → Prop} (q : Φ (.bl (!decide (a = b)))) : wEq true (.int a) (.int b) Φ := ⟨.int a, .int b, rfl, rfl, rfl, rfl, by
  have : PyData.eqv (.int a) (.int b) = decide (a = b) := by simp [PyData.eqv, Bool.beq_eq_decide_eq]
  rw [this]; exact q⟩
theorem m_check_tables : Sem0 1 3 (sp_check_tables C) (x_check_tables K C) := by
  rintro hl ds Ψ Ξ - ⟨h, x, rfl, hp, q⟩
  cases none_of h
  simp only [x_check_tables, wSeq, wNext, wBreak, wCont, wAsg, wRet, wRetN, wDrop, wIfS, wRetO, wgName, wgNil, wgCons, wgTup, wAsgG, wOp, wUn, wCB, wC, wVar, wNil, wCons, wTup, wLst, wB, wAnd, wOr, wNot, wAndV, wOrV, wNotV, wIf, wChain, wAdd, wSub, wMul, wMod, wDiv, wPow, wCmp, wIsN, DL.isNon, wLen, wAbs, wMin2, wMax2, wInt, wFld, wFldO, wM1, wCallA, wCallB, wMake, wRaise, wNeg, wIxO, wLenO, wApp, wSetO, wFset, wPar, wParO, wAsgO, woLst, woCall, wFor, wiSeq, wiRg1, wiEnum, dEnds, outs, args, List.getElem?_cons_zero, List.getElem?_cons_succ, List.nil_append, List.cons_append, List.map_cons, List.map_nil, List.set_cons_zero, List.set_cons_succ, List.append_nil, List.replicate_zero, List.replicate_succ, Option.map_none, Option.map_some, List.length_cons, List.length_nil, sp_is_sequence]
  refine ⟨trivial, trivial, trivial, x, rfl, hp.1, ?_⟩
  cases hx : seqD x with
  | none => simp only [chkTabs, hx] at q; simpa using q
  | some xs =>
    have hpl := hp.2 xs hx
    have mid : ∀ (y : D) (ys : List D), xs = y :: ys → xs.length ≤ 8 → (match tabsFault (lenD y) (y :: ys) 0 with | none => Ψ (.tup ((y :: ys).map tupD)) none | some i => Ξ C.BadMachine "at" (.int (i : Nat))) →
      wForL (wgTup 2 (wgCons (wgName 1) (wgCons (wgName 2) wgNil)))
        (wIfS (wOr (wNot (wB (wCallA 1 0 (sp_is_table C) (fun ds _ => ds) (wCons (wVar 2) wNil) wNil))) (wB (wOp (wEq true) (wCB wLen (wCons (wVar 2) wNil)) (wCB wLen (wCons (wOp wIx (wVar 0) (wC (.int 0))) wNil)))))
          (wRaise C.BadMachine "at" (wCons (wVar 1) wNil)) wNext) (enD xs) [.val x, .un, .un]
        { nx := fun ρ' => wLc (wiSeq (wVar 0)) (wgName 2) wTrue (wCB wTupOf (wCons (wVar 2) wNil)) [2] ρ' (fun C f d _ => Ξ C f d) fun x _ => wTupOf [x] fun z => Ψ z none,
          rt := fun d _ => Ψ d none, bk := fun _ => False, ct := fun _ => False, xc := fun C f d _ => Ξ C f d } := by
      intro y ys hxy hle hq
      have hat : atI xs 0 = some y := by rw [hxy]; simp [atI, ixN]
      have hn : isTab y = true ∨ tabsFault (lenD y) (y :: ys) 0 = some 0 := by
        cases h : isTab y with
        | true => exact .inl rfl
        | false => exact .inr (by unfold tabsFault; rw [h]; rfl)
      have fin : ∀ (a b : Sl), (∀ z ∈ xs, ∃ zs, seqD z = some zs) → Ψ (.tup ((y :: ys).map tupD)) none → (wLc (wiSeq (wVar 0)) (wgName 2) wTrue (wCB wTupOf (wCons (wVar 2) wNil)) [2] [.val x, a, b] (fun C f d _ => Ξ C f d) fun x _ => wTupOf [x] fun z => Ψ z none) := by
        intro a b hz hq
        have go : wLcL (wgName 2) wTrue (wCB wTupOf (wCons (wVar 2) wNil)) [2] xs [] [.val x, a, .un] fun ys _ => wTupOf [.lst ys] fun z => Ψ z none := by
          refine lc_map (R := fun ρ => ρ = [.val x, a, .un]) tupD xs _ rfl (Nat.le_trans hle (by have := big; omega)) (fun d hd ρ' Φ h1 h2 => ?_) fun ρ' h1 => ?_
          · subst h1
            obtain ⟨zs, hz⟩ := hz d hd
            have e := h2 [.val x, a, .val d] rfl
            obtain rfl | rfl := seq_cases hz <;> exact e
          · rw [hxy]; exact hq
        obtain rfl | rfl := seq_cases hx <;> exact go
      have loop : ∀ (zs : List D) (i : Nat) (a b : Sl), (∀ z ∈ zs, plain2 z) → (isTab y = true ∨ ∃ r, zs = y :: r) → (∀ z ∈ xs, z ∈ zs ∨ isTab z = true) → (match tabsFault (lenD y) zs i with | none => Ψ (.tup ((y :: ys).map tupD)) none | some i => Ξ C.BadMachine "at" (.int (i : Nat))) →
          wForL (wgTup 2 (wgCons (wgName 1) (wgCons (wgName 2) wgNil)))
            (wIfS (wOr (wNot (wB (wCallA 1 0 (sp_is_table C) (fun ds _ => ds) (wCons (wVar 2) wNil) wNil))) (wB (wOp (wEq true) (wCB wLen (wCons (wVar 2) wNil)) (wCB wLen (wCons (wOp wIx (wVar 0) (wC (.int 0))) wNil)))))
              (wRaise C.BadMachine "at" (wCons (wVar 1) wNil)) wNext) ((zs.zipIdx i).map fun p => .tup [.int (p.2 : Nat), p.1]) [.val x, a, b]
            { nx := fun ρ' => wLc (wiSeq (wVar 0)) (wgName 2) wTrue (wCB wTupOf (wCons (wVar 2) wNil)) [2] ρ' (fun C f d _ => Ξ C f d) fun x _ => wTupOf [x] fun z => Ψ z none,
              rt := fun d _ => Ψ d none, bk := fun _ => False, ct := fun _ => False, xc := fun C f d _ => Ξ C f d } := by
        intro zs
        induction zs with
        | nil =>
          intro i a b _ _ hall hq
          exact fin a b (fun z hz => tab_seq ((hall z hz).resolve_left (by simp))) hq
        | cons z zs ih =>
          intro i a b hpz hy hall hq
          refine ⟨rfl, rfl, rfl, rfl, rfl, z, rfl, hpz z List.mem_cons_self, ?_⟩
          show if (!isTab z) = true then _ else _
          unfold tabsFault at hq
          cases hb : isTab z with
          | false =>
            rw [hb] at hq
            exact hq
          | true =>
            rw [hb] at hq
            have hy' : isTab y = true := hy.elim id fun ⟨r, e⟩ => by cases e; exact hb
            obtain ⟨us, hu⟩ := tab_seq hb
            obtain ⟨ws, hw⟩ := tab_seq hy'
            have e1 : lenD z = us.length := by unfold lenD; rw [hu]; rfl
            have e2 : lenD y = ws.length := by unfold lenD; rw [hw]; rfl
            have tail : ∀ b : Bool, decide (lenD z = lenD y) = b → (if (!b) = true then Ξ C.BadMachine "at" (.int (i : Nat)) else wForL (wgTup 2 (wgCons (wgName 1) (wgCons (wgName 2) wgNil)))
                (wIfS (wOr (wNot (wB (wCallA 1 0 (sp_is_table C) (fun ds _ => ds) (wCons (wVar 2) wNil) wNil))) (wB (wOp (wEq true) (wCB wLen (wCons (wVar 2) wNil)) (wCB wLen (wCons (wOp wIx (wVar 0) (wC (.int 0))) wNil)))))
                  (wRaise C.BadMachine "at" (wCons (wVar 1) wNil)) wNext) ((zs.zipIdx (i + 1)).map fun p => .tup [.int (p.2 : Nat), p.1]) [.val x, .val (.int (i : Nat)), .val z]
                { nx := fun ρ' => wLc (wiSeq (wVar 0)) (wgName 2) wTrue (wCB wTupOf (wCons (wVar 2) wNil)) [2] ρ' (fun C f d _ => Ξ C f d) fun x _ => wTupOf [x] fun z => Ψ z none,
                  rt := fun d _ => Ψ d none, bk := fun _ => False, ct := fun _ => False, xc := fun C f d _ => Ξ C f d }) := by
              intro b hb2
              rw [hb2] at hq
              cases b with
              | false => exact hq
              | true => exact ih (i + 1) _ _ (fun u hu => hpz u (List.mem_cons_of_mem _ hu)) (.inl hy') (fun u hu => (hall u hu).elim (fun m => (List.mem_cons.mp m).elim (fun e => .inr (e ▸ hb)) .inl) .inr) hq
            have key := tail _ rfl
            rw [e1, e2] at key
            rw [if_neg (show ¬ ((!true) = true) by decide)]
            simp only [wB, wOp, wCB, wCons, wVar, wNil, wC, List.set_cons_succ, List.set_cons_zero, List.getElem?_cons_zero, List.getElem?_cons_succ]
            refine len_lst z us hu ?_
            have hix : ∀ {Φ : D → Prop}, Φ y → wIx x (.int 0) Φ := fun {Φ} qq => by obtain rfl | rfl := seq_cases hx <;> exact ⟨y, hat, qq⟩
            refine hix ?_
            refine len_lst y ws hw ?_
            refine eq_ints ?_
            have ed : decide ((us.length : Int) = (ws.length : Int)) = decide (us.length = ws.length) := decide_eq_decide.mpr (by omega)
            rw [ed]
            exact key
      exact loop xs 0 .un .un hpl (.inr ⟨ys, hxy⟩) (fun z hz => .inl hz) (by rw [hxy]; exact hq)
    simp only [chkTabs, hx] at q
    have done : ∀ {A : Prop}, (xs.length ≤ 8 → 1 ≤ xs.length → A) → (if 1 ≤ (xs.length : Int) then if 8 < (xs.length : Int) then Ξ C.BadMachine "at" (.int (-1)) else A else Ξ C.BadMachine "at" (.int (-1))) := by
      intro A hA
      cases xs with
      | nil => simpa using q
      | cons y ys =>
        rw [if_pos (by simp only [List.length_cons]; omega)]
        split
        · rename_i h2
          have : ¬ (y :: ys).length ≤ 8 := by simp only [List.length_cons] at h2 ⊢; omega
          simp only [this, if_false] at q; exact q
        · rename_i h2
          exact hA (by simp only [List.length_cons] at h2 ⊢; omega) (by simp)
    obtain rfl | rfl := seq_cases hx
    all_goals
      simp
      refine done fun h1 h2 => ?_
      cases xs with
      | nil => simp at h2
      | cons y ys =>
        refine mid y ys rfl h1 ?_
        simp only [h1, ↓reduceIte] at q
        cases hf : tabsFault (lenD y) (y :: ys) 0 <;> simp only [hf] at q <;> exact q
end
end K30
set_option Elab.async false
set_option autoImplicit false
set_option linter.all false
set_option maxRecDepth 100000
set_option maxHeartbeats 3900000
namespace K30
open DL L2 PyProof.Rows PySem PySem.Spec
section
variable {K : Fg} {C : Cs}
/-- the sem of a def whose first argument is an object of one's own -/
theorem lenD_tup (x : D) : lenD (tupD x) = lenD x := rfl
theorem m_Machine_init : Sem0 2 2 (sp_Machine_init C) (x_Machine_init K C) := by
  rintro hl ds Ψ Ξ - ⟨h, x, rfl, hp, q⟩
  match hl, h with
  | some (l, o), h =>
    cases (Option.some.inj h : o = .i C.Machine [] [])
    simp only [x_Machine_init, wSeq, wNext, wBreak, wCont, wAsg, wRet, wRetN, wDrop, wIfS, wRetO, wgName, wgNil, wgCons, wgTup, wAsgG, wOp, wUn, wCB, wC, wVar, wNil, wCons, wTup, wLst, wB, wAnd, wOr, wNot, wAndV, wOrV, wNotV, wIf, wChain, wAdd, wSub, wMul, wMod, wDiv, wPow, wCmp, wIsN, DL.isNon, wLen, wAbs, wMin2, wMax2, wInt, wFld, wFldO, wM1, wCallA, wCallB, wMake, wRaise, wNeg, wIxO, wLenO, wApp, wSetO, wFset, wPar, wParO, wAsgO, woLst, woCall, wFor, wiSeq, wiRg1, wiEnum, dEnds, outs, args, List.getElem?_cons_zero, List.getElem?_cons_succ, List.nil_append, List.cons_append, List.map_cons, List.map_nil, List.set_cons_zero, List.set_cons_succ, List.append_nil, List.replicate_zero, List.replicate_succ, Option.map_none, Option.map_some, List.length_cons, List.length_nil, sp_check_tables]
    refine ⟨⟨_, _, rfl⟩, trivial, trivial, trivial, x, rfl, hp, ?_⟩
    cases hc : chkTabs x with
    | error i => rw [hc] at q; exact q
    | ok rs =>
      rw [hc] at q
      cases rs with
      | nil => simp only [chkTabs] at hc; split at hc <;> first | cases hc | (split at hc <;> first | cases hc | (split at hc <;> cases hc))
      | cons r rs =>
        obtain ⟨zs, hz⟩ : ∃ zs, seqD r = some zs := by
          simp only [chkTabs] at hc
          split at hc
          · split at hc
            · split at hc
              · simp only [List.map_cons] at hc; cases hc; exact ⟨_, rfl⟩
              · cases hc
            · cases hc
          · cases hc
        have hl : lenD r = zs.length := by unfold lenD; rw [hz]; rfl
        simp
        refine ⟨.tup (r :: rs), by simp [lookD], by decide, .tup (r :: rs), by simp [lookD], r, by simp [atI, ixN], ?_⟩
        obtain rfl | rfl := seq_cases hz <;> exact ⟨⟨by decide, by decide⟩, q⟩
theorem eqv_int (a : Int) : PyData.eqv (.int a) (.int a) = true := by simp [PyData.eqv]
/-! data and PyData -/
theorem py_row (r : List Nat) : pyOf (rowD r) = some (.tuple (r.map fun n => .int (n : Nat))) := by
  have : ∀ r : List Nat, pyOfL (r.map fun n => D.int (n : Nat)) = some (r.map fun n => .int (n : Nat)) := fun r => by
    induction r with
    | nil => rfl
    | cons n r ih => simp [pyOfL, pyOf, ih]
  simp [rowD, pyOf, this]
theorem py_rows (t : Tbl) : pyOf (.tup (t.map rowD)) = some (.tuple (t.map fun r => .tuple (r.map fun n => .int (n : Nat)))) := by
  have : ∀ t : Tbl, pyOfL (t.map rowD) = some (t.map fun r => .tuple (r.map fun n => .int (n : Nat))) := fun t => by
    induction t with
    | nil => rfl
    | cons r t ih => simp [pyOfL, py_row, ih]
  simp [pyOf, this]
theorem shaped_row (r : List Nat) : SeqAt.shaped (.tuple (r.map fun n => .int (n : Nat))) = true ∧ PyData.depth (.tuple (r.map fun n => .int (n : Nat))) ≤ 1 := by
  have a : ∀ r : List Nat, PyData.canLayAll0 (r.map fun n => .int (n : Nat)) = true := fun r => by induction r with
    | nil => rfl
    | cons n r ih => simp [PyData.canLayAll0, PyData.canLay0, ih]
  have b : ∀ r : List Nat, PyData.depthAll (r.map fun n => .int (n : Nat)) = 0 := fun r => by induction r with
    | nil => rfl
    | cons n r ih => simp [PyData.depthAll, PyData.depth, ih]
  simp [SeqAt.shaped, PyData.canLay0, PyData.depth, a, b]
theorem shaped_rows (t : Tbl) : SeqAt.shaped (.tuple (t.map fun r => .tuple (r.map fun n => .int (n : Nat)))) = true := by
  have a : ∀ t : Tbl, PyData.canLayAll0 (t.map fun r => .tuple (r.map fun n => .int (n : Nat))) = true := fun t => by induction t with
    | nil => rfl
    | cons r t ih =>
      have := (Bool.and_eq_true_iff.mp (shaped_row r).1).1
      simp only [List.map_cons, PyData.canLayAll0, this, ih, Bool.and_self]
  have b : ∀ t : Tbl, PyData.depthAll (t.map fun r => .tuple (r.map fun n => .int (n : Nat))) ≤ 1 := fun t => by induction t with
    | nil => exact Nat.zero_le _
    | cons r t ih =>
      have := (shaped_row r).2
      (simp only [List.map_cons, PyData.depthAll])
      omega
  have hb := b t
  refine Bool.and_eq_true_iff.mpr ⟨a t, decide_eq_true ?_⟩
  simp only [PyData.depth]
  omega
theorem eq_same {x : D} {p : PyData} {Φ : D → Prop} {neg : Bool} (h : pyOf x = some p) (hs : SeqAt.shaped p = true) (q : Φ (.bl !neg)) : wEq neg x x Φ :=
  ⟨p, p, h, h, hs, hs, by rw [SeqAt.eqv_refl p (SeqAt.canLay_of_shaped hs)]; cases neg <;> exact q⟩
theorem look_deeds (C : Cs) (t : Tbl) : lookD ["tables", "deeds", "states"] [.tup (t.map rowD), .int ((t.map rowD).length : Nat), .int (lenD ((t.map rowD).headD .non) : Nat)] "deeds" = some (.int (t.length : Nat)) := by simp [lookD]; decide
theorem len_le {n : Nat} (h : n ≤ 10000) : n ≤ sizeLine := Nat.le_trans h (by have := big; omega)
theorem m_log_fault : Sem0 2 2 (sp_log_fault C) (x_log_fault K C) := by
  rintro hl ds Ψ Ξ - ⟨h, t, x, rfl, hp, q⟩
  cases none_of h
  simp only [x_log_fault, wSeq, wNext, wBreak, wCont, wAsg, wRet, wRetN, wDrop, wIfS, wRetO, wgName, wgNil, wgCons, wgTup, wAsgG, wOp, wUn, wCB, wC, wVar, wNil, wCons, wTup, wLst, wB, wAnd, wOr, wNot, wAndV, wOrV, wNotV, wIf, wChain, wAdd, wSub, wMul, wMod, wDiv, wPow, wCmp, wIsN, DL.isNon, wLen, wAbs, wMin2, wMax2, wInt, wFld, wFldO, wM1, wCallA, wCallB, wMake, wRaise, wNeg, wIxO, wLenO, wApp, wSetO, wFset, wPar, wParO, wAsgO, woLst, woCall, wFor, wiSeq, wiRg1, wiEnum, dEnds, outs, args, List.getElem?_cons_zero, List.getElem?_cons_succ, List.nil_append, List.cons_append, List.map_cons, List.map_nil, List.set_cons_zero, List.set_cons_succ, List.append_nil, List.replicate_zero, List.replicate_succ, Option.map_none, Option.map_some, List.length_cons, List.length_nil, sp_is_sequence, sp_fault_place]
  refine ⟨trivial, trivial, trivial, x, rfl, hp.1, ?_⟩
  cases hx : seqD x with
  | none => simp only [logF, hx] at q; simpa using q
  | some xs =>
    have hpl := hp.2 xs hx
    simp only [logF, hx] at q
    have key : (if 10000 < (xs.length : Int) then Ψ (.int (-1)) none else Ψ (faultD (t.length : Int) xs 0) none) := by
      split
      · rename_i h1
        rw [if_neg (by omega)] at q; exact q
      · rename_i h1
        rw [if_pos (by omega)] at q; exact q
    obtain rfl | rfl := seq_cases hx
    all_goals
      simp
      split
      · rename_i h1; rw [if_pos h1] at key; exact key
      · rename_i h1; rw [if_neg h1] at key
        exact ⟨rfl, .int (t.length : Nat), look_deeds C t, _, xs, _, ⟨rfl, rfl⟩, rfl, hpl, key⟩
theorem m_check_log : Sem0 2 3 (sp_check_log C) (x_check_log K C) := by
  rintro hl ds Ψ Ξ - ⟨h, t, x, rfl, hp, q⟩
  cases none_of h
  simp only [x_check_log, wSeq, wNext, wBreak, wCont, wAsg, wRet, wRetN, wDrop, wIfS, wRetO, wgName, wgNil, wgCons, wgTup, wAsgG, wOp, wUn, wCB, wC, wVar, wNil, wCons, wTup, wLst, wB, wAnd, wOr, wNot, wAndV, wOrV, wNotV, wIf, wChain, wAdd, wSub, wMul, wMod, wDiv, wPow, wCmp, wIsN, DL.isNon, wLen, wAbs, wMin2, wMax2, wInt, wFld, wFldO, wM1, wCallA, wCallB, wMake, wRaise, wNeg, wIxO, wLenO, wApp, wSetO, wFset, wPar, wParO, wAsgO, woLst, woCall, wFor, wiSeq, wiRg1, wiEnum, dEnds, outs, args, List.getElem?_cons_zero, List.getElem?_cons_succ, List.nil_append, List.cons_append, List.map_cons, List.map_nil, List.set_cons_zero, List.set_cons_succ, List.append_nil, List.replicate_zero, List.replicate_succ, Option.map_none, Option.map_some, List.length_cons, List.length_nil, sp_log_fault]
  refine ⟨trivial, trivial, trivial, t, x, rfl, hp, ?_⟩
  have hx : logF t.length x = .non ∧ (∃ xs, seqD x = some xs) ∨ ∃ i, logF t.length x = .int i := by
    unfold logF
    cases hx : seqD x with
    | none => exact .inr ⟨_, rfl⟩
    | some xs =>
      simp only
      split
      · exact (fault_is (t.length : Int) xs 0).elim (fun z => .inl ⟨z.1, xs, rfl⟩) fun ⟨j, z, _⟩ => .inr ⟨_, z⟩
      · exact .inr ⟨_, rfl⟩
  rcases hx with ⟨e, xs, hs⟩ | ⟨i, e⟩
  · rw [e] at q ⊢
    refine ⟨trivial, true, rfl, ?_⟩
    have : tupD x = .tup xs := by unfold tupD; rw [hs]; rfl
    simp only [this] at q
    obtain rfl | rfl := seq_cases hs <;> exact q
  · rw [e] at q ⊢
    exact ⟨trivial, false, rfl, q⟩
theorem Good.head {t : Tbl} (g : Good t) : 1 ≤ wd t ∧ wd t ≤ 12 := by
  cases t with
  | nil => exact absurd rfl g.ne
  | cons r t => exact ⟨(g.row r List.mem_cons_self).1, (g.row r List.mem_cons_self).2.1⟩
theorem look_st (C : Cs) (t : Tbl) : lookD ["tables", "deeds", "states"] [.tup (t.map rowD), .int ((t.map rowD).length : Nat), .int (lenD ((t.map rowD).headD .non) : Nat)] "states" = some (.int (wd t : Nat)) := by
  have e : lenD ((t.map rowD).headD .non) = wd t := by
    cases t with
    | nil => rfl
    | cons r t => simp [lenD, rowD, seqD, wd]
  rw [e]
  have a : ¬ ("tables" : Str) = "states" := by decide
  have b : ¬ ("deeds" : Str) = "states" := by decide
  simp [lookD, a, b]
theorem look_tb (C : Cs) (t : Tbl) : lookD ["tables", "deeds", "states"] [.tup (t.map rowD), .int ((t.map rowD).length : Nat), .int (lenD ((t.map rowD).headD .non) : Nat)] "tables" = some (.tup (t.map rowD)) := by simp [lookD]
theorem m_check_state : Sem0 2 2 (sp_check_state C) (x_check_state K C) := by
  rintro hl ds Ψ Ξ - ⟨h, t, x, rfl, hp, q⟩
  cases none_of h
  refine ⟨rfl, .int (wd t : Nat), look_st C t, rfl, rfl, rfl, x, (wd t : Nat), rfl, hp, ?_⟩
  show if (!belowD x (wd t : Nat)) = true then _ else _
  cases hb : belowD x (wd t : Nat) <;> rw [hb] at q <;> exact q
theorem m_check_age : Sem0 2 2 (sp_check_age C) (x_check_age K C) := by
  rintro hl ds Ψ Ξ - ⟨h, y, ys, x, rfl, hy, hp, q⟩
  cases none_of h
  have go : sp_is_below C none [x, .int ((ys.length : Int) + 1)] (fun d _ => ∃ b, d = .bl b ∧ if (!b) = true then Ξ C.Refused "at" x else Ψ .non none) fun _ _ _ => False := by
    refine ⟨rfl, x, (ys.length : Int) + 1, rfl, hp, _, rfl, ?_⟩
    have e : (((ys.length + 1 : Nat)) : Int) = (ys.length : Int) + 1 := by omega
    rw [e] at q
    cases hb : belowD x ((ys.length : Int) + 1) <;> rw [hb] at q <;> exact q
  obtain ⟨-, x', m, e, h1, b, h2, h3⟩ := go
  obtain rfl | rfl := seq_cases hy
  all_goals
    refine ⟨rfl, rfl, rfl, x', m, e, h1, ?_⟩
    cases h2
    exact h3
end
end K30
set_option Elab.async false
set_option autoImplicit false
set_option linter.all false
set_option maxRecDepth 100000
set_option maxHeartbeats 3900000
namespace K30
open DL L2 PyProof.Rows PySem PySem.Spec
section
variable {K : Fg} {C : Cs}
theorem plain_row (r : List Nat) : plain2 (rowD r) := ⟨rfl, fun xs h y hy => by
  cases h
  obtain ⟨n, hn, rfl⟩ := List.mem_map.mp hy
  rfl⟩
theorem fault_none (m : Nat) : ∀ (r : List Nat) (i : Nat), (∀ n ∈ r, n < m) → faultD (m : Int) (numsD r) i = .non
  | [], _, _ => rfl
  | n :: r, i, h => by
    have h1 := h n List.mem_cons_self
    have e : belowD (.int (n : Nat)) (m : Int) = true := by
      show (decide (0 ≤ (n : Int)) && decide ((n : Int) < (m : Int))) = true
      rw [decide_eq_true (by omega), decide_eq_true (by omega)]; rfl
    show (if belowD (.int (n : Nat)) (m : Int) = true then faultD (m : Int) (numsD r) (i + 1) else _) = _
    rw [if_pos e]
    exact fault_none m r (i + 1) fun k hk => h k (List.mem_cons_of_mem _ hk)
theorem isTab_row {r : List Nat} (h1 : 1 ≤ r.length) (h2 : r.length ≤ 12) (h : ∀ n ∈ r, n < r.length) : isTab (rowD r) = true := by
  have e : (numsD r).length = r.length := List.length_map ..
  show (decide (1 ≤ (numsD r).length) && decide ((numsD r).length ≤ 12) && isNo (faultD ((numsD r).length : Int) (numsD r) 0)) = true
  rw [e, fault_none r.length r 0 h, decide_eq_true h1, decide_eq_true h2]
  rfl
theorem lenD_row (r : List Nat) : lenD (rowD r) = r.length := List.length_map ..
theorem tabs_none {n : Nat} : ∀ (t : Tbl) (i : Nat), (∀ r ∈ t, isTab (rowD r) = true ∧ r.length = n) → tabsFault n (t.map rowD) i = none
  | [], _, _ => rfl
  | r :: t, i, h => by
    obtain ⟨h1, h2⟩ := h r List.mem_cons_self
    show (if (isTab (rowD r) && decide (lenD (rowD r) = n)) = true then _ else _) = _
    rw [h1, lenD_row, h2]
    simp only [decide_true, Bool.and_self, ↓reduceIte]
    exact tabs_none t (i + 1) fun q hq => h q (List.mem_cons_of_mem _ hq)
theorem chk_good {t : Tbl} {x : D} (g : Good t) (hx : seqD x = some (t.map rowD)) : chkTabs x = .ok (t.map rowD) := by
  match t, g, hx with
  | [], g, _ => exact absurd rfl g.ne
  | r :: t, g, hx =>
    simp only [chkTabs, hx, List.map_cons]
    have hle := g.le
    simp only [List.length_cons] at hle
    have hf : tabsFault (lenD (rowD r)) (rowD r :: t.map rowD) 0 = none := tabs_none (r :: t) 0 fun q hq => by
      obtain ⟨h1, h2, h3, h4⟩ := g.row q hq
      exact ⟨isTab_row h1 h2 h4, by rw [lenD_row]; exact h3⟩
    simp only [List.length_cons, List.length_map, hle, ↓reduceIte, hf]
    have : t.map (tupD ∘ rowD) = t.map rowD := List.map_congr_left fun q _ => rfl
    rw [List.map_map, this]
    rfl
theorem plain_tb {t : Tbl} {x : D} (hx : seqD x = some (t.map rowD)) : plain3 x := ⟨by obtain rfl | rfl := seq_cases hx <;> rfl, fun xs h y hy => by
  rw [hx] at h; cases h
  obtain ⟨r, _, rfl⟩ := List.mem_map.mp hy
  exact plain_row r⟩
/-- Machine(..) of good tables -/
theorem mk_good {t : Tbl} {x : D} {Ψ : D → Option OD → Prop} {Ξ : Addr → Str → D → Prop} (g : Good t) (hx : seqD x = some (t.map rowD)) (q : Ψ .non (some (machO C (t.map rowD)))) : sp_Machine_init C (some (.i C.Machine [] [])) [x] Ψ Ξ :=
  ⟨rfl, x, rfl, plain_tb hx, by rw [chk_good g hx]; exact q⟩
theorem at2 (a b : Int) : atI [D.int a, .int b] 0 = some (.int a) ∧ atI [D.int a, .int b] 1 = some (.int b) := by simp [atI, ixN]
theorem ix2 : ixN 2 0 = some 0 ∧ ixN 2 1 = some 1 := by decide
theorem m_law_take : Sem0 2 4 (sp_law_take C) (x_law_take K C) := by
  rintro hl ds Ψ Ξ - ⟨o, m, h, ⟨a, b, ha, rfl⟩, rfl, hm, hm2, q⟩
  match hl, h with
  | some (l, o), h =>
    cases (Option.some.inj h : o = .l [.int a, .int b])
    refine ⟨⟨l, _, rfl⟩, .int a, (at2 a b).1, ?_⟩
    show if decide ((0 : Int) < a) = true then _ else _
    have nn : ∀ x y : Int, 0 < y → 0 ≤ x % y ∧ x % y < y := fun x y h => ⟨Int.emod_nonneg _ (by omega), Int.emod_lt_of_pos _ h⟩
    by_cases h0 : (0 : Int) < a
    · rw [if_pos (decide_eq_true h0)]
      refine ⟨⟨l, _, rfl⟩, .int a, (at2 a b).1, hm, ⟨l, _, rfl⟩, .int a, (at2 a b).1, ⟨hm, by omega⟩, ⟨l, _, rfl⟩, 0, ix2.1, ?_⟩
      refine ⟨.l [.int (a / m), .int b], rfl, q _ _ (nn a m hm).1 (nn a m hm).2 ⟨a / m, b, ?_, rfl⟩⟩
      exact Int.ediv_nonneg (by omega) (by omega)
    · rw [if_neg (by rw [decide_eq_false h0]; exact Bool.false_ne_true)]
      refine ⟨⟨l, _, rfl⟩, .int b, (at2 a b).2, .inr (by decide), by decide, ?_⟩
      refine ⟨.inr (by decide), by decide, ⟨l, _, rfl⟩, 1, ix2.2, .inr (by decide), ⟨l, _, rfl⟩, _, (at2 a _).2, ⟨by decide, by decide⟩, hm, ?_⟩
      refine ⟨.l [.int a, .int _], rfl, q _ _ (nn _ m hm).1 (nn _ m hm).2 ⟨a, _, ha, rfl⟩⟩
theorem at_of {xs : List D} {d : Int} (h0 : 0 ≤ d) (h1 : d < (xs.length : Int)) : ∃ x, atI xs d = some x ∧ x ∈ xs := by
  have hlt : d.toNat < xs.length := by omega
  refine ⟨xs[d.toNat], ?_, List.getElem_mem hlt⟩
  unfold atI ixN
  rw [if_pos h0, if_pos h1]
  simp [hlt]
theorem m_law_pick : Sem0 2 2 (sp_law_pick C) (x_law_pick K C) := by
  rintro hl ds Ψ Ξ - ⟨o, xs, h, ho, rfl, hne, hlen, q⟩
  match hl, h with
  | some (l, o'), h =>
    cases (Option.some.inj h : o' = o)
    have hpos : 0 < xs.length := List.length_pos_iff.mpr hne
    refine ⟨⟨l, _, rfl⟩, rfl, o, _, rfl, ho, rfl, by omega, by omega, fun d o2 h0 h1 h2 => ⟨o2, rfl, ?_⟩⟩
    obtain ⟨x, hx, hm⟩ := at_of h0 h1
    exact ⟨x, hx, o2, rfl, q x o2 hm h2⟩
/-- a range -/
theorem rg_nums (m : Nat) : rgD 0 m = numsD (List.range m) := by unfold rgD numsD; simp
/-- draws, one by one: the object is the slot 0 -/
theorem draws {i : Nat} {rest : Rho} {l : Addr} {m : Int} {we : WE} {Φ : List D → Rho → Prop} {R : Rho → Prop} (ds : List D) (ρ : Rho) (hm : 0 < m) (hl : ds.length ≤ sizeLine) (hR : R ρ)
    (hs : ∀ d ∈ ds, ∀ ρ' (Ψ : D → Rho → Prop), R ρ' → (∀ x ρ3, (∃ k : Nat, x = .int k ∧ (k : Int) < m) → R (wipeR ρ3 [i]) → Ψ x ρ3) → we (ρ'.set i (.val d)) χ0 Ψ)
    (hΦ : ∀ ns ρ', ns.length = ds.length → (∀ n ∈ ns, ((n : Nat) : Int) < m) → R ρ' → Φ (numsD ns) ρ') : wLcL (wgName i) wTrue we [i] ds [] ρ Φ := by
  refine lc_gen (P := fun _ y => ∃ k : Nat, y = .int k ∧ (k : Int) < m) ds [] ρ hR (by simpa using hl) (fun d hd ρ' Ψ h1 h2 => hs d hd ρ' Ψ h1 fun x ρ3 h3 h4 => h2 x ρ3 h3 h4) fun ys ρ' hp h2 => ?_
  have : ∃ ns : List Nat, ys = numsD ns ∧ ns.length = ds.length ∧ ∀ n ∈ ns, ((n : Nat) : Int) < m := by
    clear hs hΦ hl hR
    induction hp with
    | nil => exact ⟨[], rfl, rfl, fun _ h => nomatch h⟩
    | cons h t ih =>
      obtain ⟨k, rfl, hk⟩ := h
      obtain ⟨ns, rfl, h1, h2⟩ := ih
      exact ⟨k :: ns, rfl, by simp [h1], fun n hn => (List.mem_cons.mp hn).elim (fun e => e ▸ hk) (h2 n)⟩
  obtain ⟨ns, rfl, h3, h4⟩ := this
  rw [List.nil_append]
  exact hΦ ns ρ' h3 h4 h2
theorem nat_of {d m : Int} (h0 : 0 ≤ d) (h1 : d < m) : ∃ k : Nat, D.int d = .int k ∧ (k : Int) < m := ⟨d.toNat, by rw [Int.toNat_of_nonneg h0], by rw [Int.toNat_of_nonneg h0]; exact h1⟩
theorem at_int {ns : List Int} {i : Int} (h0 : 0 ≤ i) (h1 : i < (ns.length : Int)) : ∃ n, atI ns i = some n := by
  have hlt : i.toNat < ns.length := by omega
  refine ⟨ns[i.toNat], ?_⟩
  unfold atI ixN
  rw [if_pos h0, if_pos h1]
  simp [hlt]
def RowOk (m : Nat) (r : List Nat) : Prop := r.length = m ∧ ∀ n ∈ r, n < m
theorem seqI {w u : WS} {ρ : Rho} {Δ : DE} (h : w ρ { Δ with nx := fun ρ' => u ρ' Δ }) : wSeq w u ρ Δ := h
theorem asgI {i : Nat} {wa : WE} {ρ : Rho} {Δ : DE} (h : wa ρ Δ.xc fun d ρ1 => Δ.nx (ρ1.set i (.val d))) : wAsg i wa ρ Δ := h
theorem good_rows {m : Nat} {rows : Tbl} (h1 : 1 ≤ m) (h2 : m ≤ 12) (hr : ∀ r ∈ rows, RowOk m r) (hne : rows ≠ []) (h8 : rows.length ≤ 8) : Good rows := by
  refine ⟨hne, h8, fun r h => ?_⟩
  have e : (rows.headD []).length = m := by
    cases rows with
    | nil => exact absurd rfl hne
    | cons q t => exact (hr q List.mem_cons_self).1
  obtain ⟨a, b⟩ := hr r h
  rw [e, a]
  exact ⟨h1, h2, rfl, b⟩
abbrev roE (Ψ : OD → Prop) : DE := { nx := fun _ => False, rt := fun _ _ => False, bk := fun _ => False, ct := fun _ => False, xc := χ0, ro := fun _ od _ => Ψ od }
abbrev bx_e : WS := wSeq (wAsg 3 (wIf (wB (wOp wGe (wVar 2) (wOp wPow (wC (.int 10)) (wC (.int 18))))) (wVar 2) (wC (.int 0)))) (wRetO (woLst (wCons (wVar 3) (wCons (wOp wAdd (wOp wMod (wCB wInt (wCons (wOp wAdd (wOp wMul (wOp wMod (wCB wInt (wCons (wVar 2) wNil)) (wC (.int 2147483563))) (wC (.int 40014))) (wOp wMul (wC (.int 6857)) (wVar 1))) wNil)) (wC (.int 2147483563))) (wC (.int 1))) wNil))))
theorem box_end {ns : List Int} {k v : Int} {s3 : Sl} {Ψ : OD → Prop} (hv : 0 ≤ v) (q : ∀ o, GoodB o → Ψ o) : bx_e [.val (.scr ns), .val (.int k), .val (.int v), s3] (roE Ψ) := by
  refine ⟨⟨by decide, by decide, by decide⟩, ?_⟩
  have go : ∀ g : Int, 0 ≤ g → wRetO (woLst (wCons (wVar 3) (wCons (wOp wAdd (wOp wMod (wCB wInt (wCons (wOp wAdd (wOp wMul (wOp wMod (wCB wInt (wCons (wVar 2) wNil)) (wC (.int 2147483563))) (wC (.int 40014))) (wOp wMul (wC (.int 6857)) (wVar 1))) wNil)) (wC (.int 2147483563))) (wC (.int 1))) wNil))) [.val (.scr ns), .val (.int k), .val (.int v), .val (.int g)] (roE Ψ) := fun g hg =>
    ⟨by decide, .inr (by decide), .inl (by decide), by decide, by show 2 ≤ sizeLine; decide, fun l => q _ ⟨g, _, hg, rfl⟩⟩
  show if decide ((10 : Int) ^ (18 : Int).toNat ≤ v) = true then _ else _
  cases hb : decide ((10 : Int) ^ (18 : Int).toNat ≤ v)
  · exact go 0 (by omega)
  · exact go v hv
theorem m_law_box : ∀ ds Ψ, ds.length = 2 → so_law_box C ds Ψ → x_law_box K C (args none ds ++ List.replicate (4 - 2) .un) (roE Ψ) := by
  rintro ds Ψ - ⟨ns, k, rfl, hk0, hk1, hn, q⟩
  refine ⟨.inl (by decide), ?_⟩
  show if decide (k < (ns.length : Int)) = true then _ else _
  by_cases h1 : k < (ns.length : Int)
  · rw [if_pos (decide_eq_true h1)]
    obtain ⟨n, hn⟩ := at_int hk0 h1
    refine ⟨n, hn, box_end ?_ q⟩
    show 0 ≤ (if n < 0 then -n else n)
    split <;> omega
  · rw [if_neg (by rw [decide_eq_false h1]; exact Bool.false_ne_true)]
    show if decide ((0 : Int) < (ns.length : Int)) = true then _ else _
    by_cases h2 : (0 : Int) < (ns.length : Int)
    · rw [if_pos (decide_eq_true h2)]
      obtain ⟨n, hn⟩ := at_int (ns := ns) (i := k % (ns.length : Int)) (Int.emod_nonneg _ (by omega)) (Int.emod_lt_of_pos _ h2)
      refine ⟨h2, n, hn, by decide, .inr (by decide), box_end ?_ q⟩
      have := Int.emod_nonneg (if n < 0 then -n else n) (show (2147483563 : Int) ≠ 0 by decide)
      show 0 ≤ 5953 * k + 673 + (if n < 0 then -n else n) % 2147483563 * 41201
      omega
    · rw [if_neg (by rw [decide_eq_false h2]; exact Bool.false_ne_true)]
      exact box_end (by omega) q
end
end K30
set_option Elab.async false
set_option autoImplicit false
set_option linter.all false
set_option maxRecDepth 100000
set_option maxHeartbeats 3900000
namespace K30
open DL L2 PyProof.Rows PySem PySem.Spec
section
variable {K : Fg} {C : Cs}
def St (l0 l1 : Addr) (m : Nat) (rows : Tbl) (P6 : Sl → Prop) (ρ : Rho) : Prop := ∃ (o : OD) (s3 : Sl) (st b : Int) (s6 s7 : Sl), GoodB o ∧ 0 ≤ b ∧ b < m ∧ P6 s6 ∧
  ρ = [.own l0 o, .val (.int (m : Nat)), .own l1 (.l (rows.map rowD)), s3, .val (.int st), .val (.int b), s6, s7]
variable {l0 l1 : Addr} {m : Nat} {rows : Tbl} {P6 : Sl → Prop}
theorem St.set7 {ρ : Rho} {s : Sl} (h : St l0 l1 m rows P6 ρ) : St l0 l1 m rows P6 (ρ.set 7 s) := by
  obtain ⟨o, s3, st, b, s6, s7, h1, h2, h3, h4, rfl⟩ := h
  exact ⟨o, s3, st, b, s6, s, h1, h2, h3, h4, rfl⟩
def EltOk (l0 l1 : Addr) (m : Nat) (rows : Tbl) (P6 : Sl → Prop) (elt : WE) : Prop := ∀ ρ (s : Nat) (Ψ : D → Rho → Prop), St l0 l1 m rows P6 ρ → s < m → (∀ (v : Nat) ρ3, v < m → St l0 l1 m rows P6 ρ3 → Ψ (.int v) ρ3) → elt (ρ.set 7 (.val (.int (s : Nat)))) χ0 Ψ
theorem comp_St (hm : m ≤ 5) {elt : WE} (he : EltOk l0 l1 m rows P6 elt) {ρ : Rho} {χ : XC} {Φ : D → Rho → Prop}
    (h : St l0 l1 m rows P6 ρ) (q : ∀ r ρ1, RowOk m r → St l0 l1 m rows P6 ρ1 → Φ (.lst (numsD r)) ρ1) : wLc (wiRg1 (wCons (wVar 1) wNil)) (wgName 7) wTrue elt [7] ρ χ Φ := by
  have go : wLcL (wgName 7) wTrue elt [7] (rgD 0 m) [] (wipeR ρ [7]) fun ys ρ2 => Φ (.lst ys) (backR ρ ρ2 [7]) := by
    have hlen : (rgD 0 m).length = m := by unfold rgD; simp
    rw [rg_nums] at hlen ⊢
    by_cases h0 : m = 0
    · subst h0
      exact q [] _ ⟨rfl, fun _ h => nomatch h⟩ (St.set7 (St.set7 h))
    refine draws (R := St l0 l1 m rows P6) (m := (m : Int)) (rest := []) (l := l0) _ _ (by omega) (by rw [hlen]; have := big; omega) (St.set7 h) (fun x hx ρ' Ψ hR hk => ?_) fun ns ρ' h3 h4 hR => ?_
    · obtain ⟨s, hs, rfl⟩ := List.mem_map.mp hx
      exact he ρ' s Ψ hR (List.mem_range.mp hs) fun v ρ3 hv h3 => hk _ ρ3 ⟨v, rfl, by omega⟩ (St.set7 h3)
    · exact q ns _ ⟨by rw [h3, hlen], fun n hn => by have := h4 n hn; omega⟩ (St.set7 hR)
  obtain ⟨o, s3, st, b, s6, s7, h1, h2, h3, h4, rfl⟩ := h
  refine ⟨⟨by omega, by omega⟩, ?_⟩
  rw [Int.toNat_natCast]
  exact go
theorem app_St (hm : m ≤ 5) {elt : WE} (he : EltOk l0 l1 m rows P6 elt) {ρ : Rho} {Δ : DE} (h : St l0 l1 m rows P6 ρ) (h8 : rows.length < 8) (q : ∀ r ρ', RowOk m r → St l0 l1 m (rows ++ [r]) P6 ρ' → Δ.nx ρ') :
    wApp 2 (wCB wTupOf (wCons (wLc (wiRg1 (wCons (wVar 1) wNil)) (wgName 7) wTrue elt [7]) wNil)) ρ Δ := by
  refine ⟨?_, ?_⟩
  · obtain ⟨o, s3, st, b, s6, s7, h1, h2, h3, h4, rfl⟩ := h
    exact ⟨l1, _, rfl⟩
  · refine comp_St (χ := Δ.xc) (Φ := fun x ρ1 => wTupOf [x] fun d => match ρ1[2]? with
      | some (Sl.own l (.l xs)) => xs.length < sizeLine ∧ Δ.nx (ρ1.set 2 (.own l (.l (xs ++ [d]))))
      | _ => False) hm he h fun r ρ1 hr h1 => ?_
    obtain ⟨o, s3, st, b, s6, s7, a1, a2, a3, a4, rfl⟩ := h1
    refine ⟨by show (rows.map rowD).length < sizeLine; rw [List.length_map]; have := big; omega, q r _ hr ⟨o, s3, st, b, s6, s7, a1, a2, a3, a4, ?_⟩⟩
    simp only [List.map_append, List.map_cons, List.map_nil]
    rfl
theorem mem_sz {d : D} (h : d ∈ [D.int 3, .int 2, .int 4, .int 3, .int 5, .int 1]) : ∃ m : Nat, d = .int m ∧ 1 ≤ m ∧ m ≤ 5 := by
  simp only [List.mem_cons, List.not_mem_nil, or_false] at h
  rcases h with rfl | rfl | rfl | rfl | rfl | rfl
  · exact ⟨3, rfl, by decide, by decide⟩
  · exact ⟨2, rfl, by decide, by decide⟩
  · exact ⟨4, rfl, by decide, by decide⟩
  · exact ⟨3, rfl, by decide, by decide⟩
  · exact ⟨5, rfl, by decide, by decide⟩
  · exact ⟨1, rfl, by decide, by decide⟩
theorem mem_kd {d : D} (h : d ∈ [D.int 2, .int 2, .int 1, .int 3]) : ∃ m : Nat, d = .int m ∧ 1 ≤ m ∧ m ≤ 3 := by
  simp only [List.mem_cons, List.not_mem_nil, or_false] at h
  rcases h with rfl | rfl | rfl | rfl
  · exact ⟨2, rfl, by decide, by decide⟩
  · exact ⟨2, rfl, by decide, by decide⟩
  · exact ⟨1, rfl, by decide, by decide⟩
  · exact ⟨3, rfl, by decide, by decide⟩
abbrev lt_s (k : Nat) (w u : WS) : WS := wIfS (wB (wOp (wEq false) (wVar 4) (wC (.int k)))) w u
abbrev lt_a (elt : WE) : WS := wApp 2 (wCB wTupOf (wCons (wLc (wiRg1 (wCons (wVar 1) wNil)) (wgName 7) wTrue elt [7]) wNil))
abbrev lt_e0 : WE := wOp wMod (wCB wInt (wCons (wOp wAdd (wOp wAdd (wVar 7) (wC (.int 1))) (wVar 5)) wNil)) (wVar 1)
abbrev lt_e1 : WE := wCB wMin2 (wCons (wOp wSub (wVar 1) (wC (.int 1))) (wCons (wOp wAdd (wVar 7) (wC (.int 1))) wNil))
abbrev lt_e2 : WE := wVar 5
abbrev lt_e3 : WE := wIf (wB (wOp (wEq false) (wVar 7) (wVar 5))) (wVar 6) (wIf (wB (wOp (wEq false) (wVar 7) (wVar 6))) (wVar 5) (wVar 7))
abbrev lt_e4 (C : Cs) : WE := wCallB 0 1 (sp_law_take C) (wCons (wVar 1) wNil)
theorem if_st {k : Nat} {w u : WS} {ρ : Rho} {Δ : DE} (h : St l0 l1 m rows P6 ρ) (h1 : w ρ Δ) (h2 : u ρ Δ) : lt_s k w u ρ Δ := by
  obtain ⟨o, s3, st, b, s6, s7, a1, a2, a3, a4, rfl⟩ := h
  simp only [lt_s, wIfS, wB, wOp, wVar, wC, List.getElem?_cons_succ, List.getElem?_cons_zero]
  refine eqF_ints ?_
  cases hk : decide (st = (k : Int))
  · exact h2
  · exact h1
theorem e0_ok (hm : 1 ≤ m) : EltOk l0 l1 m rows P6 lt_e0 := by
  intro ρ s Ψ hρ hs hk
  obtain ⟨o, s3, st, b, s6, s7, g1, g2, g3, g4, rfl⟩ := hρ
  refine ⟨by omega, ?_⟩
  obtain ⟨v, hv, hv2⟩ := nat_of (d := ((s : Int) + 1 + b) % (m : Int)) (Int.emod_nonneg _ (by omega)) (Int.emod_lt_of_pos _ (by omega))
  show Ψ (.int (((s : Int) + 1 + b) % (m : Int))) _
  rw [hv]
  exact hk v _ (by omega) ⟨o, s3, st, b, s6, _, g1, g2, g3, g4, rfl⟩
theorem e1_ok (hm : 1 ≤ m) : EltOk l0 l1 m rows P6 lt_e1 := by
  intro ρ s Ψ hρ hs hk
  obtain ⟨o, s3, st, b, s6, s7, g1, g2, g3, g4, rfl⟩ := hρ
  obtain ⟨v, hv, hv2⟩ := nat_of (d := if (s : Int) + 1 < (m : Int) - 1 then (s : Int) + 1 else (m : Int) - 1) (m := (m : Int)) (by split <;> omega) (by split <;> omega)
  show Ψ (.int (if (s : Int) + 1 < (m : Int) - 1 then (s : Int) + 1 else (m : Int) - 1)) _
  rw [hv]
  exact hk v _ (by omega) ⟨o, s3, st, b, s6, _, g1, g2, g3, g4, rfl⟩
theorem e2_ok : EltOk l0 l1 m rows P6 lt_e2 := by
  intro ρ s Ψ hρ hs hk
  obtain ⟨o, s3, st, b, s6, s7, g1, g2, g3, g4, rfl⟩ := hρ
  obtain ⟨v, hv, hv2⟩ := nat_of g2 g3
  have key := hk v _ (by omega) ⟨o, s3, st, b, s6, .val (.int (s : Nat)), g1, g2, g3, g4, rfl⟩
  rw [← hv] at key
  exact key
def Oth (m : Nat) (s : Sl) : Prop := ∃ k : Nat, k < m ∧ s = .val (.int (k : Nat))
theorem e3_ok : EltOk l0 l1 m rows (Oth m) lt_e3 := by
  intro ρ s Ψ hρ hs hk
  obtain ⟨o, s3, st, b, s6, s7, g1, g2, g3, ⟨k, hk1, rfl⟩, rfl⟩ := hρ
  have st' : St l0 l1 m rows (Oth m) [.own l0 o, .val (.int (m : Nat)), .own l1 (.l (rows.map rowD)), s3, .val (.int st), .val (.int b), .val (.int (k : Nat)), .val (.int (s : Nat))] := ⟨o, s3, st, b, _, _, g1, g2, g3, ⟨k, hk1, rfl⟩, rfl⟩
  simp only [lt_e3, wIf, wB, wOp, wVar, List.set_cons_succ, List.set_cons_zero, List.getElem?_cons_succ, List.getElem?_cons_zero]
  refine eqF_ints ?_
  cases decide ((s : Int) = b)
  · simp only [Bool.false_eq_true, ↓reduceIte]
    refine eqF_ints ?_
    cases decide ((s : Int) = (k : Int))
    · exact hk s _ hs st'
    · obtain ⟨v, hv, hv2⟩ := nat_of g2 g3
      have key := hk v _ (by omega) st'
      rw [← hv] at key
      exact key
  · exact hk k _ hk1 st'
theorem e4_ok (hm : 1 ≤ m) (h5 : m ≤ 5) : EltOk l0 l1 m rows P6 (lt_e4 C) := by
  intro ρ s Ψ hρ hs hk
  obtain ⟨o, s3, st, b, s6, s7, g1, g2, g3, g4, rfl⟩ := hρ
  refine ⟨⟨l0, _, rfl⟩, rfl, o, _, rfl, g1, rfl, by omega, by omega, fun d o7 c1 c2 h7 => ⟨o7, rfl, ?_⟩⟩
  obtain ⟨v, hv, hv2⟩ := nat_of c1 c2
  rw [hv]
  exact hk v _ (by omega) ⟨o7, s3, st, b, s6, _, h7, g2, g3, g4, rfl⟩
abbrev lt_body (C : Cs) : WS := wSeq (wAsgG (wgTup 2 (wgCons (wgName 4) (wgCons (wgName 5) wgNil))) (wTup (wCons (wCallB 0 1 (sp_law_take C) (wCons (wC (.int 6)) wNil)) (wCons (wCallB 0 1 (sp_law_take C) (wCons (wVar 1) wNil)) wNil))))
  (lt_s 0 (lt_a lt_e0) (lt_s 1 (lt_a lt_e1) (lt_s 2 (lt_a lt_e2) (lt_s 3 (wSeq (wAsg 6 (wCallB 0 1 (sp_law_take C) (wCons (wVar 1) wNil))) (lt_a lt_e3)) (lt_a (lt_e4 C))))))
theorem m_law_tables : Sem0 1 8 (sp_law_tables C) (x_law_tables K C) := by
  rintro hl ds Ψ Ξ - ⟨o, h, ho, rfl, q⟩
  match hl, h with
  | some (l0, o'), h =>
    cases (Option.some.inj h : o' = o)
    refine ⟨⟨l0, _, rfl⟩, by show 6 ≤ sizeLine; decide, rfl, o, _, rfl, ho, rfl, by simp, by decide, fun d o2 hd h2 => ⟨o2, rfl, Nat.zero_le _, fun l1 => ?_⟩⟩
    obtain ⟨m, rfl, hm1, hm5⟩ := mem_sz hd
    refine ⟨⟨l0, _, rfl⟩, by show 4 ≤ sizeLine; decide, rfl, o2, _, rfl, h2, rfl, by simp, by decide, fun d o3 hd h3 => ⟨o3, rfl, ?_⟩⟩
    obtain ⟨n, rfl, hn1, hn4⟩ := mem_kd hd
    refine ⟨⟨by omega, by omega⟩, ?_⟩
    show wForL _ _ (rgD 0 (n : Int).toNat) _ _
    rw [Int.toNat_natCast]
    have loop : ∀ (es : List D) (rows : Tbl) (o : OD) (s3 s4 s5 s6 s7 : Sl), GoodB o → (∀ r ∈ rows, RowOk m r) → 1 ≤ rows.length + es.length → rows.length + es.length ≤ 8 →
        wForL (wgName 3) (lt_body C) es [.own l0 o, .val (.int (m : Nat)), .own l1 (.l (rows.map rowD)), s3, s4, s5, s6, s7] { dEnds (some (l0, o3)) Ψ Ξ with nx := fun ρ => wRet (wVar 2) ρ (dEnds (some (l0, o3)) Ψ Ξ) } := by
      intro es
      induction es with
      | nil =>
        intro rows o s3 s4 s5 s6 s7 ho hr h1 h8
        simp only [List.length_nil, Nat.add_zero] at h1 h8
        exact ⟨o, rfl, q rows o (good_rows hm1 (by omega) hr (fun z => by rw [z] at h1; simp at h1) h8) ho⟩
      | cons e es ih =>
        intro rows o s3 s4 s5 s6 s7 ho hr h1 h8
        have nxt : ∀ {P : Sl → Prop} {r : List Nat} {ρ' : Rho}, RowOk m r → St l0 l1 m (rows ++ [r]) P ρ' → wForL (wgName 3) (lt_body C) es ρ' { dEnds (some (l0, o3)) Ψ Ξ with nx := fun ρ => wRet (wVar 2) ρ (dEnds (some (l0, o3)) Ψ Ξ) } := by
          rintro P r ρ' hr1 ⟨o6, t3, st, b6, t6, t7, g1, g2, g3, -, rfl⟩
          exact ih (rows ++ [r]) o6 t3 _ _ t6 t7 g1 (fun r' hr' => (List.mem_append.mp hr').elim (hr r') fun h => by rw [List.mem_singleton.mp h]; exact hr1) (by simp only [List.length_append, List.length_cons, List.length_nil]; omega) (by simp only [List.length_append, List.length_cons, List.length_nil] at h8 ⊢; omega)
        have hr8 : rows.length < 8 := by simp only [List.length_cons] at h8; omega
        refine ⟨⟨l0, _, rfl⟩, rfl, o, _, rfl, ho, rfl, by decide, by decide, fun d o4 a1 a2 h4 => ⟨o4, rfl, ⟨l0, _, rfl⟩, rfl, o4, _, rfl, h4, rfl, by omega, by omega, fun b o5 b1 b2 h5 => ⟨o5, rfl, by show 2 ≤ sizeLine; decide, rfl, rfl, ?_⟩⟩⟩
        have s0 : St l0 l1 m rows (fun _ => True) [.own l0 o5, .val (.int (m : Nat)), .own l1 (.l (rows.map rowD)), .val e, .val (.int d), .val (.int b), s6, s7] := ⟨o5, _, d, b, s6, s7, h5, b1, b2, trivial, rfl⟩
        refine if_st s0 (app_St hm5 (e0_ok hm1) s0 hr8 fun r ρ' hr1 h1 => nxt hr1 h1) (if_st s0 (app_St hm5 (e1_ok hm1) s0 hr8 fun r ρ' hr1 h1 => nxt hr1 h1) (if_st s0 (app_St hm5 e2_ok s0 hr8 fun r ρ' hr1 h1 => nxt hr1 h1) (if_st s0 ?_ (app_St hm5 (e4_ok hm1 hm5) s0 hr8 fun r ρ' hr1 h1 => nxt hr1 h1))))
        refine ⟨⟨l0, _, rfl⟩, rfl, o5, _, rfl, h5, rfl, by omega, by omega, fun x o6 x1 x2 h6 => ⟨o6, rfl, ?_⟩⟩
        obtain ⟨v, hv, hv2⟩ := nat_of x1 x2
        rw [hv]
        have s1 : St l0 l1 m rows (Oth m) [.own l0 o6, .val (.int (m : Nat)), .own l1 (.l (rows.map rowD)), .val e, .val (.int d), .val (.int b), .val (.int (v : Nat)), s7] := ⟨o6, _, d, b, _, s7, h6, b1, b2, ⟨v, by omega, rfl⟩, rfl⟩
        exact app_St hm5 e3_ok s1 hr8 fun r ρ' hr1 h1 => nxt hr1 h1
    have hlen : (rgD 0 n).length = n := by unfold rgD; simp
    exact loop (rgD 0 n) [] o3 .un .un .un .un .un h3 (fun _ h => nomatch h) (by rw [hlen]; simp; omega) (by rw [hlen]; simp; omega)
theorem Good.get {t : Tbl} (g : Good t) {d : Nat} (h : d < t.length) : ∃ r, t[d]? = some r ∧ r.length = wd t ∧ (∀ n ∈ r, n < wd t) ∧ atI (t.map rowD) (d : Nat) = some (rowD r) := by
  refine ⟨t[d], by simp [h], ?_⟩
  obtain ⟨-, -, h3, h4⟩ := g.row t[d] (List.getElem_mem h)
  refine ⟨h3, fun n hn => by have := h4 n hn; unfold wd; omega, ?_⟩
  unfold atI ixN
  simp [h]
theorem at_row {r : List Nat} {s : Nat} (h : s < r.length) : atI (r.map fun n => D.int (n : Nat)) (s : Nat) = some (.int ((r[s]?).getD 0 : Nat)) := by
  unfold atI ixN
  simp [h]
/-- tables[deed][state] -/
theorem Good.step {t : Tbl} (g : Good t) {d s : Nat} (hd : d < t.length) (hs : s < wd t) : stepN t s d < wd t ∧ ∃ r, atI (t.map rowD) (d : Nat) = some (rowD r) ∧ atI (r.map fun n => D.int (n : Nat)) (s : Nat) = some (.int (stepN t s d : Nat)) := by
  obtain ⟨r, h1, h2, h3, h4⟩ := g.get hd
  have e : stepN t s d = (r[s]?).getD 0 := by unfold stepN; rw [h1]; rfl
  have hs' : s < r.length := by omega
  refine ⟨?_, r, h4, ?_⟩
  · rw [e]; simp only [List.getElem?_eq_getElem hs', Option.getD_some]; exact h3 _ (List.getElem_mem hs')
  · rw [e]; exact at_row hs'
theorem Good.led {t : Tbl} (g : Good t) : ∀ {ns : List Nat} {s : Nat}, (∀ n ∈ ns, n < t.length) → s < wd t → ledN t s ns < wd t
  | [], s, _, hs => hs
  | n :: ns, s, h, hs => Good.led g (ns := ns) (fun k hk => h k (List.mem_cons_of_mem _ hk)) (g.step (h n List.mem_cons_self) hs).1
theorem m_law_led : Sem0 3 4 (sp_law_led C) (x_law_led K C) := by
  rintro hl ds Ψ Ξ - ⟨h, t, s, ns, g, hs, hn, rfl, q⟩
  cases none_of h
  have loop : ∀ (ns : List Nat) (s : Nat) (a b : Sl), s < wd t → (∀ n ∈ ns, n < t.length) → Ψ (.int (ledN t s ns : Nat)) none →
      wForL (wgName 3) (wAsg 1 (wOp wIx (wOp wIx (wVar 0) (wVar 3)) (wVar 1))) (numsD ns) [.val (tbsD t), .val (.int (s : Nat)), a, b] { dEnds none Ψ Ξ with nx := fun ρ => wRet (wVar 1) ρ (dEnds none Ψ Ξ) } := by
    intro ns
    induction ns with
    | nil => intro s a b _ _ q; exact (by cases a <;> exact q)
    | cons n ns ih =>
      intro s a b hs hn q
      obtain ⟨h1, r, h2, h3⟩ := g.step (hn n List.mem_cons_self) hs
      have := ih (stepN t s n) a (.val (.int (n : Nat))) h1 (fun k hk => hn k (List.mem_cons_of_mem _ hk)) q
      exact ⟨rowD r, h2, _, h3, this⟩
  exact loop ns s _ .un hs hn q
end
end K30
set_option Elab.async false
set_option autoImplicit false
set_option linter.all false
set_option maxRecDepth 100000
set_option maxHeartbeats 3900000
namespace K30
open DL L2 PyProof.Rows PySem PySem.Spec
section
variable {K : Fg} {C : Cs}
theorem end_nil (t : Tbl) : endRow t [] = List.range (wd t) := by unfold endRow; exact List.map_id' _
theorem end_len (t : Tbl) (ns : List Nat) : (endRow t ns).length = wd t := by unfold endRow; simp
theorem end_at {t : Tbl} {ns : List Nat} {s : Nat} (h : s < wd t) : (endRow t ns)[s]? = some (ledN t s ns) := by unfold endRow; simp [h]
theorem end_cons {t : Tbl} {d : Nat} {r : List Nat} (ns : List Nat) (hr : t[d]? = some r) (hl : r.length = wd t) : endRow t (d :: ns) = r.map fun n => ledN t n ns := by
  apply List.ext_getElem?
  intro s
  by_cases hs : s < wd t
  · have hs' : s < r.length := by omega
    rw [end_at hs, List.getElem?_map, List.getElem?_eq_getElem hs']
    show some (ledN t (stepN t s d) ns) = some (ledN t r[s] ns)
    unfold stepN
    rw [hr]
    simp [hs']
  · rw [List.getElem?_eq_none (by rw [end_len]; omega), List.getElem?_eq_none (by rw [List.length_map]; omega)]
theorem ends_len (t : Tbl) : ∀ ns : List Nat, (endsL t ns).length = ns.length + 1
  | [] => rfl
  | _ :: ns => by simp [endsL, ends_len t ns]
theorem ends_at (t : Tbl) : ∀ (ns : List Nat) (u : Nat), u ≤ ns.length → (endsL t ns)[u]? = some (endRow t (ns.drop u))
  | [], 0, _ => rfl
  | [], u + 1, h => by simp at h
  | d :: ns, 0, _ => rfl
  | d :: ns, u + 1, h => by
    have := ends_at t ns u (by simpa using h)
    simpa [endsL] using this
theorem m_ends_by_age : Sem0 2 6 (sp_ends_by_age C) (x_ends_by_age K C) := by
  rintro hl ds Ψ Ξ - ⟨h, t, ns, g, hlog, rfl, q⟩
  cases none_of h
  have hw := g.head
  have loop : ∀ (rs suf : List Nat) (l : Addr) (a b : Sl), rs.reverse ++ suf = ns →
      wForL (wgName 4) (wSeq (wAsg 2 (wCB wTupOf (wCons (wLc (wiSeq (wOp wIx (wFld C.Machine "tables" (wVar 0)) (wVar 4))) (wgName 5) wTrue (wOp wIx (wVar 2) (wVar 5)) [5]) wNil))) (wApp 3 (wVar 2))) (numsD rs)
        [.val (mach C t), .val (rowD ns), .val (rowD (endRow t suf)), .own l (.l ((endsL t suf).reverse.map rowD)), a, b] { dEnds none Ψ Ξ with nx := fun ρ => wRet (wRevSl (wVar 3) (wUn wNeg (wC (.int 1)))) ρ (dEnds none Ψ Ξ) } := by
    intro rs
    induction rs with
    | nil =>
      intro suf l a b he
      have he : suf = ns := he
      subst he
      show Ψ (.lst ((endsL t suf).reverse.map rowD).reverse) none
      rw [← List.map_reverse, List.reverse_reverse]
      exact q
    | cons d rs ih =>
      intro suf l a b he
      have hd : d < t.length := hlog.lt d (by rw [← he]; simp)
      obtain ⟨r, h1, h2, h3, h4⟩ := g.get hd
      refine ⟨rfl, .tup (t.map rowD), look_tb C t, rowD r, h4, ?_⟩
      have ec := end_cons suf h1 h2
      have hle := (endsL t suf).length
      have fin : ∀ b : Sl, wApp 3 (wVar 2) [.val (mach C t), .val (rowD ns), .val (.tup (r.map fun n => D.int ((ledN t n suf : Nat)))), .own l (.l ((endsL t suf).reverse.map rowD)), .val (.int (d : Nat)), b]
          { dEnds none Ψ Ξ with nx := fun ρ' => wForL (wgName 4) (wSeq (wAsg 2 (wCB wTupOf (wCons (wLc (wiSeq (wOp wIx (wFld C.Machine "tables" (wVar 0)) (wVar 4))) (wgName 5) wTrue (wOp wIx (wVar 2) (wVar 5)) [5]) wNil))) (wApp 3 (wVar 2))) (numsD rs) ρ' { dEnds none Ψ Ξ with nx := fun ρ => wRet (wRevSl (wVar 3) (wUn wNeg (wC (.int 1)))) ρ (dEnds none Ψ Ξ) },
                                ct := fun ρ' => wForL (wgName 4) (wSeq (wAsg 2 (wCB wTupOf (wCons (wLc (wiSeq (wOp wIx (wFld C.Machine "tables" (wVar 0)) (wVar 4))) (wgName 5) wTrue (wOp wIx (wVar 2) (wVar 5)) [5]) wNil))) (wApp 3 (wVar 2))) (numsD rs) ρ' { dEnds none Ψ Ξ with nx := fun ρ => wRet (wRevSl (wVar 3) (wUn wNeg (wC (.int 1)))) ρ (dEnds none Ψ Ξ) },
                                bk := fun ρ => wRet (wRevSl (wVar 3) (wUn wNeg (wC (.int 1)))) ρ (dEnds none Ψ Ξ) } := by
        intro b
        have e1 : D.tup (r.map fun n => D.int ((ledN t n suf : Nat))) = rowD (endRow t (d :: suf)) := by rw [ec]; unfold rowD; rw [List.map_map]; rfl
        rw [e1]
        refine ⟨⟨l, _, rfl⟩, ?_, ?_⟩
        · show ((endsL t suf).reverse.map rowD).length < sizeLine
          rw [List.length_map, List.length_reverse, ends_len]
          have h5 : suf.length ≤ ns.length := by rw [← he]; simp; omega
          have := hlog.le; have := big; omega
        · have := ih (d :: suf) l (.val (.int (d : Nat))) b (by rw [← he]; simp)
          have e2 : (endsL t suf).reverse.map rowD ++ [rowD (endRow t (d :: suf))] = (endsL t (d :: suf)).reverse.map rowD := by simp [endsL]
          show wForL _ _ _ [_, _, _, .own l (.l ((endsL t suf).reverse.map rowD ++ [rowD (endRow t (d :: suf))])), _, _] _
          rw [e2]
          exact this
      show wLcL _ _ _ _ (numsD r) [] [.val (mach C t), .val (rowD ns), .val (rowD (endRow t suf)), .own l (.l ((endsL t suf).reverse.map rowD)), .val (.int (d : Nat)), .un] _
      refine lc_map (R := fun ρ => ρ = [.val (mach C t), .val (rowD ns), .val (rowD (endRow t suf)), .own l (.l ((endsL t suf).reverse.map rowD)), .val (.int (d : Nat)), .un]) (fun x => match x with | .int i => .int ((ledN t i.toNat suf : Nat)) | x => x) (numsD r) _ rfl (by unfold numsD; rw [List.length_map]; have := big; omega) (fun x hx ρ' Φ hR hk => ?_) fun ρ' hR => ?_
      · subst hR
        obtain ⟨n, hn, rfl⟩ := List.mem_map.mp hx
        have hn' := h3 n hn
        have h6 := hk [.val (mach C t), .val (rowD ns), .val (rowD (endRow t suf)), .own l (.l ((endsL t suf).reverse.map rowD)), .val (.int (d : Nat)), .val (.int (n : Nat))] rfl
        have h7 := at_row (r := endRow t suf) (s := n) (by rw [end_len]; exact hn')
        rw [end_at hn'] at h7
        exact ⟨_, h7, h6⟩
      · subst hR
        have e3 : (numsD r).map (fun x => match x with | .int i => D.int ((ledN t i.toNat suf : Nat)) | x => x) = r.map fun n => D.int ((ledN t n suf : Nat)) := by
          unfold numsD
          rw [List.map_map]
          exact List.map_congr_left fun n _ => rfl
        rw [e3]
        cases b with
        | un => exact fin .un
        | val d => exact fin (.val d)
        | own l' o => exact fin .un
  refine ⟨rfl, .int (wd t : Nat), look_st C t, ⟨by omega, by omega⟩, ?_⟩
  have e0 : D.tup (rgD 0 (Int.toNat (wd t : Nat))) = rowD (endRow t []) := by rw [Int.toNat_natCast, end_nil, rg_nums]; rfl
  have e1 : (numsD ns).reverse = numsD ns.reverse := by unfold numsD; rw [List.map_reverse]
  show 1 ≤ sizeLine ∧ ∀ l, wForL _ _ (numsD ns).reverse [_, _, Sl.val (D.tup (rgD 0 (Int.toNat (wd t : Nat)))), .own l (.l [D.tup (rgD 0 (Int.toNat (wd t : Nat)))]), .un, .un] _
  rw [e0, e1]
  exact ⟨by have := big; omega, fun l => loop ns.reverse [] l .un .un (by simp)⟩
theorem cell_at {rows : Tbl} {u s : Nat} (hu : u < rows.length) (hs : ∀ r ∈ rows, s < r.length) : ∃ r, atI (rows.map rowD) (u : Nat) = some (rowD r) ∧ atI (r.map fun n => D.int (n : Nat)) (s : Nat) = some (.int (cellN rows u s : Nat)) := by
  refine ⟨rows[u], by unfold atI ixN; simp [hu], ?_⟩
  have := at_row (hs rows[u] (List.getElem_mem hu))
  unfold cellN
  simpa [hu] using this
theorem m_latest_place : Sem0 3 4 (sp_latest_place C) (x_latest_place K C) := by
  rintro hl ds Ψ Ξ - ⟨h, rows, s, u, rfl, hs, hu, hle, q⟩
  cases none_of h
  have hlen : (rows.map rowD).length = rows.length := List.length_map ..
  show wWhile _ _ _ _
  refine ⟨fun m ρ => ∃ p : Nat, m = p ∧ u ≤ p ∧ p < rows.length ∧ (∀ k, p < k → k < rows.length → cellN rows k s ≠ cellN rows u s) ∧ ρ = [.val (.lst (rows.map rowD)), .val (.int (s : Nat)), .val (.int (u : Nat)), .val (.int (p : Nat))], ⟨rows.length - 1, rows.length - 1, rfl, by omega, by omega, fun k h1 h2 => by omega, ?_⟩, ?_⟩
  · have e : ((rows.map rowD).length : Int) - 1 = ((rows.length - 1 : Nat) : Int) := by rw [hlen]; omega
    show [_, _, _, Sl.val (D.int (((rows.map rowD).length : Int) - 1))] = _
    rw [e]
  · rintro m ρ ⟨p, rfl, h1, h2, h3, rfl⟩
    obtain ⟨r1, a1, a2⟩ := cell_at h2 hs
    obtain ⟨r2, b1, b2⟩ := cell_at hu hs
    refine ⟨rowD r1, a1, _, a2, rowD r2, b1, _, b2, eq_ints ?_⟩
    by_cases he : cellN rows m s = cellN rows u s
    · rw [decide_eq_true (by rw [he])]
      exact q m ⟨h2, he, fun k => h3 k⟩
    · rw [decide_eq_false (fun z => he (by omega))]
      have hp : m ≠ u := fun z => he (by rw [z])
      refine ⟨m, rfl, m - 1, by omega, m - 1, rfl, by omega, by omega, fun k k1 k2 => ?_, ?_⟩
      · by_cases hk : k = m
        · rw [hk]; exact he
        · exact h3 k (by omega) k2
      · have e : (m : Int) - 1 = ((m - 1 : Nat) : Int) := by omega
        show [_, _, _, Sl.val (D.int ((m : Int) - 1))] = _
        rw [e]
end
end K30
set_option Elab.async false
set_option autoImplicit false
set_option linter.all false
set_option maxRecDepth 100000
set_option maxHeartbeats 3900000
namespace K30
open DL L2 PyProof.Rows PySem PySem.Spec
section
variable {K : Fg} {C : Cs}
theorem nums_len (ns : List Nat) : (numsD ns).length = ns.length := List.length_map ..
theorem log_no {t : Tbl} {x : D} {ns : List Nat} (hl : LogOk t ns) (hx : seqD x = some (numsD ns)) : logF t.length x = .non ∧ tupD x = rowD ns := by
  refine ⟨?_, by unfold tupD; rw [hx]; rfl⟩
  unfold logF
  rw [hx]
  show (if (numsD ns).length ≤ 10000 then faultD (t.length : Nat) (numsD ns) 0 else .int (-1)) = .non
  rw [if_pos (by rw [nums_len]; have := hl.le; omega)]
  exact fault_none t.length ns 0 hl.lt
theorem below_nat {s m : Nat} (h : s < m) : belowD (.int (s : Nat)) (m : Nat) = true := by
  show (decide (0 ≤ (s : Int)) && decide ((s : Int) < (m : Int))) = true
  rw [decide_eq_true (by omega), decide_eq_true (by omega)]; rfl
abbrev gateW (C : Cs) (R : WS) : WS := wSeq (wAsg 1 (wCallA 2 0 (sp_check_log C) (fun ds _ => ds) (wCons (wVar 0) (wCons (wVar 1) wNil)) wNil)) (wSeq (wDrop (wCallA 2 0 (sp_check_state C) (fun ds _ => ds) (wCons (wVar 0) (wCons (wVar 2) wNil)) wNil))
  (wSeq (wDrop (wCallA 2 0 (sp_check_age C) (fun ds _ => ds) (wCons (wVar 1) (wCons (wVar 3) wNil)) wNil)) R))
theorem gate_ok {R : WS} {rest : Rho} {ds : List D} {Δ : DE} {Ξ : Addr → Str → D → Prop} {G : Tbl → List Nat → Nat → Nat → Prop} (h : gate C ds Ξ G) (hx : Δ.xc = fun C f d _ => Ξ C f d)
    (hR : ∀ t ns (s u : Nat), Good t → LogOk t ns → s < wd t → u ≤ ns.length → G t ns s u → R (.val (mach C t) :: .val (rowD ns) :: .val (.int (s : Nat)) :: .val (.int (u : Nat)) :: rest) Δ) : gateW C R (ds.map .val ++ rest) Δ := by
  obtain ⟨t, x, st, ag, g, rfl, hp, hs, ha, q⟩ := h
  refine ⟨rfl, rfl, rfl, t, x, rfl, hp, ?_⟩
  rcases q with ⟨i, e, q⟩ | ⟨ns, hl, e, q⟩
  · rw [e]
    show Δ.xc C.BadLog "at" (.int i) _
    rw [hx]; exact q
  · obtain ⟨e1, e2⟩ := log_no hl e
    rw [e1, e2]
    refine ⟨rfl, rfl, rfl, t, st, rfl, hs, ?_⟩
    rcases q with ⟨e3, q⟩ | ⟨s, rfl, hs', q⟩
    · rw [if_neg (by rw [e3]; decide)]
      show Δ.xc C.NoState "state" st _
      rw [hx]; exact q
    · rw [if_pos (below_nat hs')]
      refine ⟨rfl, rfl, rfl, rowD ns, numsD ns, ag, rfl, rfl, ha, ?_⟩
      rw [nums_len]
      rcases q with ⟨e4, q⟩ | ⟨u, rfl, hu, q⟩
      · rw [if_neg (by rw [e4]; decide)]
        show Δ.xc C.Refused "at" ag _
        rw [hx]; exact q
      · rw [if_pos (below_nat (by omega))]
        exact hR t ns s u g hl hs' hu q
theorem led_app (t : Tbl) (s : Nat) (a b : List Nat) : ledN t s (a ++ b) = ledN t (ledN t s a) b := List.foldl_append ..
theorem rg_cons (lo : Int) (k : Nat) : rgD lo (k + 1) = .int lo :: rgD (lo + 1) k := by
  unfold rgD
  rw [List.range_succ_eq_map, List.map_cons, List.map_map]
  congr 1
  · show D.int (lo + ((0 : Nat) : Int)) = _
    congr 1; omega
  · refine List.map_congr_left fun i _ => ?_
    show D.int (lo + ((i + 1 : Nat) : Int)) = .int (lo + 1 + (i : Nat))
    congr 1; omega
def backTo (t : Tbl) (ns : List Nat) (s u v : Nat) : List Nat := (List.range (v + 1 - u)).map (u + ·) |>.filter fun w => decide (ledN t s ((ns.take w).drop u) = s)
theorem back_0 (t : Tbl) (ns : List Nat) (s u : Nat) : backTo t ns s u u = [u] := by
  have : u + 1 - u = 1 := by omega
  unfold backTo
  rw [this]
  have e : (ns.take u).drop u = [] := by rw [List.drop_eq_nil_iff]; simp; omega
  simp [List.range_succ, e, ledN]
theorem take_step {ns : List Nat} {u v : Nat} (hu : u ≤ v) (hv : v < ns.length) : (ns.take (v + 1)).drop u = (ns.take v).drop u ++ [ns[v]] := by
  rw [List.take_succ_eq_append_getElem hv, List.drop_append_of_le_length (by simp; omega)]
theorem back_s (t : Tbl) (ns : List Nat) (s u v : Nat) (hu : u ≤ v) : backTo t ns s u (v + 1) = if ledN t s ((ns.take (v + 1)).drop u) = s then backTo t ns s u v ++ [v + 1] else backTo t ns s u v := by
  have e : v + 1 + 1 - u = (v + 1 - u) + 1 := by omega
  have e2 : u + (v + 1 - u) = v + 1 := by omega
  unfold backTo
  rw [e, List.range_succ, List.map_append, List.filter_append]
  simp only [List.map_cons, List.map_nil, e2, List.filter_cons, List.filter_nil]
  split
  · rename_i h; rw [if_pos (of_decide_eq_true h)]
  · rename_i h; rw [if_neg (fun z => h (decide_eq_true z))]; simp
abbrev raB (C : Cs) : WS := wSeq (wAsg 5 (wOp wIx (wOp wIx (wFld C.Machine "tables" (wVar 0)) (wOp wIx (wVar 1) (wVar 6))) (wVar 5))) (wIfS (wB (wOp (wEq false) (wVar 5) (wVar 2))) (wApp 4 (wOp wAdd (wVar 6) (wC (.int 1)))) wNext)
theorem ra_if {a0 a1 a3 : Sl} {s x v : Int} {l : Addr} {fs : List D} {Δ : DE} (hf : fs.length < sizeLine) (h1 : x = s → Δ.nx [a0, a1, .val (.int s), a3, .own l (.l (fs ++ [.int (v + 1)])), .val (.int x), .val (.int v)])
    (h2 : x ≠ s → Δ.nx [a0, a1, .val (.int s), a3, .own l (.l fs), .val (.int x), .val (.int v)]) : wIfS (wB (wOp (wEq false) (wVar 5) (wVar 2))) (wApp 4 (wOp wAdd (wVar 6) (wC (.int 1)))) wNext [a0, a1, .val (.int s), a3, .own l (.l fs), .val (.int x), .val (.int v)] Δ := by
  simp only [wIfS, wB, wOp, wVar, List.getElem?_cons_succ, List.getElem?_cons_zero]
  refine eqF_ints ?_
  by_cases h : x = s
  · rw [decide_eq_true h]
    exact ⟨⟨l, _, rfl⟩, hf, h1 h⟩
  · rw [decide_eq_false h]
    exact h2 h
theorem m_return_ages : Sem0 4 7 (sp_return_ages C) (x_return_ages K C) := by
  rintro hl ds Ψ Ξ - ⟨h, q⟩
  cases none_of h
  refine gate_ok (rest := [.un, .un, .un]) q rfl fun t ns s u g hlog hs hu q => ?_
  have loop : ∀ (k v : Nat) (l : Addr) (b : Sl), v + k = ns.length → u ≤ v →
      wForL (wgName 6) (raB C) (rgD (v : Nat) k) [.val (mach C t), .val (rowD ns), .val (.int (s : Nat)), .val (.int (u : Nat)), .own l (.l (numsD (backTo t ns s u v))), .val (.int (ledN t s ((ns.take v).drop u) : Nat)), b]
        { dEnds none Ψ Ξ with nx := fun ρ => wRet (wCB wTupOf (wCons (wVar 4) wNil)) ρ (dEnds none Ψ Ξ) } := by
    intro k
    induction k with
    | zero =>
      intro v l b hv _
      have hv : v = ns.length := by omega
      subst hv
      exact q
    | succ k ih =>
      intro v l b hv huv
      have hlt : v < ns.length := by omega
      rw [rg_cons]
      have hd : ns[v] < t.length := hlog.lt _ (List.getElem_mem hlt)
      have hw : ledN t s ((ns.take v).drop u) < wd t := g.led (fun n hn => hlog.lt n (List.mem_of_mem_take (List.mem_of_mem_drop hn))) hs
      obtain ⟨h1, r, h2, h3⟩ := g.step hd hw
      have h0 := at_row hlt
      rw [List.getElem?_eq_getElem hlt, Option.getD_some] at h0
      refine ⟨rfl, .tup (t.map rowD), look_tb C t, _, h0, rowD r, h2, _, h3, ?_⟩
      have e1 : ledN t s ((ns.take (v + 1)).drop u) = stepN t (ledN t s ((ns.take v).drop u)) ns[v] := by rw [take_step huv hlt, led_app]; rfl
      have ev : ((v : Int) + 1) = ((v + 1 : Nat) : Int) := by omega
      have hb := back_s t ns s u v huv
      have nxt := ih (v + 1) l (.val (.int (v : Nat))) (by omega) (by omega)
      have hf : (numsD (backTo t ns s u v)).length < sizeLine := by
        rw [nums_len]
        have h5 : (backTo t ns s u v).length ≤ v + 1 - u := by unfold backTo; exact Nat.le_trans (List.length_filter_le ..) (by simp)
        have := hlog.le; have := big; omega
      refine ra_if hf (fun he => ?_) fun he => ?_
      · have he' : stepN t (ledN t s ((ns.take v).drop u)) ns[v] = s := by omega
        rw [if_pos (by rw [e1]; exact he')] at hb
        rw [hb, e1] at nxt
        have e2 : numsD (backTo t ns s u v ++ [v + 1]) = numsD (backTo t ns s u v) ++ [D.int ((v : Int) + 1)] := by unfold numsD; rw [List.map_append]; rfl
        rw [e2, ← ev] at nxt
        exact nxt
      · have he' : ¬ stepN t (ledN t s ((ns.take v).drop u)) ns[v] = s := fun z => he (by omega)
        rw [if_neg (by rw [e1]; exact he')] at hb
        rw [hb, e1, ← ev] at nxt
        exact nxt
  refine ⟨by show 1 ≤ sizeLine; have := big; omega, fun l => ?_⟩
  have e3 : (((numsD ns).length : Nat) : Int) - (u : Int) = ((ns.length - u : Nat) : Int) := by rw [nums_len]; omega
  have hle := hlog.le
  refine ⟨⟨by omega, by omega, ?_, ?_⟩, ?_⟩
  · show -(2 ^ 62 : Int) ≤ (((numsD ns).length : Nat) : Int); omega
  · show (((numsD ns).length : Nat) : Int) < 2 ^ 62; rw [nums_len]; omega
  · show wForL _ _ (rgD (u : Nat) ((((numsD ns).length : Nat) : Int) - (u : Int)).toNat) _ _
    rw [e3, Int.toNat_natCast]
    have := loop (ns.length - u) u l .un (by omega) (Nat.le_refl _)
    rw [back_0] at this
    have e4 : (ns.take u).drop u = [] := by rw [List.drop_eq_nil_iff]; simp; omega
    rw [e4] at this
    exact this
theorem cell_end {t : Tbl} {ns : List Nat} {k s : Nat} (hk : k ≤ ns.length) (hs : s < wd t) : cellN (endsL t ns) k s = ledN t s (ns.drop k) := by
  unfold cellN
  rw [ends_at t ns k hk]
  show ((endRow t (ns.drop k))[s]?).getD 0 = _
  rw [end_at hs]; rfl
theorem last_of {t : Tbl} {ns : List Nat} {s u j : Nat} (hs : s < wd t) (hu : u ≤ ns.length) (h : Latest (endsL t ns) s u j) : LastAt t ns s u j := by
  have hl := h.lt
  rw [ends_len] at hl
  refine ⟨by omega, ?_, fun k h1 h2 => ?_⟩
  · have := h.eq
    rw [cell_end (by omega) hs, cell_end hu hs] at this
    exact this
  · have := h.up k h1 (by rw [ends_len]; omega)
    rw [cell_end h2 hs, cell_end hu hs] at this
    exact this
theorem rows_len {t : Tbl} {ns : List Nat} {s : Nat} (hs : s < wd t) : ∀ r ∈ endsL t ns, s < r.length := by
  induction ns with
  | nil => intro r hr; rw [List.mem_singleton.mp hr, end_len]; exact hs
  | cons n ns ih =>
    intro r hr
    rcases List.mem_cons.mp hr with rfl | hr
    · rw [end_len]; exact hs
    · exact ih r hr
theorem m_tail_place : Sem0 4 4 (sp_tail_place C) (x_tail_place K C) := by
  rintro hl ds Ψ Ξ - ⟨h, q⟩
  cases none_of h
  refine gate_ok (rest := []) q rfl fun t ns s u g hlog hs hu q => ?_
  refine ⟨rfl, rfl, rfl, t, ns, g, hlog, rfl, ?_⟩
  refine ⟨rfl, rfl, rfl, endsL t ns, s, u, rfl, rows_len hs, by rw [ends_len]; omega, by rw [ends_len]; have := hlog.le; omega, fun j hj => ?_⟩
  exact q j (last_of hs hu hj)
end
end K30
set_option Elab.async false
set_option autoImplicit false
set_option linter.all false
set_option maxRecDepth 100000
set_option maxHeartbeats 3900000
namespace K30
open DL L2 PyProof.Rows PySem PySem.Spec
section
variable {K : Fg} {C : Cs}
theorem at2d (a b : D) : atI [a, b] 0 = some a ∧ atI [a, b] 1 = some b := by simp [atI, ixN]
theorem wix_seq {x : D} {xs : List D} {i : Int} {y : D} {Φ : D → Prop} (hx : seqD x = some xs) (h : atI xs i = some y) (q : Φ y) : wIx x (.int i) Φ := by
  obtain rfl | rfl := seq_cases hx <;> exact ⟨y, h, q⟩
abbrev ccB (C : Cs) : WS := wSeq (wIfS (wNot (wB (wCallA 2 0 (sp_is_sequence_of C) (fun ds _ => ds) (wCons (wVar 3) (wCons (wC (.int 2)) wNil)) wNil))) (wRaise C.BadCopy "at" (wCons (wVar 2) wNil)) wNext)
  (wIfS (wOr (wNot (wB (wCallA 2 0 (sp_is_below C) (fun ds _ => ds) (wCons (wOp wIx (wVar 3) (wC (.int 0))) (wCons (wFld C.Machine "states" (wVar 0)) wNil)) wNil))) (wNot (wB (wCallA 2 0 (sp_is_below C) (fun ds _ => ds) (wCons (wOp wIx (wVar 3) (wC (.int 1))) (wCons (wOp wAdd (wCB wLen (wCons (wVar 1) wNil)) (wC (.int 1))) wNil)) wNil)))) (wRaise C.BadCopy "at" (wCons (wVar 2) wNil)) wNext)
theorem cc_one {t : Tbl} {y x c : D} {ys : List D} {Δ : DE} (hy : seqD y = some ys) (hc : plain2 c) (h1 : copB (wd t : Nat) ((ys.length + 1 : Nat) : Int) c = true → Δ.nx [.val (mach C t), .val y, .val x, .val c]) (h2 : copB (wd t : Nat) ((ys.length + 1 : Nat) : Int) c = false → Δ.xc C.BadCopy "at" x [.val (mach C t), .val y, .val x, .val c]) :
    ccB C [.val (mach C t), .val y, .val x, .val c] Δ := by
  refine ⟨rfl, rfl, rfl, c, 2, rfl, hc.1, ?_⟩
  show if (!lenIs c 2) = true then _ else _
  unfold lenIs
  cases hs : seqD c with
  | none => exact h2 (by unfold copB; rw [hs])
  | some xs =>
    match xs, hs with
    | [], hs => exact h2 (by unfold copB; rw [hs])
    | [a], hs => exact h2 (by unfold copB; rw [hs])
    | a :: b :: d :: r, hs =>
      have e : decide ((((a :: b :: d :: r).length : Nat) : Int) = 2) = false := decide_eq_false (by simp; omega)
      simp only [e, Bool.not_false, ↓reduceIte]
      exact h2 (by unfold copB; rw [hs])
    | [a, b], hs =>
      have pa := hc.2 _ hs a (by simp)
      have pb := hc.2 _ hs b (by simp)
      have e : copB (wd t : Nat) ((ys.length + 1 : Nat) : Int) c = (belowD a (wd t : Nat) && belowD b ((ys.length + 1 : Nat) : Int)) := by unfold copB; rw [hs]
      rw [e] at h1 h2
      have e2 : (!match (some [a, b] : Option (List D)) with | some xs => decide (((xs.length : Nat) : Int) = 2) | none => false) = false := rfl
      rw [if_neg (by first | exact Bool.false_ne_true | (rw [show decide ((([a, b].length : Nat) : Int) = 2) = true from rfl]; decide) | simp)]
      unfold wNext
      dsimp only [wIfS]
      show (wOr _ _) _ _ _
      refine wix_seq hs (at2d a b).1 ⟨rfl, .int (wd t : Nat), look_st C t, rfl, rfl, rfl, a, (wd t : Nat), rfl, pa, ?_⟩
      cases hb : belowD a (wd t : Nat)
      · rw [hb] at h2
        exact h2 rfl
      · rw [hb] at h1 h2
        refine wix_seq hs (at2d a b).2 ?_
        have ey : (((ys.length + 1 : Nat)) : Int) = (ys.length : Int) + 1 := by omega
        rw [ey] at h1 h2
        have go : sp_is_below C none [b, .int ((ys.length : Int) + 1)] (fun d _ => ∃ v, d = .bl v ∧ if (!v) = true then Δ.xc C.BadCopy "at" x [.val (mach C t), .val y, .val x, .val c] else Δ.nx [.val (mach C t), .val y, .val x, .val c]) fun _ _ _ => False := by
          refine ⟨rfl, b, _, rfl, pb, _, rfl, ?_⟩
          cases hb2 : belowD b ((ys.length : Int) + 1) <;> rw [hb2] at h1 h2
          · exact h2 rfl
          · exact h1 rfl
        obtain ⟨-, x', m, e5, p5, v, e6, q⟩ := go
        obtain rfl | rfl := seq_cases hy
        all_goals
          refine ⟨rfl, rfl, rfl, x', m, e5, p5, ?_⟩
          rw [e6]
          exact q
theorem m_check_copies : Sem0 3 4 (sp_check_copies C) (x_check_copies K C) := by
  rintro hl ds Ψ Ξ - ⟨h, t, y, ys, x, rfl, hy, hp, q⟩
  cases none_of h
  refine ⟨rfl, rfl, rfl, x, rfl, hp.1, ?_⟩
  unfold copsB at q
  show if (!(seqD x).isSome) = true then _ else _
  cases hx : seqD x with
  | none => rw [hx] at q; exact q
  | some cs =>
    rw [hx] at q
    have hpl := hp.2 cs hx
    have loop : ∀ (cs : List D) (a : Sl), (∀ c ∈ cs, plain2 c) → (if cs.all (copB (wd t : Nat) ((ys.length + 1 : Nat) : Int)) = true then Ψ .non none else Ξ C.BadCopy "at" x) →
        wForL (wgName 3) (ccB C) cs [.val (mach C t), .val y, .val x, a] (dEnds none Ψ Ξ) := by
      intro cs
      induction cs with
      | nil => intro a _ q; exact q
      | cons c cs ih =>
        intro a hc q
        refine cc_one hy (hc c List.mem_cons_self) (fun e => ?_) fun e => ?_
        · rw [List.all_cons, e, Bool.true_and] at q
          exact ih _ (fun d hd => hc d (List.mem_cons_of_mem _ hd)) q
        · rw [List.all_cons, e, Bool.false_and, if_neg (by decide)] at q
          exact q
    have := loop cs .un hpl q
    obtain rfl | rfl := seq_cases hx <;> exact this
theorem LastAt.uniq {t : Tbl} {ns : List Nat} {s u j k : Nat} (h : LastAt t ns s u j) (h' : LastAt t ns s u k) : j = k := by
  rcases Nat.lt_trichotomy j k with z | z | z
  · exact absurd h'.eq (h.up k z h'.le)
  · exact z
  · exact absurd h.eq (h'.up j z h.le)
theorem ints_nums : ∀ js : List Nat, intsOf (numsD js) = some (js.map fun (n : Nat) => (n : Int))
  | [] => rfl
  | j :: js => by
    show (intsOf (numsD js)).map ((j : Int) :: ·) = _
    rw [ints_nums js]; rfl
/-- a comprehension over pairs -/
theorem lc_pairs {we : WE} {i m : Nat} {vs : List Nat} {R : Rho → Prop} {P : (Nat × Nat) → Nat → Prop} {Φ : List D → Rho → Prop} : ∀ (cs : List (Nat × Nat)) (ds : List D) (acc : List Nat) (ρ : Rho), Paired IsCop cs ds → R ρ → acc.length + ds.length ≤ sizeLine →
    (∀ p ∈ cs, ∀ ρ' (Ψ : D → Rho → Prop), R ρ' → (∀ j ρ3, P p j → R (wipeR ρ3 vs) → Ψ (.int (j : Nat)) ρ3) → we ((ρ'.set i (.val (.int (p.1 : Nat)))).set m (.val (.int (p.2 : Nat)))) χ0 Ψ) →
    (∀ js ρ', Paired P cs js → R ρ' → Φ (numsD (acc ++ js)) ρ') → wLcL (wgSeq 2 (wgCons (wgName i) (wgCons (wgName m) wgNil))) wTrue we vs ds (numsD acc) ρ Φ
  | _, _, acc, ρ, .nil, hR, _, _, hΦ => by
    have := hΦ [] ρ .nil hR
    rw [List.append_nil] at this
    exact this
  | p :: cs, d :: ds, acc, ρ, .cons hd ht, hR, hl, hs, hΦ => by
    have key : we ((ρ.set i (.val (.int (p.1 : Nat)))).set m (.val (.int (p.2 : Nat)))) χ0 fun y ρ3 => (numsD acc).length < sizeLine ∧ wLcL (wgSeq 2 (wgCons (wgName i) (wgCons (wgName m) wgNil))) wTrue we vs ds (numsD acc ++ [y]) (wipeR ρ3 vs) Φ := by
      refine hs p List.mem_cons_self ρ _ hR fun j ρ3 hj h3 => ⟨by rw [nums_len]; simp only [List.length_cons] at hl; omega, ?_⟩
      have := lc_pairs cs ds (acc ++ [j]) _ ht h3 (by simp only [List.length_append, List.length_cons, List.length_nil] at hl ⊢; omega) (fun p' hp' => hs p' (List.mem_cons_of_mem _ hp')) fun js ρ' h1 h2 => by
        rw [List.append_assoc]
        exact hΦ (j :: js) ρ' (.cons hj h1) h2
      have e : numsD (acc ++ [j]) = numsD acc ++ [D.int (j : Nat)] := by unfold numsD; rw [List.map_append]; rfl
      rw [e] at this
      exact this
    obtain rfl | rfl := seq_cases hd <;> (refine ⟨rfl, ?_⟩; simp only [wgCons, wgName, wgNil, wTrue, ↓reduceIte]; first | exact key | exact ⟨trivial, key⟩ | exact ⟨rfl, key⟩)
theorem paired_mem {α β : Type} {P : α → β → Prop} : ∀ {xs : List α} {ys : List β}, Paired P xs ys → ∀ y ∈ ys, ∃ x ∈ xs, P x y
  | _, _, .nil, y, h => by cases h
  | _, _, .cons h t, y, hy => by
    rcases List.mem_cons.mp hy with rfl | hy
    · exact ⟨_, List.mem_cons_self, h⟩
    · obtain ⟨x, hx, hp⟩ := paired_mem t y hy
      exact ⟨x, List.mem_cons_of_mem _ hx, hp⟩
theorem paired_mem' {α β : Type} {P : α → β → Prop} : ∀ {xs : List α} {ys : List β}, Paired P xs ys → ∀ x ∈ xs, ∃ y ∈ ys, P x y
  | _, _, .nil, y, h => by cases h
  | _, _, .cons h t, y, hy => by
    rcases List.mem_cons.mp hy with rfl | hy
    · exact ⟨_, List.mem_cons_self, h⟩
    · obtain ⟨x, hx, hp⟩ := paired_mem' t y hy
      exact ⟨x, List.mem_cons_of_mem _ hx, hp⟩
theorem paired_len {α β : Type} {P : α → β → Prop} : ∀ {xs : List α} {ys : List β}, Paired P xs ys → xs.length = ys.length
  | _, _, .nil => rfl
  | _, _, .cons _ t => by simp [paired_len t]
theorem m_needed_place : Sem0 3 6 (sp_needed_place C) (x_needed_place K C) := by
  rintro hl ds Ψ Ξ - ⟨h, t, x, y, g, rfl, hp, q⟩
  cases none_of h
  refine ⟨rfl, rfl, rfl, t, x, rfl, hp, ?_⟩
  rcases q with ⟨i, e, q⟩ | ⟨ns, hlog, e, hp3, q⟩
  · rw [e]; exact q
  obtain ⟨e1, e2⟩ := log_no hlog e
  rw [e1, e2]
  refine ⟨rfl, rfl, rfl, t, rowD ns, numsD ns, y, rfl, rfl, hp3, ?_⟩
  rw [nums_len]
  rcases q with ⟨e3, q⟩ | ⟨cs, zs, hz, hcop, hlen, hb, q⟩
  · rw [if_neg (by rw [e3]; decide)]; exact q
  have hall : copsB (wd t : Nat) ((ns.length + 1 : Nat) : Int) y = true := by
    unfold copsB
    rw [hz]
    show zs.all _ = true
    rw [List.all_eq_true]
    intro c hc
    obtain ⟨p, hp, hcp⟩ := paired_mem hcop c hc
    unfold copB
    rw [hcp]
    show (belowD (.int (p.1 : Nat)) (wd t : Nat) && belowD (.int (p.2 : Nat)) ((ns.length + 1 : Nat) : Int)) = true
    rw [below_nat (hb p hp).1, below_nat (by have := (hb p hp).2; omega)]; rfl
  rw [if_pos hall]
  refine ⟨rfl, rfl, rfl, t, ns, g, hlog, rfl, ?_⟩
  have comp : ∀ (Φ : List D → Rho → Prop), (∀ js, Paired (fun p j => LastAt t ns p.1 p.2 j) cs js → Φ (numsD js) [.val (mach C t), .val (rowD ns), .val y, .val (.lst ((endsL t ns).map rowD)), .un, .un]) → wLcL (wgSeq 2 (wgCons (wgName 4) (wgCons (wgName 5) wgNil))) wTrue (wCallA 3 0 (sp_latest_place C) (fun ds _ => ds) (wCons (wVar 3) (wCons (wVar 4) (wCons (wVar 5) wNil))) wNil) [4, 5] zs (numsD []) [.val (mach C t), .val (rowD ns), .val y, .val (.lst ((endsL t ns).map rowD)), .un, .un] Φ := by
    intro Φ hΦ
    refine lc_pairs (R := fun ρ => ρ = [.val (mach C t), .val (rowD ns), .val y, .val (.lst ((endsL t ns).map rowD)), .un, .un]) (P := fun p j => LastAt t ns p.1 p.2 j) cs zs [] _ hcop rfl (by have := paired_len hcop; have := big; simp only [List.length_nil]; omega) (fun p hp ρ' Φ hR hk => ?_) fun js ρ' hj hR => ?_
    · subst hR
      obtain ⟨h1, h2⟩ := hb p hp
      refine ⟨rfl, rfl, rfl, endsL t ns, p.1, p.2, rfl, rows_len h1, by rw [ends_len]; omega, by rw [ends_len]; have := hlog.le; omega, fun j hj => ?_⟩
      exact hk j [.val (mach C t), .val (rowD ns), .val y, .val (.lst ((endsL t ns).map rowD)), .val (.int (p.1 : Nat)), .val (.int (p.2 : Nat))] (last_of h1 h2 hj) rfl
    · rw [List.nil_append, hR]
      exact hΦ js hj
  have fin : ∀ js, Paired (fun (p : Nat × Nat) j => LastAt t ns p.1 p.2 j) cs js → ∃ ms, intsOf (numsD js) = some ms ∧ (ms = [] → Ψ (.int ((numsD ns).length : Nat)) none) ∧ ∀ m, m ∈ ms → (∀ z, z ∈ ms → m ≤ z) → Ψ (.int m) none := by
      intro js hj
      refine ⟨_, ints_nums js, fun z => ?_, fun m hm hle => ?_⟩
      · have hj0 : js = [] := by cases js with | nil => rfl | cons _ _ => cases z
        have hc0 : cs = [] := by
          have := paired_len hj
          rw [hj0] at this
          exact List.length_eq_zero_iff.mp this
        rw [nums_len]
        exact q ns.length ⟨.inl ⟨hc0, rfl⟩, fun p hp => by rw [hc0] at hp; cases hp⟩
      · obtain ⟨j, hj1, rfl⟩ := List.mem_map.mp hm
        obtain ⟨p, hp, hpj⟩ := paired_mem hj j hj1
        refine q j ⟨.inr ⟨p, hp, hpj⟩, fun p' hp' j' hj' => ?_⟩
        obtain ⟨k, hk, hpk⟩ := paired_mem' hj p' hp'
        rw [← hpk.uniq hj']
        have := hle _ (List.mem_map.mpr ⟨k, hk, rfl⟩)
        omega
  obtain rfl | rfl := seq_cases hz <;> exact comp _ fin
end
end K30
set_option Elab.async false
set_option autoImplicit false
set_option linter.all false
set_option maxRecDepth 100000
set_option maxHeartbeats 3900000
namespace K30
open DL L2 PyProof.Rows PySem PySem.Spec
abbrev sr_0 (K : Fg) (C : Cs) : WS := (wPar 3 4 (wCons (wFld C.Machine "states" (wVar 1)) (wCons (wCB wLen (wCons (wVar 2) wNil)) wNil)))
abbrev sr_1 (K : Fg) (C : Cs) : WS := (wAsg 5 (wCallB 0 1 (sp_law_pick C) (wCons (wLst (wCons (wVar 3) (wCons (wOp wSub (wC (.int 0)) (wC (.int 1))) (wCons (wC .non) (wCons (wC (.bl true)) (wCons (wC (.str "0")) wNil)))))) wNil)))
abbrev sr_2 (K : Fg) (C : Cs) : WS := (wAsg 6 (wCallB 0 1 (sp_law_pick C) (wCons (wLst (wCons (wOp wAdd (wVar 4) (wC (.int 1))) (wCons (wOp wSub (wC (.int 0)) (wC (.int 1))) (wCons (wC .non) (wCons (wC (.bl true)) (wCons (wC (.str "0")) wNil)))))) wNil)))
abbrev sr_v : List (Addr × Spc) := []
abbrev srs (C : Cs) : List (Addr × Spc) := [(C.f_return_ages, (sp_return_ages C)), (C.f_tail_place, (sp_tail_place C))]
abbrev sr_3a (K : Fg) (C : Cs) : WS := (wIfS (wB (wOp (wEq true) (wLam (x_law_refused K C) 1 (wCallV 7 4 [(C.f_return_ages, (sp_return_ages C)), (C.f_tail_place, (sp_tail_place C))] (wCons (wVar 1) (wCons (wOp wAdd (wCB wLstOf (wCons (wVar 2) wNil)) (wLst (wCons (wFld C.Machine "deeds" (wVar 1)) wNil))) (wCons (wVar 5) (wCons (wVar 6) wNil)))))) (wTup (wCons (wC (.str "log")) (wCons (wVar 4) (wCons (wC (.bl true)) wNil)))))) (wRet (wC (.bl false))) wNext)
abbrev sr_3b (K : Fg) (C : Cs) : WS := (wIfS (wB (wOp (wEq true) (wLam (x_law_refused K C) 1 (wCallV 7 4 [(C.f_return_ages, (sp_return_ages C)), (C.f_tail_place, (sp_tail_place C))] (wCons (wVar 1) (wCons (wVar 2) (wCons (wVar 5) (wCons (wVar 6) wNil)))))) (wTup (wCons (wC (.str "state")) (wCons (wCB wRepr (wCons (wVar 5) wNil)) (wCons (wC (.bl true)) wNil)))))) (wRet (wC (.bl false))) wNext)
abbrev sr_3c (K : Fg) (C : Cs) : WS := (wIfS (wB (wOp (wEq true) (wLam (x_law_refused K C) 1 (wCallV 7 4 [(C.f_return_ages, (sp_return_ages C)), (C.f_tail_place, (sp_tail_place C))] (wCons (wVar 1) (wCons (wVar 2) (wCons (wC (.int 0)) (wCons (wVar 6) wNil)))))) (wTup (wCons (wC (.str "refused")) (wCons (wCB wRepr (wCons (wVar 6) wNil)) (wCons (wC (.bl true)) wNil)))))) (wRet (wC (.bl false))) wNext)
abbrev sr_3 (K : Fg) (C : Cs) : WS := (wFor (wiSeq (wTup (wCons (wC (.raw (.ref C.f_return_ages))) (wCons (wC (.raw (.ref C.f_tail_place))) wNil)))) (wgName 7) (wSeq (sr_3a K C) (wSeq (sr_3b K C) (sr_3c K C))))
abbrev sr_4 (K : Fg) (C : Cs) : WS := (wIfS (wB (wOp (wEq true) (wLam (x_law_refused K C) 1 (wCallA 3 0 (sp_needed_place C) (fun ds _ => ds) (wCons (wVar 1) (wCons (wC .non) (wCons (wC .non) wNil))) wNil)) (wTup (wCons (wC (.str "log")) (wCons (wOp wSub (wC (.int 0)) (wC (.int 1))) (wCons (wC (.bl true)) wNil)))))) (wRet (wC (.bl false))) wNext)
abbrev sr_5 (K : Fg) (C : Cs) : WS := (wAsg 8 (wCallB 0 1 (sp_law_pick C) (wCons (wLst (wCons (wC .non) (wCons (wC (.int 0)) (wCons (wLst (wCons (wC (.int 0)) wNil)) (wCons (wLst (wCons (wTup (wCons (wC (.int 0)) wNil)) wNil)) (wCons (wLst (wCons (wTup (wCons (wC (.int 0)) (wCons (wC (.int 0)) wNil))) (wCons (wTup (wCons (wVar 5) (wCons (wC (.int 0)) wNil))) wNil))) (wCons (wLst (wCons (wTup (wCons (wC (.int 0)) (wCons (wVar 6) wNil))) wNil)) (wCons (wLst (wCons (wTup (wCons (wC (.int 0)) (wCons (wC (.int 0)) (wCons (wC (.int 0)) wNil)))) wNil)) (wCons (wC (.str "00")) wNil))))))))) wNil)))
abbrev sr_6 (K : Fg) (C : Cs) : WS := (wRet (wOp (wEq false) (wLam (x_law_refused K C) 1 (wCallA 3 0 (sp_needed_place C) (fun ds _ => ds) (wCons (wVar 1) (wCons (wVar 2) (wCons (wVar 8) wNil))) wNil)) (wTup (wCons (wC (.str "copy")) (wCons (wCB wRepr (wCons (wVar 8) wNil)) (wCons (wC (.bl true)) wNil))))))
/-- what the classes are to each other -/
structure Fx (K : Fg) (C : Cs) : Prop where
  e11 : exmD K C.BadLog (.ref C.BadLog) = some true
  e21 : exmD K C.BadCopy (.ref C.BadLog) = some false
  e22 : exmD K C.BadCopy (.ref C.BadCopy) = some true
  e31 : exmD K C.Refused (.ref C.BadLog) = some false
  e32 : exmD K C.Refused (.ref C.BadCopy) = some false
  e33 : exmD K C.Refused (.ref C.Refused) = some true
  e41 : exmD K C.NoState (.ref C.BadLog) = some false
  e42 : exmD K C.NoState (.ref C.BadCopy) = some false
  e43 : exmD K C.NoState (.ref C.Refused) = some false
  e44 : exmD K C.NoState (.ref C.NoState) = some true
  k1 : PySem.W.kitOne K (.ref C.BadLog) (.ref C.AgeError) = some true
  k2 : PySem.W.kitOne K (.ref C.BadCopy) (.ref C.AgeError) = some true
  k3 : PySem.W.kitOne K (.ref C.Refused) (.ref C.AgeError) = some true
  k4 : PySem.W.kitOne K (.ref C.NoState) (.type "KeyError") = some true
  x1 : ExcC K C.BadLog
  x2 : ExcC K C.BadCopy
  x3 : ExcC K C.Refused
  x4 : ExcC K C.NoState
section
variable {K : Fg} {C : Cs}
structure CanR (d : D) (p : PyData) : Prop where
  py : pyOf d = some p
  sh : p.showable = true
  de : p.depth ≤ 64
  sz : p.shown.length ≤ sizeLine
  ok : PyData.canLay0 (.str p.shown) = true
theorem three : (3 : Nat) ≤ sizeLine := by decide
variable {wb : WE} {ρ : Rho} {χ : XC} {Φ : D → Rho → Prop} {d : D} {p : PyData}
theorem lam_log (X : Fx K C) (h : ∀ (Ψ : D → Prop) (Ξ : Addr → Str → D → Prop), Ξ C.BadLog "at" d → wb (hideR ρ) (fun C fl d _ => Ξ C fl d) fun d _ => Ψ d) (q : Φ (.tup [.str "log", d, .bl true]) ρ) : wLam (x_law_refused K C) 1 wb ρ χ Φ := by
  intro f
  refine ⟨rfl, h _ _ ?_⟩
  refine ⟨true, X.e11, fun _ a dd => ?_, fun z => nomatch z⟩
  exact ⟨rfl, rfl, rfl, rfl, rfl, rfl, C.BadLog, _, true, rfl, .own _, X.x1, X.k1, three, q⟩
theorem lam_copy (X : Fx K C) (c : CanR d p) (h : ∀ (Ψ : D → Prop) (Ξ : Addr → Str → D → Prop), Ξ C.BadCopy "at" d → wb (hideR ρ) (fun C fl d _ => Ξ C fl d) fun d _ => Ψ d) (q : Φ (.tup [.str "copy", .str p.shown, .bl true]) ρ) : wLam (x_law_refused K C) 1 wb ρ χ Φ := by
  intro f
  refine ⟨rfl, h _ _ ?_⟩
  refine ⟨false, X.e21, (fun z => nomatch z), fun _ => ⟨true, X.e22, fun _ a dd => ?_, fun z => nomatch z⟩⟩
  exact ⟨rfl, rfl, rfl, rfl, d, p, rfl, c.py, c.sh, c.de, c.sz, rfl, rfl, C.BadCopy, _, true, rfl, .own _, X.x2, X.k2, three, q⟩
theorem lam_refused (X : Fx K C) (c : CanR d p) (h : ∀ (Ψ : D → Prop) (Ξ : Addr → Str → D → Prop), Ξ C.Refused "at" d → wb (hideR ρ) (fun C fl d _ => Ξ C fl d) fun d _ => Ψ d) (q : Φ (.tup [.str "refused", .str p.shown, .bl true]) ρ) : wLam (x_law_refused K C) 1 wb ρ χ Φ := by
  intro f
  refine ⟨rfl, h _ _ ?_⟩
  refine ⟨false, X.e31, (fun z => nomatch z), fun _ => ⟨false, X.e32, (fun z => nomatch z), fun _ => ⟨true, X.e33, fun _ a dd => ?_, fun z => nomatch z⟩⟩⟩
  exact ⟨rfl, rfl, rfl, rfl, d, p, rfl, c.py, c.sh, c.de, c.sz, rfl, rfl, C.Refused, _, true, rfl, .own _, X.x3, X.k3, three, q⟩
theorem lam_state (X : Fx K C) (c : CanR d p) (h : ∀ (Ψ : D → Prop) (Ξ : Addr → Str → D → Prop), Ξ C.NoState "state" d → wb (hideR ρ) (fun C fl d _ => Ξ C fl d) fun d _ => Ψ d) (q : Φ (.tup [.str "state", .str p.shown, .bl true]) ρ) : wLam (x_law_refused K C) 1 wb ρ χ Φ := by
  intro f
  refine ⟨rfl, h _ _ ?_⟩
  refine ⟨false, X.e41, (fun z => nomatch z), fun _ => ⟨false, X.e42, (fun z => nomatch z), fun _ => ⟨false, X.e43, (fun z => nomatch z), fun _ => ⟨true, X.e44, fun _ a dd => ?_, fun z => nomatch z⟩⟩⟩⟩
  exact ⟨rfl, rfl, rfl, rfl, d, p, rfl, c.py, c.sh, c.de, c.sz, rfl, rfl, C.NoState, _, true, rfl, .ty _, X.x4, X.k4, three, q⟩
/-! what is no state, no age, no copy -/
def bads (m : Int) : List D := [.int m, .int (0 - 1), .non, .bl true, .str "0"]
def somes (b g : D) : List D := [.non, .int 0, .lst [.int 0], .lst [.tup [.int 0]], .lst [.tup [.int 0, .int 0], .tup [b, .int 0]], .lst [.tup [.int 0, g]], .lst [.tup [.int 0, .int 0, .int 0]], .str "00"]
def canB (d : D) : Bool := match pyOf d with
  | some p => p.showable && decide (p.depth ≤ 64) && decide (p.shown.length ≤ 100) && PyData.canLay0 (.str p.shown)
  | none => false
theorem can_of (h : canB d = true) : ∃ p, CanR d p := by
  unfold canB at h
  split at h
  · rename_i p hp
    simp only [Bool.and_eq_true, decide_eq_true_eq] at h
    exact ⟨p, hp, h.1.1.1, h.1.1.2, Nat.le_trans h.1.2 (by have := big; omega), h.2⟩
  · cases h
theorem can_bads : ∀ m : Nat, m < 14 → (bads m).all canB = true := by decide +kernel
theorem can_somes : ∀ m : Nat, m < 14 → (bads m).all (fun b => canB (.lst [.tup [.int 0, .int 0], .tup [b, .int 0]]) && canB (.lst [.tup [.int 0, b]])) = true := by decide +kernel
theorem can_rest : [D.non, .int 0, .lst [.int 0], .lst [.tup [.int 0]], .lst [.tup [.int 0, .int 0, .int 0]], .str "00"].all canB = true := by decide +kernel
theorem bad_no {m : Int} (h : d ∈ bads m) : plain d ∧ belowD d m = false ∧ seqD d = none := by
  simp only [bads, List.mem_cons, List.not_mem_nil, or_false] at h
  rcases h with rfl | rfl | rfl | rfl | rfl
  · refine ⟨rfl, ?_, rfl⟩
    show (decide (0 ≤ m) && decide (m < m)) = false
    rw [decide_eq_false (Int.lt_irrefl m), Bool.and_false]
  · exact ⟨rfl, rfl, rfl⟩
  · exact ⟨rfl, rfl, rfl⟩
  · exact ⟨rfl, rfl, rfl⟩
  · exact ⟨rfl, rfl, rfl⟩
theorem bad_can {m : Nat} (hm : m < 14) (h : d ∈ bads m) : ∃ p, CanR d p := can_of (List.all_eq_true.mp (can_bads m hm) d h)
theorem p2 {x : D} (h : plain x) (hs : seqD x = none) : plain2 x := ⟨h, fun xs z => by rw [hs] at z; cases z⟩
theorem p3 {x : D} (h : plain x) (hs : seqD x = none) : plain3 x := ⟨h, fun xs z => by rw [hs] at z; cases z⟩
theorem p2l {xs : List D} (h : ∀ y ∈ xs, plain y) : plain2 (.lst xs) ∧ plain2 (.tup xs) := ⟨⟨rfl, fun _ z => by cases z; exact h⟩, ⟨rfl, fun _ z => by cases z; exact h⟩⟩
theorem pI (i : Int) : plain (.int i) := rfl
theorem pl2 {a b : D} (ha : plain a) (hb : plain b) : ∀ y ∈ [a, b], plain y := fun y hy => (List.mem_cons.mp hy).elim (fun e => e ▸ ha) fun hy => (List.mem_singleton.mp hy) ▸ hb
theorem some_no {m n : Nat} {b g : D} (hm : m < 14) (hn : n < 14) (hb : b ∈ bads m) (hg : g ∈ bads n) (h : d ∈ somes b g) : plain3 d ∧ copsB m n d = false ∧ ∃ p, CanR d p := by
  obtain ⟨b1, b2, b3⟩ := bad_no hb
  obtain ⟨g1, g2, g3⟩ := bad_no hg
  have sb := Bool.and_eq_true_iff.mp (List.all_eq_true.mp (can_somes m hm) b hb)
  have sg := Bool.and_eq_true_iff.mp (List.all_eq_true.mp (can_somes n hn) g hg)
  have cr := List.all_eq_true.mp can_rest
  simp only [somes, List.mem_cons, List.not_mem_nil, or_false] at h
  have pi : ∀ i : Int, plain (.int i) := fun _ => rfl
  rcases h with rfl | rfl | rfl | rfl | rfl | rfl | rfl | rfl
  · exact ⟨p3 rfl rfl, rfl, can_of (cr _ (by simp))⟩
  · exact ⟨p3 rfl rfl, rfl, can_of (cr _ (by simp))⟩
  · exact ⟨⟨rfl, fun _ z => by cases z; intro y hy; rw [List.mem_singleton.mp hy]; exact p2 rfl rfl⟩, rfl, can_of (cr _ (by simp))⟩
  · exact ⟨⟨rfl, fun _ z => by cases z; intro y hy; rw [List.mem_singleton.mp hy]; exact (p2l fun y hy => by rw [List.mem_singleton.mp hy]; rfl).2⟩, rfl, can_of (cr _ (by simp))⟩
  · refine ⟨⟨rfl, fun _ z => by
      cases z
      intro y hy
      simp only [List.mem_cons, List.not_mem_nil, or_false] at hy
      rcases hy with rfl | rfl
      · exact (p2l (pl2 (pI 0) (pI 0))).2
      · exact (p2l (pl2 b1 (pI 0))).2⟩, ?_, can_of sb.1⟩
    show (copB m n _ && (copB m n (.tup [b, .int 0]) && true)) = false
    have : copB m n (.tup [b, .int 0]) = false := by
      show (belowD b m && _) = false
      rw [b2]; rfl
    rw [this, Bool.false_and, Bool.and_false]
  · refine ⟨⟨rfl, fun _ z => by
      cases z
      intro y hy
      rw [List.mem_singleton.mp hy]
      exact (p2l (pl2 (pI 0) g1)).2⟩, ?_, can_of sg.2⟩
    show (copB m n (.tup [.int 0, g]) && true) = false
    have : copB m n (.tup [.int 0, g]) = false := by
      show (_ && belowD g n) = false
      rw [g2, Bool.and_false]
    rw [this]; rfl
  · refine ⟨⟨rfl, fun _ z => by
      cases z
      intro y hy
      rw [List.mem_singleton.mp hy]
      exact (p2l fun y hy => by simp only [List.mem_cons, List.not_mem_nil, or_false] at hy; rcases hy with rfl | rfl | rfl <;> rfl).2⟩, rfl, can_of (cr _ (by simp))⟩
  · exact ⟨p3 rfl rfl, rfl, can_of (cr _ (by simp))⟩
end
end K30
set_option Elab.async false
set_option autoImplicit false
set_option linter.all false
set_option maxRecDepth 100000
set_option maxHeartbeats 3900000
namespace K30
open DL L2 PyProof.Rows PySem PySem.Spec
section
variable {K : Fg} {C : Cs}
theorem fault_at (m : Nat) (ns : List Nat) : ∀ i : Nat, (∀ n ∈ ns, n < m) → faultD (m : Int) (numsD ns ++ [.int (m : Nat)]) i = .int ((i + ns.length : Nat) : Int) := by
  induction ns with
  | nil =>
    intro i _
    show (if belowD (.int (m : Nat)) (m : Int) = true then _ else _) = _
    have e : belowD (.int (m : Nat)) (m : Int) = false := by
      show (decide (0 ≤ (m : Int)) && decide ((m : Int) < (m : Int))) = false
      rw [decide_eq_false (Int.lt_irrefl _), Bool.and_false]
    rw [e, if_neg Bool.false_ne_true]; rfl
  | cons n ns ih =>
    intro i h
    have e := below_nat (h n List.mem_cons_self)
    show (if belowD (.int (n : Nat)) (m : Int) = true then faultD (m : Int) (numsD ns ++ [.int (m : Nat)]) (i + 1) else _) = _
    rw [if_pos e, ih (i + 1) fun k hk => h k (List.mem_cons_of_mem _ hk)]
    congr 1
    simp only [List.length_cons]; omega
theorem nums_plain (ns : List Nat) : ∀ y ∈ numsD ns, plain y := fun y hy => by
  obtain ⟨n, -, rfl⟩ := List.mem_map.mp hy
  rfl
theorem row_plain (ns : List Nat) : plain2 (rowD ns) := (p2l (nums_plain ns)).2
/-- the two questions, asked with what is none -/
def Asks (C : Cs) (f : Addr) (sp : Spc) : Prop := (f, sp) ∈ srs C ∧ ∀ ds Ψ Ξ, (∀ G, gate C ds Ξ G) → sp none ds Ψ Ξ
abbrev sR (C : Cs) (l : Addr) (o : OD) (t : Tbl) (ns : List Nat) (b g : D) (s7 s8 : Sl) : Rho := [.own l o, .val (mach C t), .val (rowD ns), .val (.int (wd t : Nat)), .val (.int (ns.length : Nat)), .val b, .val g, s7, s8]
section
variable {l : Addr} {o : OD} {t : Tbl} {ns : List Nat} {b g : D} {s7 s8 : Sl} {f : Addr} {sp : Spc} {Δ : DE} {pb pg : PyData}
theorem log3 (n : Int) : SeqAt.shaped (.tuple [.str "log", .int n, .bool true]) = true := by
  simp [SeqAt.shaped, PyData.canLay0, PyData.canLayAll0, PyData.depth, PyData.depthAll]; decide +kernel
theorem sr_a (X : Fx K C) (A : Asks C f sp) (hg : Good t) (hlt : ∀ n ∈ ns, n < t.length) (h9 : ns.length ≤ 9) (b1 : plain b) (g1 : plain g) (q : Δ.nx (sR C l o t ns b g (.val (.raw (.ref f))) s8)) : sr_3a K C (sR C l o t ns b g (.val (.raw (.ref f))) s8) Δ := by
  dsimp only [sr_3a, wIfS, wB, wOp]
  refine lam_log (d := .int (ns.length : Nat)) X (fun Ψ Ξ hx => ?_) ?_
  · have hl : (ns.map fun n => D.int (n : Nat)).length + [D.int (t.length : Nat)].length ≤ sizeLine := by
      have := big
      simp only [List.length_map, List.length_cons, List.length_nil]; omega
    refine ⟨f, sp, A.1, rfl, rfl, _, look_deeds C t, (by show 1 ≤ sizeLine; decide), hl, rfl, A.2 _ _ _ fun G => ⟨t, .lst (numsD ns ++ [.int (t.length : Nat)]), b, g, hg, rfl, (p2l fun y hy => ?_).1, b1, g1, .inl ⟨(ns.length : Nat), ?_, hx⟩⟩⟩
    · rcases List.mem_append.mp hy with h | h
      · exact nums_plain ns y h
      · rw [List.mem_singleton.mp h]; rfl
    · show (if (numsD ns ++ [D.int (t.length : Nat)]).length ≤ 10000 then faultD (t.length : Nat) (numsD ns ++ [D.int (t.length : Nat)]) 0 else .int (-1)) = _
      rw [if_pos (by rw [List.length_append, nums_len]; simp only [List.length_cons, List.length_nil]; omega), fault_at t.length ns 0 hlt, Nat.zero_add]
  · exact ⟨three, eq_same (p := .tuple [.str "log", .int (ns.length : Nat), .bool true]) rfl (log3 _) q⟩
theorem sr_b (X : Fx K C) (A : Asks C f sp) (hg : Good t) (hlt : ∀ n ∈ ns, n < t.length) (h9 : ns.length ≤ 9) (hb : b ∈ bads (wd t : Nat)) (cb : CanR b pb) (g1 : plain g) (q : Δ.nx (sR C l o t ns b g (.val (.raw (.ref f))) s8)) : sr_3b K C (sR C l o t ns b g (.val (.raw (.ref f))) s8) Δ := by
  obtain ⟨b1, b2, b3⟩ := bad_no hb
  dsimp only [sr_3b, wIfS, wB, wOp]
  refine lam_state X cb (fun Ψ Ξ hx => ?_) ?_
  · exact ⟨f, sp, A.1, rfl, rfl, A.2 _ _ _ fun G => ⟨t, rowD ns, b, g, hg, rfl, row_plain ns, b1, g1, .inr ⟨ns, ⟨hlt, by omega⟩, rfl, .inl ⟨b2, hx⟩⟩⟩⟩
  · refine ⟨b, pb, rfl, cb.py, cb.sh, cb.de, cb.sz, three, eq_same (p := .tuple [.str "state", .str pb.shown, .bool true]) rfl ?_ q⟩
    have := cb.ok
    simp only [PyData.canLay0] at this
    simp [SeqAt.shaped, PyData.canLay0, PyData.canLayAll0, PyData.depth, PyData.depthAll, this]; decide +kernel
theorem sr_c (X : Fx K C) (A : Asks C f sp) (hg : Good t) (hlt : ∀ n ∈ ns, n < t.length) (h9 : ns.length ≤ 9) (hw : 0 < wd t) (hgg : g ∈ bads ((ns.length + 1 : Nat) : Int)) (cg : CanR g pg) (q : Δ.nx (sR C l o t ns b g (.val (.raw (.ref f))) s8)) : sr_3c K C (sR C l o t ns b g (.val (.raw (.ref f))) s8) Δ := by
  obtain ⟨b1, b2, b3⟩ := bad_no hgg
  dsimp only [sr_3c, wIfS, wB, wOp]
  refine lam_refused X cg (fun Ψ Ξ hx => ?_) ?_
  · exact ⟨f, sp, A.1, rfl, rfl, A.2 _ _ _ fun G => ⟨t, rowD ns, .int 0, g, hg, rfl, row_plain ns, rfl, b1, .inr ⟨ns, ⟨hlt, by omega⟩, rfl, .inr ⟨0, rfl, hw, .inl ⟨b2, hx⟩⟩⟩⟩⟩
  · refine ⟨g, pg, rfl, cg.py, cg.sh, cg.de, cg.sz, three, eq_same (p := .tuple [.str "refused", .str pg.shown, .bool true]) rfl ?_ q⟩
    have := cg.ok
    simp only [PyData.canLay0] at this
    simp [SeqAt.shaped, PyData.canLay0, PyData.canLayAll0, PyData.depth, PyData.depthAll, this]; decide +kernel
theorem sr_d (X : Fx K C) (hg : Good t) (q : Δ.nx (sR C l o t ns b g s7 s8)) : sr_4 K C (sR C l o t ns b g s7 s8) Δ := by
  dsimp only [sr_4, wIfS, wB, wOp]
  refine lam_log (d := .int (-1)) X (fun Ψ Ξ hx => ?_) ?_
  · exact ⟨rfl, rfl, rfl, t, .non, .non, hg, rfl, p2 rfl rfl, .inl ⟨-1, rfl, hx⟩⟩
  · exact ⟨three, eq_same (p := .tuple [.str "log", .int (-1), .bool true]) rfl (log3 _) q⟩
theorem sr_e (X : Fx K C) (hg : Good t) (hlt : ∀ n ∈ ns, n < t.length) (h9 : ns.length ≤ 9) {s : D} {ps : PyData} (hs : plain3 s) (hc : copsB (wd t : Nat) ((ns.length + 1 : Nat) : Int) s = false) (cs : CanR s ps) (q : Δ.rt (.bl true) (sR C l o t ns b g s7 (.val s))) : sr_6 K C (sR C l o t ns b g s7 (.val s)) Δ := by
  dsimp only [sr_6, wRet, wOp]
  refine lam_copy X cs (fun Ψ Ξ hx => ?_) ?_
  · exact ⟨rfl, rfl, rfl, t, rowD ns, s, hg, rfl, row_plain ns, .inr ⟨ns, ⟨hlt, by omega⟩, rfl, hs, .inl ⟨hc, hx⟩⟩⟩
  · refine ⟨s, ps, rfl, cs.py, cs.sh, cs.de, cs.sz, three, eq_same (p := .tuple [.str "copy", .str ps.shown, .bool true]) rfl ?_ q⟩
    have := cs.ok
    simp only [PyData.canLay0] at this
    simp [SeqAt.shaped, PyData.canLay0, PyData.canLayAll0, PyData.depth, PyData.depthAll, this]; decide +kernel
end
theorem asks_ra : Asks C C.f_return_ages (sp_return_ages C) := ⟨List.mem_cons_self, fun ds Ψ Ξ h => ⟨rfl, h _⟩⟩
theorem asks_tp : Asks C C.f_tail_place (sp_tail_place C) := ⟨List.mem_cons_of_mem _ List.mem_cons_self, fun ds Ψ Ξ h => ⟨rfl, h _⟩⟩
theorem wd_pos {t : Tbl} (g : Good t) : 1 ≤ wd t ∧ wd t ≤ 12 := by
  obtain ⟨r, hr⟩ := List.exists_mem_of_ne_nil t g.ne
  obtain ⟨h1, h2, h3, -⟩ := g.row r hr
  unfold wd
  rw [← h3]; exact ⟨h1, h2⟩
theorem m_law_strangers_right (X : Fx K C) : Sem0 3 9 (sp_law_strangers_right C) (x_law_strangers_right K C) := by
  rintro hl ds Ψ Ξ - ⟨o, t, ns, h, ho, g, hlt, h9, rfl, q⟩
  obtain ⟨w1, w2⟩ := wd_pos g
  match hl, h with
  | some (l, o'), h =>
    cases (Option.some.inj h : o' = o)
    refine ⟨rfl, .int (wd t : Nat), look_st C t, ?_⟩
    have L : (numsD ns).length = ns.length := nums_len ns
    have st : ∀ (Δ : DE), (wSeq (sr_1 K C) (wSeq (sr_2 K C) (wSeq (sr_3 K C) (wSeq (sr_4 K C) (wSeq (sr_5 K C) (sr_6 K C)))))) [.own l o, .val (mach C t), .val (rowD ns), .val (.int (wd t : Nat)), .val (.int (ns.length : Nat)), .un, .un, .un, .un] (dEnds (some (l, o)) Ψ Ξ) := by
      intro _
      refine ⟨⟨l, o, rfl⟩, (by show 5 ≤ sizeLine; decide), rfl, o, bads (wd t : Nat), rfl, ho, rfl, List.cons_ne_nil _ _, (by show 5 < 1000000; decide), fun b o1 hb ho1 => ⟨o1, rfl, ?_⟩⟩
      refine ⟨⟨l, o1, rfl⟩, (by show 5 ≤ sizeLine; decide), rfl, o1, bads ((ns.length : Int) + 1), rfl, ho1, rfl, List.cons_ne_nil _ _, (by show 5 < 1000000; decide), fun a o2 ha ho2 => ⟨o2, rfl, ?_⟩⟩
      have ha : a ∈ bads ((ns.length + 1 : Nat) : Int) := ha
      obtain ⟨pb, cb⟩ := bad_can (m := wd t) (by omega) hb
      obtain ⟨pa, ca⟩ := bad_can (m := ns.length + 1) (by omega) ha
      have body : ∀ (f : Addr) (sp : Spc) (Δ : DE), Asks C f sp → Δ.nx (sR C l o2 t ns b a (.val (.raw (.ref f))) .un) → wSeq (sr_3a K C) (wSeq (sr_3b K C) (sr_3c K C)) (sR C l o2 t ns b a (.val (.raw (.ref f))) .un) Δ := fun f sp Δ A z =>
        sr_a (Δ := { Δ with nx := fun ρ => wSeq (sr_3b K C) (sr_3c K C) ρ Δ }) X A g hlt h9 (bad_no hb).1 (bad_no ha).1 (sr_b (Δ := { Δ with nx := fun ρ => sr_3c K C ρ Δ }) X A g hlt h9 hb cb (bad_no ha).1 (sr_c X A g hlt h9 w1 ha ca z))
      refine ⟨(by show 2 ≤ sizeLine; decide), body _ _ _ asks_ra (body _ _ _ asks_tp ?_)⟩
      refine sr_d (Δ := { dEnds (some (l, o)) Ψ Ξ with nx := fun ρ => wSeq (sr_5 K C) (sr_6 K C) ρ (dEnds (some (l, o)) Ψ Ξ) }) X g ?_
      refine ⟨⟨l, o2, rfl⟩, (by show 1 ≤ sizeLine; decide), (by show 1 ≤ sizeLine; decide), (by show 1 ≤ sizeLine; decide), (by show 2 ≤ sizeLine; decide), (by show 2 ≤ sizeLine; decide), (by show 2 ≤ sizeLine; decide), (by show 2 ≤ sizeLine; decide), (by show 1 ≤ sizeLine; decide), (by show 3 ≤ sizeLine; decide), (by show 1 ≤ sizeLine; decide), (by show 8 ≤ sizeLine; decide), rfl, o2, somes b a, rfl, ho2, rfl, List.cons_ne_nil _ _, (by show 8 < 1000000; decide), fun s o3 hs ho3 => ⟨o3, rfl, ?_⟩⟩
      obtain ⟨h3, hc, ps, cs⟩ := some_no (m := wd t) (n := ns.length + 1) (by omega) (by omega) hb ha hs
      exact sr_e X g hlt h9 h3 hc cs ⟨o3, rfl, q o3 ho3⟩
    rw [← L] at st
    exact st (dEnds none Ψ Ξ)
end
end K30
set_option Elab.async false
set_option autoImplicit false
set_option linter.all false
set_option maxRecDepth 100000
set_option maxHeartbeats 3900000
namespace K30
open DL L2 PyProof.Rows PySem PySem.Spec
section
variable {K : Fg} {C : Cs}
def dig (n : Nat) : Str := ((toString (n : Int) : String) : Str)
theorem dig_len : ∀ n, n < 100 → 1 ≤ (dig n).length ∧ (dig n).length ≤ 2 := by decide +kernel
theorem sum_le : ∀ (ws : List Str) (m : Nat), (∀ w ∈ ws, w.length ≤ m) → (ws.map (·.length)).sum ≤ ws.length * m
  | [], _, _ => by simp
  | w :: ws, m, h => by
    have h1 := h w List.mem_cons_self
    have h2 := sum_le ws m fun v hv => h v (List.mem_cons_of_mem _ hv)
    (simp only [List.map_cons, List.sum_cons, List.length_cons, Nat.add_mul, Nat.one_mul])
    omega
theorem join_len (sep : Str) (ws : List Str) (m : Nat) (h : ∀ w ∈ ws, w.length ≤ m) : (Txt.join sep ws).length ≤ ws.length * (m + sep.length) := by
  have e : (Txt.join sep ws).length = (ws.map (·.length)).sum + (ws.length - 1) * sep.length := PySem.size_glued sep ws
  have h1 := sum_le ws m h
  have h2 : (ws.length - 1) * sep.length ≤ ws.length * sep.length := Nat.mul_le_mul_right _ (Nat.sub_le _ _)
  rw [e, Nat.mul_add]
  omega
theorem mem_joinL {y : List Nat} {c : Nat} : ∀ {ws : List (List Nat)}, c ∈ TL.joinL y ws → c ∈ y ∨ ∃ w ∈ ws, c ∈ w
  | [], h => nomatch h
  | [w], h => .inr ⟨w, by simp, h⟩
  | w :: v :: r, h => by
    have h : c ∈ w ++ (y ++ TL.joinL y (v :: r)) := h
    (rcases List.mem_append.mp h with h | h)
    · exact .inr ⟨w, by simp, h⟩
    · (rcases List.mem_append.mp h with h | h)
      · exact .inl h
      · rcases mem_joinL h with h | ⟨u, hu, hc⟩
        · exact .inl h
        · exact .inr ⟨u, List.mem_cons_of_mem _ hu, hc⟩
theorem tl_jn (y : Str) : ∀ ws : List Str, TL.tl (Txt.join y ws) = TL.joinL (TL.tl y) (ws.map TL.tl) := fun ws => by rw [TL.join_eq]; exact TL.tl_join y ws
theorem mem_jn {y : Str} {ws : List Str} {c : Nat} (h : c ∈ TL.tl (Txt.join y ws)) : c ∈ TL.tl y ∨ ∃ w ∈ ws, c ∈ TL.tl w := by
  rw [tl_jn] at h
  rcases mem_joinL h with h | ⟨w, hw, hc⟩
  · exact .inl h
  · obtain ⟨v, hv, rfl⟩ := List.mem_map.mp hw
    exact .inr ⟨v, hv, hc⟩
theorem dig_asc : ∀ n, n < 100 → ∀ c ∈ TL.tl (dig n), c < 128 := by decide +kernel
theorem app_len (a b : Str) : (a ++ b).length = a.length + b.length := Array.size_append
theorem shown_all : ∀ ns : List Nat, PyData.shownAll (ns.map fun n => PyData.int (n : Nat)) = ns.map dig
  | [] => rfl
  | n :: ns => by
    show PyData.shown (.int (n : Nat)) :: PyData.shownAll (ns.map fun n => PyData.int (n : Nat)) = dig n :: ns.map dig
    rw [shown_all ns]
    rfl
abbrev rowP (ns : List Nat) : PyData := .tuple (ns.map fun n => .int (n : Nat))
def rowS (ns : List Nat) : Str := tupleText (ns.map dig)
theorem row_shown (ns : List Nat) : (rowP ns).shown = rowS ns := by
  show tupleText (PyData.shownAll (ns.map fun n => PyData.int (n : Nat))) = _
  rw [shown_all]
  rfl
def okS (s : Str) : Prop := s.length ≤ 1000000 ∧ ∀ c ∈ s.cps, c < 1114112
theorem okS_ln {s : Str} (h : ∀ c ∈ TL.tl s, c < 128) (hl : s.length ≤ 1000000) : okS s := ⟨hl, fun c hc => by have := h c (by simpa [TL.tl] using hc); omega⟩
theorem rowS_ok {ns : List Nat} (h : ∀ n ∈ ns, n < 100) (hl : ns.length ≤ 1000) : okS (rowS ns) := by
  have a := join_len ", " (ns.map dig) 2 fun w hw => by
    obtain ⟨n, hn, rfl⟩ := List.mem_map.mp hw
    exact (dig_len n (h n hn)).2
  have l2 : (", " : Str).length = 2 := by decide
  have l1 : ("(" : Str).length = 1 := by decide
  rw [l2, List.length_map] at a
  have hA : ∀ c ∈ TL.tl (Txt.join ", " (ns.map dig)), c < 128 := fun c hc => (mem_jn hc).elim ((by decide +kernel : ∀ c ∈ TL.tl (", " : Str), c < 128) c) fun ⟨w, hw, hc⟩ => by
    obtain ⟨n, hn, rfl⟩ := List.mem_map.mp hw
    exact dig_asc n (h n hn) c hc
  have e : rowS ns = ("(" : Str) ++ Txt.join ", " (ns.map dig) ++ (if (ns.map dig).length == 1 then ",)" else ")" : String) := by
    rw [TL.join_eq]; rfl
  have tail : ∀ b : Bool, (((if b then ",)" else ")" : String) : Str)).length ≤ 2 ∧ ∀ c ∈ TL.tl ((if b then ",)" else ")" : String) : Str), c < 128 := by decide +kernel
  have tb := tail ((ns.map dig).length == 1)
  refine okS_ln (fun c hc => ?_) ?_
  · rw [e, TL.tl_append, TL.tl_append] at hc
    (rcases List.mem_append.mp hc with hc | hc)
    · rcases List.mem_append.mp hc with hc | hc
      · exact (by decide +kernel : ∀ c ∈ TL.tl ("(" : Str), c < 128) c hc
      · exact hA c hc
    · exact tb.2 c hc
  · rw [e, app_len, app_len, l1]
    have := tb.1
    omega
theorem row_can (ns : List Nat) (h : ∀ n ∈ ns, n < 100) : (rowP ns).showable = true ∧ (rowP ns).depth ≤ 64 := by
  have a : ∀ ns : List Nat, (∀ n ∈ ns, n < 100) → PyData.showableAll (ns.map fun n => PyData.int (n : Nat)) = true := fun ns => by induction ns with
    | nil => intro _; rfl
    | cons n ns ih =>
      intro h
      have hn := h n List.mem_cons_self
      have : (n : Int).natAbs.log2 < 1920 := by
        have e : (n : Int).natAbs = n := rfl
        rw [e]
        have : n.log2 ≤ n := Nat.log2_le_self n
        omega
      simp only [List.map_cons, PyData.showableAll, PyData.showable, ih fun k hk => h k (List.mem_cons_of_mem _ hk), decide_eq_true this, Bool.and_self]
  have b := (shaped_row ns).2
  refine ⟨?_, by have : (rowP ns).depth ≤ 1 := b; omega⟩
  show PyData.showableAll _ = true
  exact a ns h
theorem cut_drop (xs : List D) (a : Nat) (h : a ≤ xs.length) : DL.cutD xs (some (a : Int)) none = xs.drop a := by
  have h2 : HT.sIx xs.length xs.length none = xs.length := by simp [HT.sIx]
  have h1 : HT.sIx xs.length 0 (some (a : Int)) = a := by rw [HT.sIx_nat]; omega
  unfold DL.cutD
  rw [h1, h2, List.take_of_length_le (by rw [List.length_drop]; omega)]
theorem can_row {ns : List Nat} (h : ∀ n ∈ ns, n < 100) (hl : ns.length ≤ 1000) : CanR (rowD ns) (rowP ns) := by
  have hb := big
  obtain ⟨o1, o2⟩ := rowS_ok h hl
  refine ⟨py_row ns, (row_can ns h).1, (row_can ns h).2, by rw [row_shown]; omega, ?_⟩
  rw [row_shown]
  show PyData.strOk (rowS ns) = true
  unfold PyData.strOk
  rw [Array.all_eq_true']
  exact fun c hc => decide_eq_true (o2 c hc)
theorem can_ints : ∀ n : Nat, n < 14 → canB (.int (n : Nat)) = true := by decide +kernel
theorem can_int {n : Nat} (h : n < 14) : ∃ p, CanR (.int (n : Nat)) p := can_of (can_ints n h)
theorem repr2 {d : D} {p : PyData} (c : CanR d p) {Φ : D → Prop} (q : Φ (.bl false)) : wEq true (.str p.shown) (.str p.shown) Φ := by
  refine eq_same (p := .str p.shown) rfl ?_ q
  have := c.ok
  simp [SeqAt.shaped, this, PyData.depth]
theorem cut_mid (xs : List D) (a b : Nat) (h : a ≤ b) (hb : b ≤ xs.length) : DL.cutD xs (some (a : Int)) (some (b : Int)) = (xs.take b).drop a := by
  have h2 : HT.sIx xs.length xs.length (some (b : Int)) = b := by rw [HT.sIx_nat]; omega
  have h1 : HT.sIx xs.length 0 (some (a : Int)) = a := by rw [HT.sIx_nat]; omega
  unfold DL.cutD
  rw [h1, h2, List.drop_take]
theorem cut_n (ns : List Nat) (a b : Nat) (h : a ≤ b) (hb : b ≤ ns.length) : DL.cutD (numsD ns) (some (a : Int)) (some (b : Int)) = numsD ((ns.take b).drop a) := by
  rw [cut_mid _ a b h (by rw [nums_len]; exact hb)]
  unfold numsD
  rw [List.map_drop, List.map_take]
theorem cut_d (ns : List Nat) (a : Nat) (h : a ≤ ns.length) : DL.cutD (numsD ns) (some (a : Int)) none = numsD (ns.drop a) := by
  rw [cut_drop _ a (by rw [nums_len]; exact h)]
  unfold numsD
  rw [List.map_drop]
/-- a comprehension that keeps some numbers -/
theorem lc_filt {i : Nat} {wt : WT} {ρ0 : Rho} {P : Nat → Bool} {Φ : List D → Rho → Prop} (hi : ∀ x, (ρ0.set i x)[i]? = some x) (h0 : ∀ x, (ρ0.set i x).set i .un = ρ0) : ∀ (vs acc : List Nat), acc.length + vs.length ≤ sizeLine →
    (∀ v ∈ vs, ∀ Ψ : Bool → Rho → Prop, Ψ (P v) (ρ0.set i (.val (.int (v : Nat)))) → wt (ρ0.set i (.val (.int (v : Nat)))) χ0 Ψ) → Φ (numsD (acc ++ vs.filter P)) ρ0 → wLcL (wgName i) wt (wVar i) [i] (numsD vs) (numsD acc) ρ0 Φ
  | [], acc, _, _, hΦ => by
    rw [List.filter_nil, List.append_nil] at hΦ
    exact hΦ
  | v :: vs, acc, hl, hs, hΦ => by
    have hl' : acc.length + (vs.length + 1) ≤ sizeLine := hl
    refine hs v List.mem_cons_self _ ?_
    show if P v = true then (wVar i) _ _ _ else _
    cases hp : P v with
    | false =>
      rw [if_neg Bool.false_ne_true]
      have e : (v :: vs).filter P = vs.filter P := by rw [List.filter_cons, hp]; rfl
      rw [e] at hΦ
      have := lc_filt hi h0 vs acc (by omega) (fun w hw => hs w (List.mem_cons_of_mem _ hw)) hΦ
      show wLcL _ _ _ _ _ _ ((ρ0.set i _).set i .un) _
      rw [h0]
      exact this
    | true =>
      rw [if_pos rfl]
      have e : (v :: vs).filter P = v :: vs.filter P := by rw [List.filter_cons, hp]; rfl
      rw [e] at hΦ
      have := lc_filt hi h0 vs (acc ++ [v]) (by simp only [List.length_append, List.length_cons, List.length_nil]; omega) (fun w hw => hs w (List.mem_cons_of_mem _ hw)) (by rw [List.append_assoc]; exact hΦ)
      unfold wVar
      rw [hi]
      refine ⟨by rw [nums_len]; omega, ?_⟩
      show wLcL _ _ _ _ _ _ ((ρ0.set i _).set i .un) _
      rw [h0]
      have e2 : numsD acc ++ [D.int (v : Nat)] = numsD (acc ++ [v]) := by unfold numsD; rw [List.map_append]; rfl
      rw [e2]
      exact this
end
end K30
set_option Elab.async false
set_option autoImplicit false
set_option linter.all false
set_option maxRecDepth 100000
set_option maxHeartbeats 3900000
namespace K30
open DL L2 PyProof.Rows PySem PySem.Spec
abbrev la_0 (K : Fg) (C : Cs) : WS := (wAsgO 2 (woCall 2 (so_law_box C) (wCons (wVar 0) (wCons (wVar 1) wNil))))
abbrev la_1 (K : Fg) (C : Cs) : WS := (wAsg 3 (wCallB 2 0 (sp_law_tables C) wNil))
abbrev la_2 (K : Fg) (C : Cs) : WS := (wPar 4 5 (wCons (wMake C.Machine 1 0 (sp_Machine_init C) (fun ds _ => ds) (wCons (wVar 3) wNil) wNil) (wCons (wCB wLen (wCons (wOp wIx (wVar 3) (wC (.int 0))) wNil)) wNil)))
abbrev la_3 (K : Fg) (C : Cs) : WS := (wAsg 6 (wCB wTupOf (wCons (wLc (wiRg1 (wCons (wCallB 2 1 (sp_law_take C) (wCons (wC (.int 10)) wNil)) wNil)) (wgName 9) wTrue (wCallB 2 1 (sp_law_take C) (wCons (wCB wLen (wCons (wVar 3) wNil)) wNil)) [9]) wNil)))
abbrev la_4 (K : Fg) (C : Cs) : WS := (wPar 7 8 (wCons (wLst wNil) (wCons (wLst wNil) wNil)))
abbrev li_0 (K : Fg) (C : Cs) : WS := (wAsgG (wgTup 2 (wgCons (wgName 10) (wgCons (wgName 11) wgNil))) (wTup (wCons (wCallB 2 1 (sp_law_take C) (wCons (wVar 5) wNil)) (wCons (wCallB 2 1 (sp_law_take C) (wCons (wOp wAdd (wCB wLen (wCons (wVar 6) wNil)) (wC (.int 1))) wNil)) wNil))))
abbrev li_1 (K : Fg) (C : Cs) : WS := (wAsg 12 (wCB wTupOf (wCons (wLc (wiRg2 (wCons (wVar 11) (wCons (wOp wAdd (wCB wLen (wCons (wVar 6) wNil)) (wC (.int 1))) wNil))) (wgName 17) (wB (wOp (wEq false) (wCallA 3 0 (sp_law_led C) (fun ds _ => ds) (wCons (wVar 3) (wCons (wVar 10) (wCons (wSl (wVar 6) (woSome (wVar 11)) (woSome (wVar 17))) wNil))) wNil) (wVar 10))) (wVar 17) [17]) wNil)))
abbrev li_2 (K : Fg) (C : Cs) : WS := (wAsg 13 (wCallA 3 0 (sp_law_led C) (fun ds _ => ds) (wCons (wVar 3) (wCons (wVar 10) (wCons (wSl (wVar 6) (woSome (wVar 11)) woNone) wNil))) wNil))
abbrev li_3 (K : Fg) (C : Cs) : WS := (wAsg 14 (wCB wMaxL (wCons (wLc (wiRg1 (wCons (wOp wAdd (wCB wLen (wCons (wVar 6) wNil)) (wC (.int 1))) wNil)) (wgName 18) (wB (wOp (wEq false) (wCallA 3 0 (sp_law_led C) (fun ds _ => ds) (wCons (wVar 3) (wCons (wVar 10) (wCons (wSl (wVar 6) (woSome (wVar 18)) woNone) wNil))) wNil) (wVar 13))) (wVar 18) [18]) wNil)))
abbrev li_4 (K : Fg) (C : Cs) : WS := (wIfS (wB (wOp (wEq true) (wCB wRepr (wCons (wCallA 4 0 (sp_return_ages C) (fun ds _ => ds) (wCons (wVar 4) (wCons (wCB wLstOf (wCons (wVar 6) wNil)) (wCons (wVar 10) (wCons (wVar 11) wNil)))) wNil) wNil)) (wCB wRepr (wCons (wVar 12) wNil)))) (wRet (wC (.bl false))) wNext)
abbrev li_5 (K : Fg) (C : Cs) : WS := (wIfS (wB (wOp (wEq true) (wCB wRepr (wCons (wCallA 0 4 (sp_return_ages C) pm_3210 wNil (wCons (wVar 11) (wCons (wVar 10) (wCons (wVar 6) (wCons (wVar 4) wNil))))) wNil)) (wCB wRepr (wCons (wVar 12) wNil)))) (wRet (wC (.bl false))) wNext)
abbrev li_6 (K : Fg) (C : Cs) : WS := (wIfS (wOr (wB (wOp (wEq true) (wCB wRepr (wCons (wCallA 4 0 (sp_tail_place C) (fun ds _ => ds) (wCons (wVar 4) (wCons (wVar 6) (wCons (wVar 10) (wCons (wVar 11) wNil)))) wNil) wNil)) (wCB wRepr (wCons (wVar 14) wNil)))) (wB (wOp wLt (wVar 14) (wOp wIx (wVar 12) (wOp wSub (wCB wLen (wCons (wVar 12) wNil)) (wC (.int 1))))))) (wRet (wC (.bl false))) wNext)
abbrev li_7 (K : Fg) (C : Cs) : WS := (wIfS (wB (wOp (wEq true) (wCallA 0 4 (sp_tail_place C) pm_3210 wNil (wCons (wVar 11) (wCons (wVar 10) (wCons (wCB wLstOf (wCons (wVar 6) wNil)) (wCons (wVar 4) wNil))))) (wVar 14))) (wRet (wC (.bl false))) wNext)
abbrev li_8 (K : Fg) (C : Cs) : WS := (wAsg 15 (wCB wTupOf (wCons (wLc (wiRg1 (wCons (wCallB 2 1 (sp_law_take C) (wCons (wC (.int 6)) wNil)) wNil)) (wgName 19) wTrue (wCallB 2 1 (sp_law_take C) (wCons (wCB wLen (wCons (wVar 3) wNil)) wNil)) [19]) wNil)))
abbrev li_9 (K : Fg) (C : Cs) : WS := (wIfS (wB (wOp (wEq true) (wCallA 3 0 (sp_law_led C) (fun ds _ => ds) (wCons (wVar 3) (wCons (wVar 10) (wCons (wOp wAdd (wSl (wVar 6) (woSome (wVar 14)) woNone) (wVar 15)) wNil))) wNil) (wCallA 3 0 (sp_law_led C) (fun ds _ => ds) (wCons (wVar 3) (wCons (wVar 10) (wCons (wOp wAdd (wSl (wVar 6) (woSome (wVar 11)) woNone) (wVar 15)) wNil))) wNil))) (wRet (wC (.bl false))) wNext)
abbrev li_10 (K : Fg) (C : Cs) : WS := (wPar 7 8 (wCons (wOp wAdd (wVar 7) (wLst (wCons (wVar 14) wNil))) (wCons (wOp wAdd (wVar 8) (wLst (wCons (wTup (wCons (wVar 10) (wCons (wVar 11) wNil))) wNil))) wNil)))
abbrev li (K : Fg) (C : Cs) : WS := (wSeq (li_0 K C) (wSeq (li_1 K C) (wSeq (li_2 K C) (wSeq (li_3 K C) (wSeq (li_4 K C) (wSeq (li_5 K C) (wSeq (li_6 K C) (wSeq (li_7 K C) (wSeq (li_8 K C) (wSeq (li_9 K C) (li_10 K C)))))))))))
abbrev la_5 (K : Fg) (C : Cs) : WS := (wFor (wiRg1 (wCons (wCallB 2 1 (sp_law_take C) (wCons (wC (.int 5)) wNil)) wNil)) (wgName 9) (li K C))
abbrev la_6 (K : Fg) (C : Cs) : WS := (wIfS (wB (wOp (wEq true) (wCB wRepr (wCons (wCallA 3 0 (sp_needed_place C) (fun ds _ => ds) (wCons (wVar 4) (wCons (wVar 6) (wCons (wVar 8) wNil))) wNil) wNil)) (wCB wRepr (wCons (wCB wMinL (wCons (wOp wAdd (wVar 7) (wLst (wCons (wCB wLen (wCons (wVar 6) wNil)) wNil))) wNil)) wNil)))) (wRet (wC (.bl false))) wNext)
abbrev la_7 (K : Fg) (C : Cs) : WS := (wAsg 16 (wCB wTupOf (wCons (wLc (wiSeq (wVar 8)) (wgName 20) wTrue (wCB wLstOf (wCons (wVar 20) wNil)) [20]) wNil)))
abbrev la_8 (K : Fg) (C : Cs) : WS := (wIfS (wB (wOp (wEq true) (wCallA 0 3 (sp_needed_place C) pm_210 wNil (wCons (wVar 16) (wCons (wCB wLstOf (wCons (wVar 6) wNil)) (wCons (wVar 4) wNil)))) (wCB wMinL (wCons (wOp wAdd (wVar 7) (wLst (wCons (wCB wLen (wCons (wVar 6) wNil)) wNil))) wNil)))) (wRet (wC (.bl false))) wNext)
abbrev la_9 (K : Fg) (C : Cs) : WS := (wIfS (wNot (wB (wCallB 2 2 (sp_law_strangers_right C) (wCons (wVar 4) (wCons (wVar 6) wNil))))) (wRet (wC (.bl false))) wNext)
section
variable {K : Fg} {C : Cs} {Δ : DE} {sc : List Int} {k : Int} {l : Addr} {o : OD} {t : Tbl} {ns : List Nat} {cs : List (Nat × Nat)} {js : List Nat}
variable {s0 s1 s2 s3 s4 s5 s6 s7 s8 s9 s10 s11 s12 s13 s14 s15 s16 s17 s18 s19 s20 : Sl}
def copT (p : Nat × Nat) : D := .tup [.int (p.1 : Nat), .int (p.2 : Nat)]
def copL (p : Nat × Nat) : D := .lst [.int (p.1 : Nat), .int (p.2 : Nat)]
/-- inside the inner walk -/
abbrev iR (C : Cs) (sc : List Int) (k : Int) (l : Addr) (o : OD) (t : Tbl) (ns : List Nat) (cs : List (Nat × Nat)) (js : List Nat) (s9 s10 s11 s12 s13 s14 s15 s16 s17 s18 s19 s20 : Sl) : Rho :=
  [.val (.scr sc), .val (.int k), .own l o, .val (tbsD t), .val (mach C t), .val (.int (wd t : Nat)), .val (rowD ns), .val (.lst (numsD js)), .val (.lst (cs.map copT)), s9, s10, s11, s12, s13, s14, s15, s16, s17, s18, s19, s20]
theorem i_0 (g : Good t) (ho : GoodB o) (hl : ns.length ≤ 9) (q : ∀ (s u : Nat) o', s < wd t → u ≤ ns.length → GoodB o' → Δ.nx (iR C sc k l o' t ns cs js s9 (.val (.int (s : Nat))) (.val (.int (u : Nat))) s12 s13 s14 s15 s16 s17 s18 s19 s20)) :
    li_0 K C (iR C sc k l o t ns cs js s9 s10 s11 s12 s13 s14 s15 s16 s17 s18 s19 s20) Δ := by
  obtain ⟨w1, w2⟩ := wd_pos g
  refine ⟨⟨l, o, rfl⟩, rfl, o, (wd t : Nat), rfl, ho, rfl, by omega, by omega, fun d o1 d0 d1 h1 => ⟨o1, rfl, ?_⟩⟩
  obtain ⟨s, hs, hs2⟩ := nat_of d0 d1
  have L : (numsD ns).length = ns.length := nums_len ns
  refine ⟨⟨l, o1, rfl⟩, rfl, o1, (((numsD ns).length : Nat) : Int) + 1, rfl, h1, rfl, by omega, by rw [L]; omega, fun e o2 e0 e1 h2 => ⟨o2, rfl, ?_⟩⟩
  rw [L] at e1
  obtain ⟨u, hu, hu2⟩ := nat_of (m := (ns.length : Int) + 1) e0 e1
  refine ⟨(by show 2 ≤ sizeLine; decide), rfl, ?_⟩
  rw [hs, hu]
  refine (⟨rfl, ?_⟩ : _ = _ ∧ _)
  exact q s u o2 (by omega) (by omega) h2
abbrev LogOf (t : Tbl) (ns : List Nat) : Prop := (∀ n ∈ ns, n < t.length) ∧ ns.length ≤ 9
theorem sub_lt {t : Tbl} {ns ms : List Nat} (h : ∀ n ∈ ns, n < t.length) (hs : ∀ n ∈ ms, n ∈ ns) : ∀ n ∈ ms, n < t.length := fun n hn => h n (hs n hn)
abbrev jR (C : Cs) (sc : List Int) (k : Int) (l : Addr) (o : OD) (t : Tbl) (ns : List Nat) (cs : List (Nat × Nat)) (js : List Nat) (s9 : Sl) (s u : Nat) (s12 s13 s14 s15 s16 s17 s18 s19 s20 : Sl) : Rho := iR C sc k l o t ns cs js s9 (.val (.int (s : Nat))) (.val (.int (u : Nat))) s12 s13 s14 s15 s16 s17 s18 s19 s20
variable {s u : Nat}
theorem rg_from (u n : Nat) : rgD (u : Int) n = numsD ((List.range n).map (u + ·)) := by
  unfold rgD numsD
  rw [List.map_map]
  refine List.map_congr_left fun i _ => ?_
  show D.int ((u : Int) + (i : Nat)) = .int ((u + i : Nat) : Int)
  congr 1
theorem eqF_bool {a b : Int} {Ψ : Bool → Rho → Prop} {ρ : Rho} (q : Ψ (decide (a = b)) ρ) : wEq false (.int a) (.int b) fun z => match z with
  | .bl b => Ψ b ρ
  | _ => False := eqF_ints q
theorem i_1 (g : Good t) (hlog : LogOf t ns) (hs : s < wd t) (hu : u ≤ ns.length) (q : Δ.nx (jR C sc k l o t ns cs js s9 s u (.val (rowD (backL t ns s u))) s13 s14 s15 s16 .un s18 s19 s20)) :
    li_1 K C (jR C sc k l o t ns cs js s9 s u s12 s13 s14 s15 s16 .un s18 s19 s20) Δ := by
  have hb := big
  have L : (numsD ns).length = ns.length := nums_len ns
  have h9 := hlog.2
  show (-(2 ^ 62) ≤ (u : Int) ∧ (u : Int) < 2 ^ 62 ∧ -(2 ^ 62) ≤ (((numsD ns).length : Nat) : Int) + 1 ∧ (((numsD ns).length : Nat) : Int) + 1 < 2 ^ 62) ∧ wLcL _ _ _ [17] (rgD (u : Int) ((((numsD ns).length : Nat) : Int) + 1 - (u : Int)).toNat) (numsD []) (jR C sc k l o t ns cs js s9 s u s12 s13 s14 s15 s16 .un s18 s19 s20) _
  rw [L]
  have e : ((ns.length : Int) + 1 - (u : Int)).toNat = ns.length + 1 - u := by omega
  refine ⟨⟨by omega, by omega, by omega, by omega⟩, ?_⟩
  rw [e, rg_from]
  refine lc_filt (P := fun v => decide (ledN t s ((ns.take v).drop u) = s)) (fun _ => rfl) (fun _ => rfl) _ [] (by simp only [List.length_map, List.length_range, List.length_nil]; omega) (fun v hv Ψ hΨ => ?_) ?_
  · obtain ⟨i, hi, rfl⟩ := List.mem_map.mp hv
    have hi := List.mem_range.mp hi
    refine ⟨rfl, rfl, rfl, t, s, (ns.take (u + i)).drop u, g, hs, sub_lt hlog.1 fun n hn => List.mem_of_mem_take (List.mem_of_mem_drop hn), ?_, ?_⟩
    · have : DL.cutD (numsD ns) (some (u : Int)) (some ((u + i : Nat) : Int)) = numsD ((ns.take (u + i)).drop u) := cut_n ns u (u + i) (by omega) (by omega)
      show [tbsD t, D.int (s : Nat), D.tup (DL.cutD (numsD ns) (some (u : Int)) (some ((u + i : Nat) : Int)))] = _
      rw [this]; rfl
    · have e5 : decide ((ledN t s ((ns.take (u + i)).drop u) : Int) = (s : Int)) = decide (ledN t s ((ns.take (u + i)).drop u) = s) := decide_eq_decide.mpr (by omega)
      exact eqF_bool (a := (ledN t s ((ns.take (u + i)).drop u) : Nat)) (b := (s : Nat)) (e5 ▸ hΨ)
  · exact q
theorem i_2 (g : Good t) (hlog : LogOf t ns) (hs : s < wd t) (hu : u ≤ ns.length) (q : Δ.nx (jR C sc k l o t ns cs js s9 s u s12 (.val (.int (ledN t s (ns.drop u) : Nat))) s14 s15 s16 s17 s18 s19 s20)) :
    li_2 K C (jR C sc k l o t ns cs js s9 s u s12 s13 s14 s15 s16 s17 s18 s19 s20) Δ := by
  refine ⟨rfl, rfl, rfl, t, s, ns.drop u, g, hs, sub_lt hlog.1 fun n hn => List.mem_of_mem_drop hn, ?_, q⟩
  show [tbsD t, D.int (s : Nat), D.tup (DL.cutD (numsD ns) (some (u : Int)) none)] = _
  rw [cut_d ns u hu]; rfl
theorem i_3 (g : Good t) (hlog : LogOf t ns) (hs : s < wd t) (hu : u ≤ ns.length) (q : ∀ j, LastAt t ns s u j → Δ.nx (jR C sc k l o t ns cs js s9 s u s12 (.val (.int (ledN t s (ns.drop u) : Nat))) (.val (.int (j : Nat))) s15 s16 s17 .un s19 s20)) :
    li_3 K C (jR C sc k l o t ns cs js s9 s u s12 (.val (.int (ledN t s (ns.drop u) : Nat))) s14 s15 s16 s17 .un s19 s20) Δ := by
  have hb := big
  have L : (numsD ns).length = ns.length := nums_len ns
  have h9 := hlog.2
  show (-(2 ^ 62) ≤ (((numsD ns).length : Nat) : Int) + 1 ∧ (((numsD ns).length : Nat) : Int) + 1 < 2 ^ 62) ∧ wLcL _ _ _ [18] (rgD 0 ((((numsD ns).length : Nat) : Int) + 1).toNat) (numsD []) (jR C sc k l o t ns cs js s9 s u s12 (.val (.int (ledN t s (ns.drop u) : Nat))) s14 s15 s16 s17 .un s19 s20) _
  rw [L]
  have e : ((ns.length : Int) + 1).toNat = ns.length + 1 := by omega
  refine ⟨⟨by omega, by omega⟩, ?_⟩
  rw [e, rg_nums]
  refine lc_filt (P := fun v => decide (ledN t s (ns.drop v) = ledN t s (ns.drop u))) (fun _ => rfl) (fun _ => rfl) _ [] (by simp only [List.length_range, List.length_nil]; omega) (fun v hv Ψ hΨ => ?_) ?_
  · have hi := List.mem_range.mp hv
    refine ⟨rfl, rfl, rfl, t, s, ns.drop v, g, hs, sub_lt hlog.1 fun n hn => List.mem_of_mem_drop hn, ?_, ?_⟩
    · show [tbsD t, D.int (s : Nat), D.tup (DL.cutD (numsD ns) (some (v : Int)) none)] = _
      rw [cut_d ns v (by omega)]; rfl
    · have e5 : decide ((ledN t s (ns.drop v) : Int) = (ledN t s (ns.drop u) : Int)) = decide (ledN t s (ns.drop v) = ledN t s (ns.drop u)) := decide_eq_decide.mpr (by omega)
      exact eqF_bool (a := (ledN t s (ns.drop v) : Nat)) (b := (ledN t s (ns.drop u) : Nat)) (e5 ▸ hΨ)
  · have mem : ∀ v : Nat, v ∈ (List.range (ns.length + 1)).filter (fun v => decide (ledN t s (ns.drop v) = ledN t s (ns.drop u))) ↔ v ≤ ns.length ∧ ledN t s (ns.drop v) = ledN t s (ns.drop u) := fun v => by
      rw [List.mem_filter, List.mem_range, decide_eq_true_eq]
      exact ⟨fun h => ⟨by omega, h.2⟩, fun h => ⟨by omega, h.2⟩⟩
    refine ⟨_, ints_nums _, ?_, fun m hm hle => ?_⟩
    · rw [List.nil_append, List.length_map]
      exact List.length_pos_of_mem ((mem u).mpr ⟨hu, rfl⟩)
    · rw [List.nil_append] at hm hle
      obtain ⟨j, hj, rfl⟩ := List.mem_map.mp hm
      obtain ⟨a, b⟩ := (mem j).mp hj
      refine q j ⟨a, b, fun k2 h1 h2 h3 => ?_⟩
      have := hle _ (List.mem_map.mpr ⟨k2, (mem k2).mpr ⟨h2, h3⟩, rfl⟩)
      omega
end
end K30
set_option Elab.async false
set_option autoImplicit false
set_option linter.all false
set_option maxRecDepth 100000
set_option maxHeartbeats 3900000
namespace K30
open DL L2 PyProof.Rows PySem PySem.Spec
section
variable {K : Fg} {C : Cs} {Δ : DE} {sc : List Int} {k : Int} {l : Addr} {o : OD} {t : Tbl} {ns ms : List Nat} {cs : List (Nat × Nat)} {js : List Nat} {j : Nat}
variable {s0 s1 s2 s3 s4 s5 s6 s7 s8 s9 s10 s11 s12 s13 s14 s15 s16 s17 s18 s19 s20 : Sl} {s u : Nat}
theorem gate_of {x : D} {Ξ : Addr → Str → D → Prop} {G : Tbl → List Nat → Nat → Nat → Prop} (g : Good t) (hlog : LogOf t ns) (hs : s < wd t) (hu : u ≤ ns.length) (hx : seqD x = some (numsD ns)) (q : G t ns s u) : gate C [mach C t, x, .int (s : Nat), .int (u : Nat)] Ξ G :=
  ⟨t, x, .int (s : Nat), .int (u : Nat), g, rfl, ⟨by obtain rfl | rfl := seq_cases hx <;> rfl, fun xs h => by rw [hx] at h; cases h; exact nums_plain ns⟩, rfl, rfl, .inr ⟨ns, ⟨hlog.1, by have := hlog.2; omega⟩, hx, .inr ⟨s, rfl, hs, .inr ⟨u, rfl, hu, q⟩⟩⟩⟩
theorem back_lt (hlog : LogOf t ns) (hu : u ≤ ns.length) : (∀ n ∈ backL t ns s u, n < 100) ∧ (backL t ns s u).length ≤ 1000 := by
  have h9 := hlog.2
  refine ⟨fun n hn => ?_, ?_⟩
  · obtain ⟨i, hi, rfl⟩ := List.mem_map.mp (List.mem_filter.mp hn).1
    have := List.mem_range.mp hi
    omega
  · have : (backL t ns s u).length ≤ ns.length + 1 - u := by unfold backL; exact Nat.le_trans (List.length_filter_le ..) (by simp)
    omega
theorem i_4 (g : Good t) (hlog : LogOf t ns) (hs : s < wd t) (hu : u ≤ ns.length) (q : Δ.nx (jR C sc k l o t ns cs js s9 s u (.val (rowD (backL t ns s u))) s13 s14 s15 s16 s17 s18 s19 s20)) :
    li_4 K C (jR C sc k l o t ns cs js s9 s u (.val (rowD (backL t ns s u))) s13 s14 s15 s16 s17 s18 s19 s20) Δ := by
  have c := can_row (back_lt (s := s) hlog hu).1 (back_lt (s := s) hlog hu).2
  exact ⟨rfl, rfl, rfl, gate_of g hlog hs hu rfl ⟨_, _, rfl, c.py, c.sh, c.de, c.sz, _, _, rfl, c.py, c.sh, c.de, c.sz, repr2 c q⟩⟩
theorem i_5 (g : Good t) (hlog : LogOf t ns) (hs : s < wd t) (hu : u ≤ ns.length) (q : Δ.nx (jR C sc k l o t ns cs js s9 s u (.val (rowD (backL t ns s u))) s13 s14 s15 s16 s17 s18 s19 s20)) :
    li_5 K C (jR C sc k l o t ns cs js s9 s u (.val (rowD (backL t ns s u))) s13 s14 s15 s16 s17 s18 s19 s20) Δ := by
  have c := can_row (back_lt (s := s) hlog hu).1 (back_lt (s := s) hlog hu).2
  exact ⟨rfl, rfl, rfl, gate_of g hlog hs hu rfl ⟨_, _, rfl, c.py, c.sh, c.de, c.sz, _, _, rfl, c.py, c.sh, c.de, c.sz, repr2 c q⟩⟩
theorem back_last (hu : u ≤ ns.length) (hj : LastAt t ns s u j) : ∃ v, atI (numsD (backL t ns s u)) ((((numsD (backL t ns s u)).length : Nat) : Int) - 1) = some (.int (v : Nat)) ∧ v ≤ j := by
  have hm : u ∈ backL t ns s u := by
    refine List.mem_filter.mpr ⟨List.mem_map.mpr ⟨0, List.mem_range.mpr (by omega), rfl⟩, decide_eq_true ?_⟩
    have e4 : (ns.take u).drop u = [] := by rw [List.drop_eq_nil_iff]; simp; omega
    rw [e4]; rfl
  have hpos : 0 < (numsD (backL t ns s u)).length := by rw [nums_len]; exact List.length_pos_of_mem hm
  obtain ⟨x, h1, h2⟩ := at_of (xs := numsD (backL t ns s u)) (d := (((numsD (backL t ns s u)).length : Nat) : Int) - 1) (by omega) (by omega)
  obtain ⟨v, hv, rfl⟩ := List.mem_map.mp h2
  refine ⟨v, h1, ?_⟩
  obtain ⟨h3, h4⟩ := List.mem_filter.mp hv
  obtain ⟨i, hi, rfl⟩ := List.mem_map.mp h3
  have hi := List.mem_range.mp hi
  have h4 := of_decide_eq_true h4
  refine Nat.le_of_not_lt fun z => hj.up _ z (by omega) ?_
  have e5 : ns.drop u = (ns.take (u + i)).drop u ++ ns.drop (u + i) := by
    have h6 := List.drop_append_of_le_length (l₁ := ns.take (u + i)) (l₂ := ns.drop (u + i)) (i := u) (by simp; omega)
    rw [List.take_append_drop] at h6
    exact h6
  rw [e5, led_app, h4]
theorem i_6 (g : Good t) (hlog : LogOf t ns) (hs : s < wd t) (hu : u ≤ ns.length) (hj : LastAt t ns s u j) (q : Δ.nx (jR C sc k l o t ns cs js s9 s u (.val (rowD (backL t ns s u))) s13 (.val (.int (j : Nat))) s15 s16 s17 s18 s19 s20)) :
    li_6 K C (jR C sc k l o t ns cs js s9 s u (.val (rowD (backL t ns s u))) s13 (.val (.int (j : Nat))) s15 s16 s17 s18 s19 s20) Δ := by
  have h9 := hlog.2
  have hl := hj.le
  obtain ⟨p, c⟩ := can_int (n := j) (by omega)
  obtain ⟨v, hv, hvj⟩ := back_last hu hj
  refine ⟨rfl, rfl, rfl, gate_of g hlog hs hu rfl fun j' hj' => ?_⟩
  obtain rfl := hj'.uniq hj
  refine ⟨_, _, rfl, c.py, c.sh, c.de, c.sz, _, _, rfl, c.py, c.sh, c.de, c.sz, repr2 c ?_⟩
  refine ⟨_, hv, ?_⟩
  show if decide ((j' : Int) < (v : Int)) = true then _ else _
  rw [if_neg (by rw [decide_eq_false (by omega)]; exact Bool.false_ne_true)]
  exact q
theorem i_7 (g : Good t) (hlog : LogOf t ns) (hs : s < wd t) (hu : u ≤ ns.length) (hj : LastAt t ns s u j) (q : Δ.nx (jR C sc k l o t ns cs js s9 s u s12 s13 (.val (.int (j : Nat))) s15 s16 s17 s18 s19 s20)) :
    li_7 K C (jR C sc k l o t ns cs js s9 s u s12 s13 (.val (.int (j : Nat))) s15 s16 s17 s18 s19 s20) Δ := by
  refine ⟨rfl, rfl, rfl, gate_of g hlog hs hu rfl fun j' hj' => ?_⟩
  obtain rfl := hj'.uniq hj
  have key : wEq true (.int (j' : Nat)) (.int (j' : Nat)) fun z => match z with
      | D.bl b => if b = true then Δ.rt (.bl false) (jR C sc k l o t ns cs js s9 s u s12 s13 (.val (.int (j' : Nat))) s15 s16 s17 s18 s19 s20) else Δ.nx (jR C sc k l o t ns cs js s9 s u s12 s13 (.val (.int (j' : Nat))) s15 s16 s17 s18 s19 s20)
      | _ => False := eq_same (p := .int (j' : Nat)) rfl rfl q
  exact key
theorem tbs_len (t : Tbl) : (t.map rowD).length = t.length := List.length_map ..
theorem good_len (g : Good t) : 1 ≤ t.length ∧ t.length ≤ 8 := ⟨List.length_pos_iff.mpr g.ne, g.le⟩
theorem i_8 (g : Good t) (ho : GoodB o) (q : ∀ ms o', (∀ n ∈ ms, n < t.length) → ms.length ≤ 6 → GoodB o' → Δ.nx (jR C sc k l o' t ns cs js s9 s u s12 s13 s14 (.val (rowD ms)) s16 s17 s18 .un s20)) :
    li_8 K C (jR C sc k l o t ns cs js s9 s u s12 s13 s14 s15 s16 s17 s18 .un s20) Δ := by
  have hb := big
  obtain ⟨g1, g2⟩ := good_len g
  refine ⟨⟨l, o, rfl⟩, rfl, o, 6, rfl, ho, rfl, by omega, by omega, fun d o1 d0 d1 h1 => ⟨o1, rfl, ⟨by omega, by omega⟩, ?_⟩⟩
  have hlen : (rgD 0 d.toNat).length = d.toNat := by unfold rgD; simp
  refine draws (l := l) (rest := []) (m := (t.length : Nat)) (R := fun ρ' => ∃ o', GoodB o' ∧ ρ' = jR C sc k l o' t ns cs js s9 s u s12 s13 s14 s15 s16 s17 s18 .un s20) _ _ (by omega) (by rw [hlen]; omega) ⟨o1, h1, rfl⟩ ?_ ?_
  · rintro d hd ρ' Ψ ⟨o', ho', rfl⟩ hk
    refine ⟨⟨l, o', rfl⟩, rfl, o', (((t.map rowD).length : Nat) : Int), rfl, ho', rfl, by rw [tbs_len]; omega, by rw [tbs_len]; omega, fun d o2 d0 d1 h2 => ⟨o2, rfl, ?_⟩⟩
    rw [tbs_len] at d1
    obtain ⟨x, hx, hx2⟩ := nat_of d0 d1
    exact hk _ _ ⟨x, hx, hx2⟩ ⟨o2, h2, rfl⟩
  · rintro ms ρ' h3 h4 ⟨o', ho', rfl⟩
    exact q ms o' (fun n hn => by have := h4 n hn; omega) (by rw [h3, hlen]; omega) ho'
theorem i_9 (g : Good t) (hlog : LogOf t ns) (hs : s < wd t) (hu : u ≤ ns.length) (hj : LastAt t ns s u j) (hm : ∀ n ∈ ms, n < t.length) (hm6 : ms.length ≤ 6) (q : Δ.nx (jR C sc k l o t ns cs js s9 s u s12 s13 (.val (.int (j : Nat))) (.val (rowD ms)) s16 s17 s18 s19 s20)) :
    li_9 K C (jR C sc k l o t ns cs js s9 s u s12 s13 (.val (.int (j : Nat))) (.val (rowD ms)) s16 s17 s18 s19 s20) Δ := by
  have hb := big
  have h9 := hlog.2
  have e : ∀ a, a ≤ ns.length → (DL.cutD (numsD ns) (some (a : Int)) none).length + (numsD ms).length ≤ sizeLine ∧ D.tup (DL.cutD (numsD ns) (some (a : Int)) none ++ numsD ms) = rowD (ns.drop a ++ ms) := fun a ha => by
    rw [cut_d ns a ha, nums_len, nums_len]
    refine ⟨by simp only [List.length_drop]; omega, ?_⟩
    show _ = D.tup (numsD (ns.drop a ++ ms))
    unfold numsD
    rw [List.map_append]
  have lt : ∀ a, ∀ n ∈ ns.drop a ++ ms, n < t.length := fun a n hn => (List.mem_append.mp hn).elim (fun h => hlog.1 n (List.mem_of_mem_drop h)) (hm n)
  obtain ⟨a1, a2⟩ := e j hj.le
  obtain ⟨b1, b2⟩ := e u hu
  refine ⟨a1, rfl, rfl, rfl, t, s, ns.drop j ++ ms, g, hs, lt j, ?_, ?_⟩
  · show [tbsD t, D.int (s : Nat), D.tup (DL.cutD (numsD ns) (some (j : Int)) none ++ numsD ms)] = _
    rw [a2]
  refine ⟨b1, rfl, rfl, rfl, t, s, ns.drop u ++ ms, g, hs, lt u, ?_, ?_⟩
  · show [tbsD t, D.int (s : Nat), D.tup (DL.cutD (numsD ns) (some (u : Int)) none ++ numsD ms)] = _
    rw [b2]
  have ee : ledN t s (ns.drop j ++ ms) = ledN t s (ns.drop u ++ ms) := by rw [led_app, led_app, hj.eq]
  rw [ee]
  refine eq_same (p := .int (ledN t s (ns.drop u ++ ms) : Nat)) rfl rfl ?_
  exact q
theorem i_10 (h1 : js.length ≤ 10) (h2 : cs.length ≤ 10) (q : Δ.nx (jR C sc k l o t ns (cs ++ [(s, u)]) (js ++ [j]) s9 s u s12 s13 (.val (.int (j : Nat))) s15 s16 s17 s18 s19 s20)) :
    li_10 K C (jR C sc k l o t ns cs js s9 s u s12 s13 (.val (.int (j : Nat))) s15 s16 s17 s18 s19 s20) Δ := by
  have hb := big
  refine ⟨(by show 1 ≤ sizeLine; decide), (by show (numsD js).length + 1 ≤ sizeLine; rw [nums_len]; omega), (by show 2 ≤ sizeLine; decide), (by show 1 ≤ sizeLine; decide), (by show (cs.map copT).length + 1 ≤ sizeLine; rw [List.length_map]; omega), ?_⟩
  have e1 : numsD (js ++ [j]) = numsD js ++ [D.int (j : Nat)] := by unfold numsD; rw [List.map_append]; rfl
  have e2 : (cs ++ [(s, u)]).map copT = cs.map copT ++ [D.tup [.int (s : Nat), .int (u : Nat)]] := by rw [List.map_append]; rfl
  dsimp only [jR, iR] at q
  rw [e1, e2] at q
  exact q
structure Inv (t : Tbl) (ns : List Nat) (cs : List (Nat × Nat)) (js : List Nat) : Prop where
  pr : Paired (fun (p : Nat × Nat) j => LastAt t ns p.1 p.2 j) cs js
  bd : ∀ p ∈ cs, p.1 < wd t ∧ p.2 ≤ ns.length
theorem paired_snoc {α β : Type} {P : α → β → Prop} {a : α} {b : β} (h : P a b) : ∀ {xs : List α} {ys : List β}, Paired P xs ys → Paired P (xs ++ [a]) (ys ++ [b])
  | _, _, .nil => .cons h .nil
  | _, _, .cons h1 t => .cons h1 (paired_snoc h t)
theorem inner (g : Good t) (hlog : LogOf t ns) : ∀ (es : List D) (cs : List (Nat × Nat)) (js : List Nat) (o : OD) (s9 s10 s11 s12 s13 s14 s15 : Sl), GoodB o → Inv t ns cs js → cs.length + es.length ≤ 5 →
    (∀ cs js o s9 s10 s11 s12 s13 s14 s15, GoodB o → Inv t ns cs js → cs.length ≤ 5 → Δ.nx (iR C sc k l o t ns cs js s9 s10 s11 s12 s13 s14 s15 s16 .un .un .un s20)) →
    wForL (wgName 9) (li K C) es (iR C sc k l o t ns cs js s9 s10 s11 s12 s13 s14 s15 s16 .un .un .un s20) Δ
  | [], cs, js, o, _, _, _, _, _, _, _, ho, hI, hl, q => q cs js o _ _ _ _ _ _ _ ho hI hl
  | e :: es, cs, js, o, _, _, _, _, _, _, _, ho, hI, hl, q => by
    have hl' : cs.length + (es.length + 1) ≤ 5 := hl
    have hjl := paired_len hI.pr
    show li K C (iR C sc k l o t ns cs js (.val e) _ _ _ _ _ _ s16 .un .un .un s20) _
    refine seqI (w := li_0 K C) (i_0 g ho hlog.2 fun s u o1 hs hu h1 => ?_)
    refine seqI (w := li_1 K C) (i_1 g hlog hs hu ?_)
    refine seqI (w := li_2 K C) (i_2 g hlog hs hu ?_)
    refine seqI (w := li_3 K C) (i_3 g hlog hs hu fun j hj => ?_)
    refine seqI (w := li_4 K C) (i_4 g hlog hs hu ?_)
    refine seqI (w := li_5 K C) (i_5 g hlog hs hu ?_)
    refine seqI (w := li_6 K C) (i_6 g hlog hs hu hj ?_)
    refine seqI (w := li_7 K C) (i_7 g hlog hs hu hj ?_)
    refine seqI (w := li_8 K C) (i_8 g h1 fun ms o2 hm h6 h2 => ?_)
    refine seqI (w := li_9 K C) (i_9 g hlog hs hu hj hm h6 ?_)
    refine i_10 (K := K) (by omega) (by omega) ?_
    exact inner g hlog es (cs ++ [(s, u)]) (js ++ [j]) o2 _ _ _ _ _ _ _ h2 ⟨paired_snoc (P := fun (p : Nat × Nat) j => LastAt t ns p.1 p.2 j) hj hI.pr, fun p hp => (List.mem_append.mp hp).elim (hI.bd p) fun h => by rw [List.mem_singleton.mp h]; exact ⟨hs, hu⟩⟩ (by simp only [List.length_append, List.length_cons, List.length_nil]; omega) q
end
end K30
set_option Elab.async false
set_option autoImplicit false
set_option linter.all false
set_option maxRecDepth 100000
set_option maxHeartbeats 3900000
namespace K30
open DL L2 PyProof.Rows PySem PySem.Spec
section
variable {K : Fg} {C : Cs} {Δ : DE} {sc : List Int} {k : Int} {l : Addr} {o : OD} {t : Tbl} {ns : List Nat} {cs : List (Nat × Nat)} {js : List Nat}
variable {s0 s1 s2 s3 s4 s5 s6 s7 s8 s9 s10 s11 s12 s13 s14 s15 s16 s17 s18 s19 s20 : Sl}
theorem o_2 (g : Good t) (q : Δ.nx [.val (.scr sc), .val (.int k), .own l o, .val (tbsD t), .val (mach C t), .val (.int (wd t : Nat)), s6, s7, s8, s9, s10, s11, s12, s13, s14, s15, s16, s17, s18, s19, s20]) :
    la_2 K C [.val (.scr sc), .val (.int k), .own l o, .val (tbsD t), s4, s5, s6, s7, s8, s9, s10, s11, s12, s13, s14, s15, s16, s17, s18, s19, s20] Δ := by
  obtain ⟨r, t', rfl⟩ : ∃ r t', t = r :: t' := by
    cases t with
    | nil => exact absurd rfl g.ne
    | cons r t' => exact ⟨r, t', rfl⟩
  refine ⟨rfl, rfl, mk_good g rfl ⟨rfl, _, _, rfl, ?_⟩⟩
  refine ⟨rowD r, by simp [atI, ixN], ?_⟩
  have e : (r.map fun n => D.int (n : Nat)).length = wd (r :: t') := List.length_map ..
  rw [← e] at q
  exact q
theorem o_3 (g : Good t) (ho : GoodB o) (q : ∀ ns o' s9, LogOf t ns → GoodB o' → Δ.nx [.val (.scr sc), .val (.int k), .own l o', .val (tbsD t), .val (mach C t), .val (.int (wd t : Nat)), .val (rowD ns), s7, s8, s9, s10, s11, s12, s13, s14, s15, s16, s17, s18, s19, s20]) :
    la_3 K C [.val (.scr sc), .val (.int k), .own l o, .val (tbsD t), .val (mach C t), .val (.int (wd t : Nat)), s6, s7, s8, s9, s10, s11, s12, s13, s14, s15, s16, s17, s18, s19, s20] Δ := by
  have hb := big
  obtain ⟨g1, g2⟩ := good_len g
  refine ⟨⟨l, o, rfl⟩, rfl, o, 10, rfl, ho, rfl, by omega, by omega, fun d o1 d0 d1 h1 => ⟨o1, rfl, ⟨by omega, by omega⟩, ?_⟩⟩
  have hlen : (rgD 0 d.toNat).length = d.toNat := by unfold rgD; simp
  refine draws (l := l) (rest := []) (m := (t.length : Nat)) (R := fun ρ' => ∃ o', GoodB o' ∧ ρ' = [.val (.scr sc), .val (.int k), .own l o', .val (tbsD t), .val (mach C t), .val (.int (wd t : Nat)), s6, s7, s8, .un, s10, s11, s12, s13, s14, s15, s16, s17, s18, s19, s20]) _ _ (by omega) (by rw [hlen]; omega) ⟨o1, h1, rfl⟩ ?_ ?_
  · rintro d hd ρ' Ψ ⟨o', ho', rfl⟩ hk
    refine ⟨⟨l, o', rfl⟩, rfl, o', (((t.map rowD).length : Nat) : Int), rfl, ho', rfl, by rw [tbs_len]; omega, by rw [tbs_len]; omega, fun d o2 d0 d1 h2 => ⟨o2, rfl, ?_⟩⟩
    rw [tbs_len] at d1
    obtain ⟨x, hx, hx2⟩ := nat_of d0 d1
    exact hk _ _ ⟨x, hx, hx2⟩ ⟨o2, h2, rfl⟩
  · rintro ms ρ' h3 h4 ⟨o', ho', rfl⟩
    exact q ms o' _ ⟨fun n hn => by have := h4 n hn; omega, by rw [h3, hlen]; omega⟩ ho'
theorem o_4 (q : Δ.nx [s0, s1, s2, s3, s4, s5, s6, .val (.lst (numsD [])), .val (.lst (([] : List (Nat × Nat)).map copT)), s9, s10, s11, s12, s13, s14, s15, s16, s17, s18, s19, s20]) :
    la_4 K C [s0, s1, s2, s3, s4, s5, s6, s7, s8, s9, s10, s11, s12, s13, s14, s15, s16, s17, s18, s19, s20] Δ := ⟨(by show 0 ≤ sizeLine; decide), (by show 0 ≤ sizeLine; decide), q⟩
theorem o_5 (g : Good t) (hlog : LogOf t ns) (ho : GoodB o) (q : ∀ cs js o s9 s10 s11 s12 s13 s14 s15, GoodB o → Inv t ns cs js → cs.length ≤ 5 → Δ.nx (iR C sc k l o t ns cs js s9 s10 s11 s12 s13 s14 s15 s16 .un .un .un s20)) :
    la_5 K C (iR C sc k l o t ns [] [] s9 s10 s11 s12 s13 s14 s15 s16 .un .un .un s20) Δ := by
  refine ⟨⟨l, o, rfl⟩, rfl, o, 5, rfl, ho, rfl, by omega, by omega, fun d o1 d0 d1 h1 => ⟨o1, rfl, ⟨by omega, by omega⟩, ?_⟩⟩
  have hlen : (rgD 0 d.toNat).length = d.toNat := by unfold rgD; simp
  exact inner g hlog _ [] [] o1 _ _ _ _ _ _ _ h1 ⟨.nil, fun _ h => nomatch h⟩ (by rw [hlen]; simp only [List.length_nil]; omega) q
theorem least_eq (hI : Inv t ns cs js) {m M : Nat} (hm : Least t ns cs m) (h1 : M ∈ js ++ [ns.length]) (h2 : ∀ y ∈ js ++ [ns.length], M ≤ y) : m = M := by
  have hM : M ≤ ns.length := h2 _ (List.mem_append_right _ List.mem_cons_self)
  rcases hm.mem with ⟨h3, h4⟩ | ⟨p, hp, hpm⟩
  · have hj0 : js = [] := by
      have := paired_len hI.pr
      rw [h3] at this
      exact List.length_eq_zero_iff.mp this.symm
    rw [hj0] at h1
    rw [h4, List.mem_singleton.mp h1]
  · obtain ⟨j, hj, hpj⟩ := paired_mem' hI.pr p hp
    have e := hpj.uniq hpm
    have h5 : M ≤ m := by rw [← e]; exact h2 j (List.mem_append_left _ hj)
    have hml := hpm.le
    rcases List.mem_append.mp h1 with h | h
    · obtain ⟨p', hp', hpM⟩ := paired_mem hI.pr M h
      have := hm.le p' hp' M hpM
      omega
    · have := List.mem_singleton.mp h
      omega
theorem cop_plain (f : Nat × Nat → D) (hf : ∀ p, f p = copT p ∨ f p = copL p) (cs : List (Nat × Nat)) {y : D} (hy : seqD y = some (cs.map f)) : plain3 y := by
  refine ⟨by obtain rfl | rfl := seq_cases hy <;> rfl, fun xs h z hz => ?_⟩
  rw [hy] at h
  cases h
  obtain ⟨p, -, rfl⟩ := List.mem_map.mp hz
  have h2 : ∀ y ∈ [D.int (p.1 : Nat), D.int (p.2 : Nat)], plain y := pl2 rfl rfl
  rcases hf p with e | e <;> rw [e]
  · exact (p2l h2).2
  · exact (p2l h2).1
theorem cop_pair (f : Nat × Nat → D) (hf : ∀ p, f p = copT p ∨ f p = copL p) : ∀ cs : List (Nat × Nat), Paired IsCop cs (cs.map f)
  | [] => .nil
  | p :: cs => .cons (by unfold IsCop; rcases hf p with e | e <;> rw [e] <;> rfl) (cop_pair f hf cs)
theorem need_of (g : Good t) (hlog : LogOf t ns) (hI : Inv t ns cs js) (h5 : cs.length ≤ 5) {f : Nat × Nat → D} (hf : ∀ p, f p = copT p ∨ f p = copL p) {x y : D} (hx : seqD x = some (numsD ns)) (hy : seqD y = some (cs.map f)) {Ψ : D → Option OD → Prop} {Ξ : Addr → Str → D → Prop}
    (q : ∀ m, Least t ns cs m → Ψ (.int (m : Nat)) none) : sp_needed_place C none [mach C t, x, y] Ψ Ξ :=
  ⟨rfl, t, x, y, g, rfl, ⟨by obtain rfl | rfl := seq_cases hx <;> rfl, fun xs h => by rw [hx] at h; cases h; exact nums_plain ns⟩, .inr ⟨ns, ⟨hlog.1, by have := hlog.2; omega⟩, hx, cop_plain f hf cs hy, .inr ⟨cs, cs.map f, hy, cop_pair f hf cs, by omega, hI.bd, q⟩⟩⟩
theorem min_of {Ψ : D → Prop} (q : ∀ M : Nat, M ∈ js ++ [ns.length] → (∀ y ∈ js ++ [ns.length], M ≤ y) → Ψ (.int (M : Nat))) : wMinL [.lst (numsD js ++ [D.int ((numsD ns).length : Nat)])] Ψ := by
  have e1 : numsD js ++ [D.int ((numsD ns).length : Nat)] = numsD (js ++ [ns.length]) := by rw [nums_len]; unfold numsD; rw [List.map_append]; rfl
  refine ⟨(js ++ [ns.length]).map fun (n : Nat) => (n : Int), by rw [e1]; exact ints_nums _, by simp, fun m hm hle => ?_⟩
  obtain ⟨M, hM, rfl⟩ := List.mem_map.mp hm
  refine q M hM fun y hy => ?_
  have := hle _ (List.mem_map.mpr ⟨y, hy, rfl⟩)
  omega
theorem o_6 (g : Good t) (hlog : LogOf t ns) (hI : Inv t ns cs js) (h5 : cs.length ≤ 5) (q : Δ.nx (iR C sc k l o t ns cs js s9 s10 s11 s12 s13 s14 s15 s16 s17 s18 s19 s20)) :
    la_6 K C (iR C sc k l o t ns cs js s9 s10 s11 s12 s13 s14 s15 s16 s17 s18 s19 s20) Δ := by
  have hb := big
  have h9 := hlog.2
  have hjl := paired_len hI.pr
  refine ⟨rfl, rfl, need_of g hlog hI h5 (f := copT) (fun _ => .inl rfl) rfl rfl fun m hm => ?_⟩
  have hm9 : m ≤ ns.length := by
    rcases hm.mem with ⟨-, h⟩ | ⟨p, -, hp⟩
    · omega
    · exact hp.le
  obtain ⟨p, c⟩ := can_int (n := m) (by omega)
  refine ⟨_, _, rfl, c.py, c.sh, c.de, c.sz, (by show 1 ≤ sizeLine; decide), (by show (numsD js).length + 1 ≤ sizeLine; rw [nums_len]; omega), ?_⟩
  have key : wMinL [.lst (numsD js ++ [D.int ((numsD ns).length : Nat)])] fun z => wRepr [z] fun y => wEq true (.str p.shown) y fun z => match z with
      | D.bl b => if b = true then Δ.rt (.bl false) (iR C sc k l o t ns cs js s9 s10 s11 s12 s13 s14 s15 s16 s17 s18 s19 s20) else Δ.nx (iR C sc k l o t ns cs js s9 s10 s11 s12 s13 s14 s15 s16 s17 s18 s19 s20)
      | _ => False := min_of fun M h1 h2 => by
    obtain rfl := least_eq hI hm h1 h2
    exact ⟨_, _, rfl, c.py, c.sh, c.de, c.sz, repr2 c q⟩
  exact key
theorem o_7 (h5 : cs.length ≤ 5) (q : Δ.nx (iR C sc k l o t ns cs js s9 s10 s11 s12 s13 s14 s15 (.val (.tup (cs.map copL))) s17 s18 s19 .un)) :
    la_7 K C (iR C sc k l o t ns cs js s9 s10 s11 s12 s13 s14 s15 s16 s17 s18 s19 .un) Δ := by
  have hb := big
  refine lc_map (R := fun ρ => ρ = iR C sc k l o t ns cs js s9 s10 s11 s12 s13 s14 s15 s16 s17 s18 s19 .un) (fun d => match d with | .tup xs => .lst xs | d => d) (cs.map copT) _ rfl (by rw [List.length_map]; omega) ?_ ?_
  · rintro d hd ρ' Ψ rfl hk
    obtain ⟨p, -, rfl⟩ := List.mem_map.mp hd
    exact hk _ rfl
  · rintro ρ' rfl
    have e : (cs.map copT).map (fun d => match d with | .tup xs => .lst xs | d => d) = cs.map copL := by
      rw [List.map_map]; rfl
    rw [e]
    exact q
theorem o_8 (g : Good t) (hlog : LogOf t ns) (hI : Inv t ns cs js) (h5 : cs.length ≤ 5) (q : Δ.nx (iR C sc k l o t ns cs js s9 s10 s11 s12 s13 s14 s15 (.val (.tup (cs.map copL))) s17 s18 s19 s20)) :
    la_8 K C (iR C sc k l o t ns cs js s9 s10 s11 s12 s13 s14 s15 (.val (.tup (cs.map copL))) s17 s18 s19 s20) Δ := by
  have hb := big
  have hjl := paired_len hI.pr
  refine ⟨rfl, rfl, need_of g hlog hI h5 (f := copL) (fun _ => .inr rfl) rfl rfl fun m hm => ?_⟩
  refine ⟨(by show 1 ≤ sizeLine; decide), (by show (numsD js).length + 1 ≤ sizeLine; rw [nums_len]; omega), ?_⟩
  have key : wMinL [.lst (numsD js ++ [D.int ((numsD ns).length : Nat)])] fun y => wEq true (.int (m : Nat)) y fun z => match z with
      | D.bl b => if b = true then Δ.rt (.bl false) (iR C sc k l o t ns cs js s9 s10 s11 s12 s13 s14 s15 (.val (.tup (cs.map copL))) s17 s18 s19 s20) else Δ.nx (iR C sc k l o t ns cs js s9 s10 s11 s12 s13 s14 s15 (.val (.tup (cs.map copL))) s17 s18 s19 s20)
      | _ => False := min_of fun M h1 h2 => by
    obtain rfl := least_eq hI hm h1 h2
    exact eq_same (p := .int (m : Nat)) rfl rfl q
  exact key
theorem o_9 (g : Good t) (hlog : LogOf t ns) (ho : GoodB o) (q : ∀ o', GoodB o' → Δ.nx (iR C sc k l o' t ns cs js s9 s10 s11 s12 s13 s14 s15 s16 s17 s18 s19 s20)) :
    la_9 K C (iR C sc k l o t ns cs js s9 s10 s11 s12 s13 s14 s15 s16 s17 s18 s19 s20) Δ :=
  ⟨⟨l, o, rfl⟩, rfl, o, t, ns, rfl, ho, g, hlog.1, hlog.2, rfl, fun o' h => ⟨o', rfl, q o' h⟩⟩
abbrev turnW (K : Fg) (C : Cs) : WS := (wSeq (la_0 K C) (wSeq (la_1 K C) (wSeq (la_2 K C) (wSeq (la_3 K C) (wSeq (la_4 K C) (wSeq (la_5 K C) (wSeq (la_6 K C) (wSeq (la_7 K C) (wSeq (la_8 K C) (la_9 K C))))))))))
abbrev oR (sc : List Int) (s1 s2 s3 s4 s5 s6 s7 s8 s9 s10 s11 s12 s13 s14 s15 s16 : Sl) : Rho := [.val (.scr sc), s1, s2, s3, s4, s5, s6, s7, s8, s9, s10, s11, s12, s13, s14, s15, s16, .un, .un, .un, .un]
theorem turn_ok (h0 : 0 ≤ k) (h1 : k < 1000) (hl : sc.length < 1000) (q : ∀ s1 s2 s3 s4 s5 s6 s7 s8 s9 s10 s11 s12 s13 s14 s15 s16, Δ.nx (oR sc s1 s2 s3 s4 s5 s6 s7 s8 s9 s10 s11 s12 s13 s14 s15 s16)) :
    turnW K C (oR sc (.val (.int k)) s2 s3 s4 s5 s6 s7 s8 s9 s10 s11 s12 s13 s14 s15 s16) Δ := by
  refine seqI (w := la_0 K C) ⟨rfl, sc, k, rfl, h0, h1, hl, fun o ho l => ?_⟩
  refine seqI (w := la_1 K C) ⟨⟨l, _, rfl⟩, rfl, o, rfl, ho, rfl, fun t o2 g h2 => ⟨o2, rfl, ?_⟩⟩
  refine seqI (w := la_2 K C) (o_2 g ?_)
  refine seqI (w := la_3 K C) (o_3 g h2 fun ns o3 s9 hlog h3 => ?_)
  refine seqI (w := la_4 K C) (o_4 ?_)
  refine seqI (w := la_5 K C) (o_5 g hlog h3 fun cs js o4 s9 s10 s11 s12 s13 s14 s15 h4 hI h5 => ?_)
  refine seqI (w := la_6 K C) (o_6 g hlog hI h5 ?_)
  refine seqI (w := la_7 K C) (o_7 h5 ?_)
  refine seqI (w := la_8 K C) (o_8 g hlog hI h5 ?_)
  exact o_9 (K := K) g hlog h4 fun o5 _ => q _ _ _ _ _ _ _ _ _ _ _ _ _ _ _ _
theorem m_law : Sem0 1 21 (sp_law C) (x_law K C) := by
  rintro hl ds Ψ Ξ - ⟨h, ns, rfl, hlen, q⟩
  cases none_of h
  refine seqI ⟨⟨by decide, by decide⟩, ?_⟩
  have loop : ∀ (es : List D) (s1 s2 s3 s4 s5 s6 s7 s8 s9 s10 s11 s12 s13 s14 s15 s16 : Sl), (∀ e ∈ es, ∃ k : Int, e = .int k ∧ 0 ≤ k ∧ k < 1000) → wForL (wgName 1) (turnW K C) es (oR ns s1 s2 s3 s4 s5 s6 s7 s8 s9 s10 s11 s12 s13 s14 s15 s16) { dEnds none Ψ Ξ with nx := fun ρ => wRet (wC (.bl true)) ρ (dEnds none Ψ Ξ) } := by
    intro es
    induction es with
    | nil => exact fun _ _ _ _ _ _ _ _ _ _ _ _ _ _ _ _ _ => q
    | cons e es ih =>
      intro s1 s2 s3 s4 s5 s6 s7 s8 s9 s10 s11 s12 s13 s14 s15 s16 h
      obtain ⟨k, rfl, h0, h1⟩ := h e List.mem_cons_self
      exact turn_ok h0 h1 (by omega) fun _ _ _ _ _ _ _ _ _ _ _ _ _ _ _ _ => ih _ _ _ _ _ _ _ _ _ _ _ _ _ _ _ _ fun e he => h e (List.mem_cons_of_mem _ he)
  refine loop _ .un .un .un .un .un .un .un .un .un .un .un .un .un .un .un .un fun e he => ?_
  obtain ⟨i, hi, rfl⟩ := List.mem_map.mp he
  have hi := List.mem_range.mp hi
  have : (4 : Int).toNat = 4 := rfl
  exact ⟨_, rfl, by omega, by omega⟩
end
end K30
set_option Elab.async false
set_option autoImplicit false
set_option linter.all false
set_option maxRecDepth 100000
set_option maxHeartbeats 3900000
namespace K30
open DL L2 PyProof.Rows PySem PySem.Spec
structure Defs (K : Fg) (mg : Str → Option Value) (C : Cs) : Prop where
  F_is_integer : FunD K "is_integer" "is_integer" (defArgs (top 8)) (defBody (top 8)) (defScope (top 8)) [] [] C.f_is_integer C.d_is_integer
  F_is_below : FunD K "is_below" "is_below" (defArgs (top 9)) (defBody (top 9)) (defScope (top 9)) [] [] C.f_is_below C.d_is_below
  F_is_sequence : FunD K "is_sequence" "is_sequence" (defArgs (top 10)) (defBody (top 10)) (defScope (top 10)) [] [] C.f_is_sequence C.d_is_sequence
  F_is_sequence_of : FunD K "is_sequence_of" "is_sequence_of" (defArgs (top 11)) (defBody (top 11)) (defScope (top 11)) [] [] C.f_is_sequence_of C.d_is_sequence_of
  F_fault_place : FunD K "fault_place" "fault_place" (defArgs (top 12)) (defBody (top 12)) (defScope (top 12)) [] [] C.f_fault_place C.d_fault_place
  F_is_table : FunD K "is_table" "is_table" (defArgs (top 17)) (defBody (top 17)) (defScope (top 17)) [] [] C.f_is_table C.d_is_table
  F_check_tables : FunD K "check_tables" "check_tables" (defArgs (top 18)) (defBody (top 18)) (defScope (top 18)) [] [] C.f_check_tables C.d_check_tables
  F_Machine_init : FunD K "__init__" "Machine.__init__" (defArgs (inClass (top 19) 0)) (defBody (inClass (top 19) 0)) (defScope (inClass (top 19) 0)) [] [] C.f_Machine_init C.d_Machine_init
  F_check_state : FunD K "check_state" "check_state" (defArgs (top 20)) (defBody (top 20)) (defScope (top 20)) [] [] C.f_check_state C.d_check_state
  F_log_fault : FunD K "log_fault" "log_fault" (defArgs (top 21)) (defBody (top 21)) (defScope (top 21)) [] [] C.f_log_fault C.d_log_fault
  F_check_log : FunD K "check_log" "check_log" (defArgs (top 22)) (defBody (top 22)) (defScope (top 22)) [] [] C.f_check_log C.d_check_log
  F_check_age : FunD K "check_age" "check_age" (defArgs (top 24)) (defBody (top 24)) (defScope (top 24)) [] [] C.f_check_age C.d_check_age
  F_ends_by_age : FunD K "ends_by_age" "ends_by_age" (defArgs (top 26)) (defBody (top 26)) (defScope (top 26)) [] [] C.f_ends_by_age C.d_ends_by_age
  F_latest_place : FunD K "latest_place" "latest_place" (defArgs (top 27)) (defBody (top 27)) (defScope (top 27)) [] [] C.f_latest_place C.d_latest_place
  F_return_ages : FunD K "return_ages" "return_ages" (defArgs (top 28)) (defBody (top 28)) (defScope (top 28)) [] [] C.f_return_ages C.d_return_ages
  F_tail_place : FunD K "tail_place" "tail_place" (defArgs (top 29)) (defBody (top 29)) (defScope (top 29)) [] [] C.f_tail_place C.d_tail_place
  F_check_copies : FunD K "check_copies" "check_copies" (defArgs (top 30)) (defBody (top 30)) (defScope (top 30)) [] [] C.f_check_copies C.d_check_copies
  F_needed_place : FunD K "needed_place" "needed_place" (defArgs (top 31)) (defBody (top 31)) (defScope (top 31)) [] [] C.f_needed_place C.d_needed_place
  F_law_box : FunD K "_law_box" "_law_box" (defArgs (top 33)) (defBody (top 33)) (defScope (top 33)) [] [] C.f_law_box C.d_law_box
  F_law_take : FunD K "_law_take" "_law_take" (defArgs (top 34)) (defBody (top 34)) (defScope (top 34)) [] [] C.f_law_take C.d_law_take
  F_law_pick : FunD K "_law_pick" "_law_pick" (defArgs (top 35)) (defBody (top 35)) (defScope (top 35)) [] [] C.f_law_pick C.d_law_pick
  F_law_tables : FunD K "_law_tables" "_law_tables" (defArgs (top 36)) (defBody (top 36)) (defScope (top 36)) [] [] C.f_law_tables C.d_law_tables
  F_law_led : FunD K "_law_led" "_law_led" (defArgs (top 37)) (defBody (top 37)) (defScope (top 37)) [] [] C.f_law_led C.d_law_led
  F_law_refused : FunD K "_law_refused" "_law_refused" (defArgs (top 38)) (defBody (top 38)) (defScope (top 38)) [] [] C.f_law_refused C.d_law_refused
  F_law_strangers_right : FunD K "_law_strangers_right" "_law_strangers_right" (defArgs (top 39)) (defBody (top 39)) (defScope (top 39)) [] [] C.f_law_strangers_right C.d_law_strangers_right
  F_law : FunD K "law" "law" (defArgs (top 40)) (defBody (top 40)) (defScope (top 40)) [] [] C.f_law C.d_law
  K_Machine_init : KBn K C.d_Machine_init ["self", "tables"] 2 [] (fun us _ => us) (fun us _ => us)
  U_check_age : Dn K mg "check_age" C.f_check_age C.d_check_age ["log", "value"] 2
  U_check_copies : Dn K mg "check_copies" C.f_check_copies C.d_check_copies ["machine", "log", "value"] 3
  U_check_log : Dn K mg "check_log" C.f_check_log C.d_check_log ["machine", "value"] 2
  U_check_state : Dn K mg "check_state" C.f_check_state C.d_check_state ["machine", "value"] 2
  U_check_tables : Dn K mg "check_tables" C.f_check_tables C.d_check_tables ["value"] 1
  U_ends_by_age : Dn K mg "ends_by_age" C.f_ends_by_age C.d_ends_by_age ["machine", "log"] 2
  U_fault_place : Dn K mg "fault_place" C.f_fault_place C.d_fault_place ["value", "many"] 2
  U_is_below : Dn K mg "is_below" C.f_is_below C.d_is_below ["value", "many"] 2
  U_is_integer : Dn K mg "is_integer" C.f_is_integer C.d_is_integer ["value"] 1
  U_is_sequence : Dn K mg "is_sequence" C.f_is_sequence C.d_is_sequence ["value"] 1
  U_is_sequence_of : Dn K mg "is_sequence_of" C.f_is_sequence_of C.d_is_sequence_of ["value", "length"] 2
  U_is_table : Dn K mg "is_table" C.f_is_table C.d_is_table ["value"] 1
  U_latest_place : Dn K mg "latest_place" C.f_latest_place C.d_latest_place ["ends", "state", "age"] 3
  U_law_box : Dn K mg "_law_box" C.f_law_box C.d_law_box ["script", "k"] 2
  U_law_led : Dn K mg "_law_led" C.f_law_led C.d_law_led ["tables", "state", "log"] 3
  U_law_pick : Dn K mg "_law_pick" C.f_law_pick C.d_law_pick ["box", "some"] 2
  U_law_refused : Dn K mg "_law_refused" C.f_law_refused C.d_law_refused ["ask"] 1
  U_law_strangers_right : Dn K mg "_law_strangers_right" C.f_law_strangers_right C.d_law_strangers_right ["box", "machine", "log"] 3
  U_law_tables : Dn K mg "_law_tables" C.f_law_tables C.d_law_tables ["box"] 1
  U_law_take : Dn K mg "_law_take" C.f_law_take C.d_law_take ["box", "many"] 2
  U_log_fault : Dn K mg "log_fault" C.f_log_fault C.d_log_fault ["machine", "value"] 2
  U_needed_place : Dn K mg "needed_place" C.f_needed_place C.d_needed_place ["machine", "log", "copies"] 3
  U_return_ages : Dn K mg "return_ages" C.f_return_ages C.d_return_ages ["machine", "log", "state", "age"] 4
  U_tail_place : Dn K mg "tail_place" C.f_tail_place C.d_tail_place ["machine", "log", "state", "age"] 4
  kb_needed_place_210 : KBn K C.d_needed_place ["machine", "log", "copies"] 0 ["copies", "log", "machine"] (@pm_210 Value) (@pm_210 V)
  kb_return_ages_3210 : KBn K C.d_return_ages ["machine", "log", "state", "age"] 0 ["age", "state", "log", "machine"] (@pm_3210 Value) (@pm_3210 V)
  kb_tail_place_3210 : KBn K C.d_tail_place ["machine", "log", "state", "age"] 0 ["age", "state", "log", "machine"] (@pm_3210 Value) (@pm_3210 V)
  fx : Fx K C
section
variable {P : Program} {w : World} {K : Fg} {mg : Str → Option Value} {base : Heap} {t : List (Addr × Str)} {C : Cs}
theorem ok_is_integer (T : Txt P w K mg base t C) (D : Defs K mg C) : FnG P w K mg base 2 C.f_is_integer C.d_is_integer ["value"] (lSp K t 1 (sp_is_integer C)) :=
  defG D.F_is_integer sc_is_integer rfl (fun cdv A outer s H E hcv c => dv_is_integer T cdv A outer s H E c) (fun hl ds Ψ Ξ h1 h2 => m_is_integer hl ds Ψ Ξ h1 h2)
theorem ok_is_below (T : Txt P w K mg base t C) (D : Defs K mg C) : FnG P w K mg base 3 C.f_is_below C.d_is_below ["value", "many"] (lSp K t 2 (sp_is_below C)) :=
  defG D.F_is_below sc_is_below rfl (fun cdv A outer s H E hcv c => dv_is_below T (ok_is_integer T D) D.U_is_integer cdv A outer s H E c) (fun hl ds Ψ Ξ h1 h2 => m_is_below hl ds Ψ Ξ h1 h2)
theorem ok_is_sequence (T : Txt P w K mg base t C) (D : Defs K mg C) : FnG P w K mg base 2 C.f_is_sequence C.d_is_sequence ["value"] (lSp K t 1 (sp_is_sequence C)) :=
  defG D.F_is_sequence sc_is_sequence rfl (fun cdv A outer s H E hcv c => dv_is_sequence T cdv A outer s H E c) (fun hl ds Ψ Ξ h1 h2 => m_is_sequence hl ds Ψ Ξ h1 h2)
theorem ok_is_sequence_of (T : Txt P w K mg base t C) (D : Defs K mg C) : FnG P w K mg base 3 C.f_is_sequence_of C.d_is_sequence_of ["value", "length"] (lSp K t 2 (sp_is_sequence_of C)) :=
  defG D.F_is_sequence_of sc_is_sequence_of rfl (fun cdv A outer s H E hcv c => dv_is_sequence_of T (ok_is_sequence T D) D.U_is_sequence cdv A outer s H E c) (fun hl ds Ψ Ξ h1 h2 => m_is_sequence_of hl ds Ψ Ξ h1 h2)
theorem ok_fault_place (T : Txt P w K mg base t C) (D : Defs K mg C) : FnG P w K mg base 4 C.f_fault_place C.d_fault_place ["value", "many"] (lSp K t 2 (sp_fault_place C)) :=
  defG D.F_fault_place sc_fault_place rfl (fun cdv A outer s H E hcv c => dv_fault_place T (ok_is_below T D) D.U_is_below cdv A outer s H E c) (fun hl ds Ψ Ξ h1 h2 => m_fault_place hl ds Ψ Ξ h1 h2)
theorem ok_is_table (T : Txt P w K mg base t C) (D : Defs K mg C) : FnG P w K mg base 5 C.f_is_table C.d_is_table ["value"] (lSp K t 1 (sp_is_table C)) :=
  defG D.F_is_table sc_is_table rfl (fun cdv A outer s H E hcv c => dv_is_table T (ok_fault_place T D) D.U_fault_place (ok_is_sequence T D) D.U_is_sequence cdv A outer s H E c) (fun hl ds Ψ Ξ h1 h2 => m_is_table hl ds Ψ Ξ h1 h2)
theorem ok_check_tables (T : Txt P w K mg base t C) (D : Defs K mg C) : FnG P w K mg base 6 C.f_check_tables C.d_check_tables ["value"] (lSp K t 1 (sp_check_tables C)) :=
  defG D.F_check_tables sc_check_tables rfl (fun cdv A outer s H E hcv c => dv_check_tables T (ok_is_sequence T D) D.U_is_sequence (ok_is_table T D) D.U_is_table cdv A outer s H E c) (fun hl ds Ψ Ξ h1 h2 => m_check_tables hl ds Ψ Ξ h1 h2)
theorem ok_Machine_init (T : Txt P w K mg base t C) (D : Defs K mg C) : FnG P w K mg base 7 C.f_Machine_init C.d_Machine_init ["self", "tables"] (lSp K t 2 (sp_Machine_init C)) :=
  defG D.F_Machine_init sc_Machine_init rfl (fun cdv A outer s H E hcv c => dv_Machine_init T (ok_check_tables T D) D.U_check_tables cdv A outer s H E c) (fun hl ds Ψ Ξ h1 h2 => m_Machine_init hl ds Ψ Ξ h1 h2)
theorem ok_check_state (T : Txt P w K mg base t C) (D : Defs K mg C) : FnG P w K mg base 4 C.f_check_state C.d_check_state ["machine", "value"] (lSp K t 2 (sp_check_state C)) :=
  defG D.F_check_state sc_check_state rfl (fun cdv A outer s H E hcv c => dv_check_state T (ok_is_below T D) D.U_is_below cdv A outer s H E c) (fun hl ds Ψ Ξ h1 h2 => m_check_state hl ds Ψ Ξ h1 h2)
theorem ok_log_fault (T : Txt P w K mg base t C) (D : Defs K mg C) : FnG P w K mg base 5 C.f_log_fault C.d_log_fault ["machine", "value"] (lSp K t 2 (sp_log_fault C)) :=
  defG D.F_log_fault sc_log_fault rfl (fun cdv A outer s H E hcv c => dv_log_fault T (ok_fault_place T D) D.U_fault_place (ok_is_sequence T D) D.U_is_sequence cdv A outer s H E c) (fun hl ds Ψ Ξ h1 h2 => m_log_fault hl ds Ψ Ξ h1 h2)
theorem ok_check_log (T : Txt P w K mg base t C) (D : Defs K mg C) : FnG P w K mg base 6 C.f_check_log C.d_check_log ["machine", "value"] (lSp K t 2 (sp_check_log C)) :=
  defG D.F_check_log sc_check_log rfl (fun cdv A outer s H E hcv c => dv_check_log T (ok_log_fault T D) D.U_log_fault cdv A outer s H E c) (fun hl ds Ψ Ξ h1 h2 => m_check_log hl ds Ψ Ξ h1 h2)
theorem ok_check_age (T : Txt P w K mg base t C) (D : Defs K mg C) : FnG P w K mg base 4 C.f_check_age C.d_check_age ["log", "value"] (lSp K t 2 (sp_check_age C)) :=
  defG D.F_check_age sc_check_age rfl (fun cdv A outer s H E hcv c => dv_check_age T (ok_is_below T D) D.U_is_below cdv A outer s H E c) (fun hl ds Ψ Ξ h1 h2 => m_check_age hl ds Ψ Ξ h1 h2)
theorem ok_ends_by_age (T : Txt P w K mg base t C) (D : Defs K mg C) : FnG P w K mg base 2 C.f_ends_by_age C.d_ends_by_age ["machine", "log"] (lSp K t 2 (sp_ends_by_age C)) :=
  defG D.F_ends_by_age sc_ends_by_age rfl (fun cdv A outer s H E hcv c => dv_ends_by_age T cdv A outer s H E c) (fun hl ds Ψ Ξ h1 h2 => m_ends_by_age hl ds Ψ Ξ h1 h2)
theorem ok_latest_place (T : Txt P w K mg base t C) (D : Defs K mg C) : FnG P w K mg base 2 C.f_latest_place C.d_latest_place ["ends", "state", "age"] (lSp K t 3 (sp_latest_place C)) :=
  defG D.F_latest_place sc_latest_place rfl (fun cdv A outer s H E hcv c => dv_latest_place T cdv A outer s H E c) (fun hl ds Ψ Ξ h1 h2 => m_latest_place hl ds Ψ Ξ h1 h2)
theorem ok_return_ages (T : Txt P w K mg base t C) (D : Defs K mg C) : FnG P w K mg base 7 C.f_return_ages C.d_return_ages ["machine", "log", "state", "age"] (lSp K t 4 (sp_return_ages C)) :=
  defG D.F_return_ages sc_return_ages rfl (fun cdv A outer s H E hcv c => dv_return_ages T (ok_check_age T D) D.U_check_age (ok_check_log T D) D.U_check_log (ok_check_state T D) D.U_check_state cdv A outer s H E c) (fun hl ds Ψ Ξ h1 h2 => m_return_ages hl ds Ψ Ξ h1 h2)
theorem ok_tail_place (T : Txt P w K mg base t C) (D : Defs K mg C) : FnG P w K mg base 7 C.f_tail_place C.d_tail_place ["machine", "log", "state", "age"] (lSp K t 4 (sp_tail_place C)) :=
  defG D.F_tail_place sc_tail_place rfl (fun cdv A outer s H E hcv c => dv_tail_place T (ok_check_age T D) D.U_check_age (ok_check_log T D) D.U_check_log (ok_check_state T D) D.U_check_state (ok_ends_by_age T D) D.U_ends_by_age (ok_latest_place T D) D.U_latest_place cdv A outer s H E c) (fun hl ds Ψ Ξ h1 h2 => m_tail_place hl ds Ψ Ξ h1 h2)
theorem ok_check_copies (T : Txt P w K mg base t C) (D : Defs K mg C) : FnG P w K mg base 4 C.f_check_copies C.d_check_copies ["machine", "log", "value"] (lSp K t 3 (sp_check_copies C)) :=
  defG D.F_check_copies sc_check_copies rfl (fun cdv A outer s H E hcv c => dv_check_copies T (ok_is_below T D) D.U_is_below (ok_is_sequence T D) D.U_is_sequence (ok_is_sequence_of T D) D.U_is_sequence_of cdv A outer s H E c) (fun hl ds Ψ Ξ h1 h2 => m_check_copies hl ds Ψ Ξ h1 h2)
theorem ok_needed_place (T : Txt P w K mg base t C) (D : Defs K mg C) : FnG P w K mg base 7 C.f_needed_place C.d_needed_place ["machine", "log", "copies"] (lSp K t 3 (sp_needed_place C)) :=
  defG D.F_needed_place sc_needed_place rfl (fun cdv A outer s H E hcv c => dv_needed_place T (ok_check_copies T D) D.U_check_copies (ok_check_log T D) D.U_check_log (ok_ends_by_age T D) D.U_ends_by_age (ok_latest_place T D) D.U_latest_place cdv A outer s H E c) (fun hl ds Ψ Ξ h1 h2 => m_needed_place hl ds Ψ Ξ h1 h2)
theorem ok_law_box (T : Txt P w K mg base t C) (D : Defs K mg C) : FnG P w K mg base 2 C.f_law_box C.d_law_box ["script", "k"] (lSpO K t 2 (so_law_box C)) :=
  defO D.F_law_box sc_law_box rfl (fun cdv A outer s H E hcv c => dv_law_box T cdv A outer s H E c) (fun ds Ψ h1 h2 => m_law_box ds Ψ h1 h2)
theorem ok_law_take (T : Txt P w K mg base t C) (D : Defs K mg C) : FnG P w K mg base 2 C.f_law_take C.d_law_take ["box", "many"] (lSp K t 2 (sp_law_take C)) :=
  defG D.F_law_take sc_law_take rfl (fun cdv A outer s H E hcv c => dv_law_take T cdv A outer s H E c) (fun hl ds Ψ Ξ h1 h2 => m_law_take hl ds Ψ Ξ h1 h2)
theorem ok_law_pick (T : Txt P w K mg base t C) (D : Defs K mg C) : FnG P w K mg base 3 C.f_law_pick C.d_law_pick ["box", "some"] (lSp K t 2 (sp_law_pick C)) :=
  defG D.F_law_pick sc_law_pick rfl (fun cdv A outer s H E hcv c => dv_law_pick T (ok_law_take T D) D.U_law_take cdv A outer s H E c) (fun hl ds Ψ Ξ h1 h2 => m_law_pick hl ds Ψ Ξ h1 h2)
theorem ok_law_tables (T : Txt P w K mg base t C) (D : Defs K mg C) : FnG P w K mg base 4 C.f_law_tables C.d_law_tables ["box"] (lSp K t 1 (sp_law_tables C)) :=
  defG D.F_law_tables sc_law_tables rfl (fun cdv A outer s H E hcv c => dv_law_tables T (ok_law_pick T D) D.U_law_pick (ok_law_take T D) D.U_law_take cdv A outer s H E c) (fun hl ds Ψ Ξ h1 h2 => m_law_tables hl ds Ψ Ξ h1 h2)
theorem ok_law_led (T : Txt P w K mg base t C) (D : Defs K mg C) : FnG P w K mg base 2 C.f_law_led C.d_law_led ["tables", "state", "log"] (lSp K t 3 (sp_law_led C)) :=
  defG D.F_law_led sc_law_led rfl (fun cdv A outer s H E hcv c => dv_law_led T cdv A outer s H E c) (fun hl ds Ψ Ξ h1 h2 => m_law_led hl ds Ψ Ξ h1 h2)
theorem ok_law_strangers_right (T : Txt P w K mg base t C) (D : Defs K mg C) : FnG P w K mg base 10 C.f_law_strangers_right C.d_law_strangers_right ["box", "machine", "log"] (lSp K t 3 (sp_law_strangers_right C)) :=
  defG D.F_law_strangers_right sc_law_strangers_right rfl (fun cdv A outer s H E hcv c => dv_law_strangers_right T D.F_law_refused D.U_law_refused (ok_law_pick T D) D.U_law_pick (ok_needed_place T D) D.U_needed_place (ok_return_ages T D) D.U_return_ages (ok_tail_place T D) D.U_tail_place cdv A outer s H E hcv c) (fun hl ds Ψ Ξ h1 h2 => m_law_strangers_right D.fx hl ds Ψ Ξ h1 h2)
theorem ok_law (T : Txt P w K mg base t C) (D : Defs K mg C) : FnG P w K mg base 11 C.f_law C.d_law ["script"] (lSp K t 1 (sp_law C)) :=
  defG D.F_law sc_law rfl (fun cdv A outer s H E hcv c => dv_law T D.kb_needed_place_210 D.kb_return_ages_3210 D.kb_tail_place_3210 (ok_Machine_init T D) D.K_Machine_init (ok_law_box T D) D.U_law_box (ok_law_led T D) D.U_law_led (ok_law_strangers_right T D) D.U_law_strangers_right (ok_law_tables T D) D.U_law_tables (ok_law_take T D) D.U_law_take (ok_needed_place T D) D.U_needed_place (ok_return_ages T D) D.U_return_ages (ok_tail_place T D) D.U_tail_place cdv A outer s H E c) (fun hl ds Ψ Ξ h1 h2 => m_law hl ds Ψ Ξ h1 h2)
end
end K30
set_option Elab.async false
set_option linter.all false
set_option maxRecDepth 100000
set_option maxHeartbeats 3900000
namespace K30
open DL L2 PyProof.Rows PySem PySem.Spec
theorem fund {K : Fg} {x qual : Str} {st : Stmt} {f : Addr} {oc : Value} {od an : Option Addr} {osl : Array (Option Value)} {kV doc pm cdv ct : Value}
    (l : K.lookup f = some ⟨oc, od, .func (PySem.W.fnOf x qual (defArgs st) (defBody st) (defScope st) .none kV doc pm an cdv ct), osl⟩) (c : PySem.W.codeIn K cdv qual = true) (k : PySem.W.keepIn K (.ref f) = true) :
    FunD K x qual (defArgs st) (defBody st) (defScope st) [] [] f (PySem.W.fnOf x qual (defArgs st) (defBody st) (defScope st) .none kV doc pm an cdv ct) :=
  ⟨⟨oc, od, .none, kV, doc, pm, an, cdv, ct, osl, rfl, l, c, .inl ⟨rfl, rfl⟩, .inl rfl⟩, k⟩
set_option autoImplicit true in
theorem all_mk {P : Program} {w : World} {K : Fg} {mg : Str → Option Value} {h : Heap} {c_sr p_sr : Addr} (X : K.In h) (G : h.Ns mainGlobals mg) (hfa : mg "law" = some (.ref fa))
    (a_AgeError : PySem.W.nsIn K mainGlobals "AgeError" = some (some (.ref A_AgeError)))
    (a_BadMachine : PySem.W.nsIn K mainGlobals "BadMachine" = some (some (.ref A_BadMachine)))
    (a_BadLog : PySem.W.nsIn K mainGlobals "BadLog" = some (some (.ref A_BadLog)))
    (a_BadCopy : PySem.W.nsIn K mainGlobals "BadCopy" = some (some (.ref A_BadCopy)))
    (a_Refused : PySem.W.nsIn K mainGlobals "Refused" = some (some (.ref A_Refused)))
    (a_NoState : PySem.W.nsIn K mainGlobals "NoState" = some (some (.ref A_NoState)))
    (a_Machine : PySem.W.nsIn K mainGlobals "Machine" = some (some (.ref A_Machine)))
    (a_MOST_TABLES : PySem.W.nsIn K mainGlobals "MOST_TABLES" = some (some (.int 8 t_MOST_TABLES)))
    (a_MOST_STATES : PySem.W.nsIn K mainGlobals "MOST_STATES" = some (some (.int 12 t_MOST_STATES)))
    (a_MOST_DEEDS : PySem.W.nsIn K mainGlobals "MOST_DEEDS" = some (some (.int 10000 t_MOST_DEEDS)))
    (a_fi_BadMachine : PySem.W.findIn K (.ref A_BadMachine) "__init__" = some (some (.ref f_fi_BadMachine)))
    (l_fi_BadMachine : K.lookup f_fi_BadMachine = some ⟨oc_fi_BadMachine, od_fi_BadMachine, .func (PySem.W.fnOf "__init__" "BadMachine.__init__" (defArgs (inClass (top 2) 0)) (defBody (inClass (top 2) 0)) (defScope (inClass (top 2) 0)) .none kV_fi_BadMachine dc_fi_BadMachine pm_fi_BadMachine an_fi_BadMachine cd_fi_BadMachine ct_fi_BadMachine), sl_fi_BadMachine⟩)
    (c_fi_BadMachine : PySem.W.codeIn K cd_fi_BadMachine "BadMachine.__init__" = true)
    (k_fi_BadMachine : PySem.W.keepIn K (.ref f_fi_BadMachine) = true)
    (ti_BadMachine : PySem.W.typeIn K (.ref f_fi_BadMachine) = some (.type "function"))
    (cls_BadMachine : K.lookup A_BadMachine = some (excClassObj nm_BadMachine q_BadMachine A_BadMachine N_BadMachine bs_BadMachine bm_BadMachine true sn_BadMachine sub_BadMachine ab_BadMachine col_BadMachine dd_BadMachine k0_BadMachine k1_BadMachine k2_BadMachine k3_BadMachine k5_BadMachine "ValueError.__new__"))
    (rv_BadMachine : PySem.HandSPX.refsVE bm_BadMachine = true)
    (sa_BadMachine : PySem.W.findIn K (.ref A_BadMachine) "__setattr__" = some (some (.builtin "object.__setattr__")))
    (ex_BadMachine : PySem.W.subIn K (.ref A_BadMachine) (.type "BaseException") = some true)
    (ty_BadMachine : PySem.W.typeIn K (.ref A_BadMachine) = some (.type "type"))
    (kc_BadMachine : PySem.W.keepIn K (.ref A_BadMachine) = true)
    (no_BadMachine : PySem.W.findIn K (.ref A_BadMachine) "at" = some none)
    (ga_BadMachine : PySem.W.findIn K (.ref A_BadMachine) "__getattribute__" = some (some (.builtin "BaseException.__getattribute__")))
    (gg_BadMachine : PySem.W.findIn K (.ref A_BadMachine) "__getattr__" = some none)
    (hd_BadMachine : PySem.W.hasDictIn K A_BadMachine = true)
    (ha_BadMachine : PySem.W.findIn K (.ref A_BadMachine) "__class__" = some (some (.builtin "object.__class__")))
    (hm_BadMachine : PySem.W.mroIn K A_BadMachine (.type "object") = some true)
    (a_fi_BadLog : PySem.W.findIn K (.ref A_BadLog) "__init__" = some (some (.ref f_fi_BadLog)))
    (l_fi_BadLog : K.lookup f_fi_BadLog = some ⟨oc_fi_BadLog, od_fi_BadLog, .func (PySem.W.fnOf "__init__" "BadLog.__init__" (defArgs (inClass (top 3) 0)) (defBody (inClass (top 3) 0)) (defScope (inClass (top 3) 0)) .none kV_fi_BadLog dc_fi_BadLog pm_fi_BadLog an_fi_BadLog cd_fi_BadLog ct_fi_BadLog), sl_fi_BadLog⟩)
    (c_fi_BadLog : PySem.W.codeIn K cd_fi_BadLog "BadLog.__init__" = true)
    (k_fi_BadLog : PySem.W.keepIn K (.ref f_fi_BadLog) = true)
    (ti_BadLog : PySem.W.typeIn K (.ref f_fi_BadLog) = some (.type "function"))
    (cls_BadLog : K.lookup A_BadLog = some (excClassObj nm_BadLog q_BadLog A_BadLog N_BadLog bs_BadLog bm_BadLog true sn_BadLog sub_BadLog ab_BadLog col_BadLog dd_BadLog k0_BadLog k1_BadLog k2_BadLog k3_BadLog k5_BadLog "ValueError.__new__"))
    (rv_BadLog : PySem.HandSPX.refsVE bm_BadLog = true)
    (sa_BadLog : PySem.W.findIn K (.ref A_BadLog) "__setattr__" = some (some (.builtin "object.__setattr__")))
    (ex_BadLog : PySem.W.subIn K (.ref A_BadLog) (.type "BaseException") = some true)
    (ty_BadLog : PySem.W.typeIn K (.ref A_BadLog) = some (.type "type"))
    (kc_BadLog : PySem.W.keepIn K (.ref A_BadLog) = true)
    (no_BadLog : PySem.W.findIn K (.ref A_BadLog) "at" = some none)
    (ga_BadLog : PySem.W.findIn K (.ref A_BadLog) "__getattribute__" = some (some (.builtin "BaseException.__getattribute__")))
    (gg_BadLog : PySem.W.findIn K (.ref A_BadLog) "__getattr__" = some none)
    (hd_BadLog : PySem.W.hasDictIn K A_BadLog = true)
    (ha_BadLog : PySem.W.findIn K (.ref A_BadLog) "__class__" = some (some (.builtin "object.__class__")))
    (hm_BadLog : PySem.W.mroIn K A_BadLog (.type "object") = some true)
    (a_fi_BadCopy : PySem.W.findIn K (.ref A_BadCopy) "__init__" = some (some (.ref f_fi_BadCopy)))
    (l_fi_BadCopy : K.lookup f_fi_BadCopy = some ⟨oc_fi_BadCopy, od_fi_BadCopy, .func (PySem.W.fnOf "__init__" "BadCopy.__init__" (defArgs (inClass (top 4) 0)) (defBody (inClass (top 4) 0)) (defScope (inClass (top 4) 0)) .none kV_fi_BadCopy dc_fi_BadCopy pm_fi_BadCopy an_fi_BadCopy cd_fi_BadCopy ct_fi_BadCopy), sl_fi_BadCopy⟩)
    (c_fi_BadCopy : PySem.W.codeIn K cd_fi_BadCopy "BadCopy.__init__" = true)
    (k_fi_BadCopy : PySem.W.keepIn K (.ref f_fi_BadCopy) = true)
    (ti_BadCopy : PySem.W.typeIn K (.ref f_fi_BadCopy) = some (.type "function"))
    (cls_BadCopy : K.lookup A_BadCopy = some (excClassObj nm_BadCopy q_BadCopy A_BadCopy N_BadCopy bs_BadCopy bm_BadCopy true sn_BadCopy sub_BadCopy ab_BadCopy col_BadCopy dd_BadCopy k0_BadCopy k1_BadCopy k2_BadCopy k3_BadCopy k5_BadCopy "ValueError.__new__"))
    (rv_BadCopy : PySem.HandSPX.refsVE bm_BadCopy = true)
    (sa_BadCopy : PySem.W.findIn K (.ref A_BadCopy) "__setattr__" = some (some (.builtin "object.__setattr__")))
    (ex_BadCopy : PySem.W.subIn K (.ref A_BadCopy) (.type "BaseException") = some true)
    (ty_BadCopy : PySem.W.typeIn K (.ref A_BadCopy) = some (.type "type"))
    (kc_BadCopy : PySem.W.keepIn K (.ref A_BadCopy) = true)
    (no_BadCopy : PySem.W.findIn K (.ref A_BadCopy) "at" = some none)
    (ga_BadCopy : PySem.W.findIn K (.ref A_BadCopy) "__getattribute__" = some (some (.builtin "BaseException.__getattribute__")))
    (gg_BadCopy : PySem.W.findIn K (.ref A_BadCopy) "__getattr__" = some none)
    (hd_BadCopy : PySem.W.hasDictIn K A_BadCopy = true)
    (ha_BadCopy : PySem.W.findIn K (.ref A_BadCopy) "__class__" = some (some (.builtin "object.__class__")))
    (hm_BadCopy : PySem.W.mroIn K A_BadCopy (.type "object") = some true)
    (a_fi_Refused : PySem.W.findIn K (.ref A_Refused) "__init__" = some (some (.ref f_fi_Refused)))
    (l_fi_Refused : K.lookup f_fi_Refused = some ⟨oc_fi_Refused, od_fi_Refused, .func (PySem.W.fnOf "__init__" "Refused.__init__" (defArgs (inClass (top 5) 0)) (defBody (inClass (top 5) 0)) (defScope (inClass (top 5) 0)) .none kV_fi_Refused dc_fi_Refused pm_fi_Refused an_fi_Refused cd_fi_Refused ct_fi_Refused), sl_fi_Refused⟩)
    (c_fi_Refused : PySem.W.codeIn K cd_fi_Refused "Refused.__init__" = true)
    (k_fi_Refused : PySem.W.keepIn K (.ref f_fi_Refused) = true)
    (ti_Refused : PySem.W.typeIn K (.ref f_fi_Refused) = some (.type "function"))
    (cls_Refused : K.lookup A_Refused = some (excClassObj nm_Refused q_Refused A_Refused N_Refused bs_Refused bm_Refused true sn_Refused sub_Refused ab_Refused col_Refused dd_Refused k0_Refused k1_Refused k2_Refused k3_Refused k5_Refused "ValueError.__new__"))
    (rv_Refused : PySem.HandSPX.refsVE bm_Refused = true)
    (sa_Refused : PySem.W.findIn K (.ref A_Refused) "__setattr__" = some (some (.builtin "object.__setattr__")))
    (ex_Refused : PySem.W.subIn K (.ref A_Refused) (.type "BaseException") = some true)
    (ty_Refused : PySem.W.typeIn K (.ref A_Refused) = some (.type "type"))
    (kc_Refused : PySem.W.keepIn K (.ref A_Refused) = true)
    (no_Refused : PySem.W.findIn K (.ref A_Refused) "at" = some none)
    (ga_Refused : PySem.W.findIn K (.ref A_Refused) "__getattribute__" = some (some (.builtin "BaseException.__getattribute__")))
    (gg_Refused : PySem.W.findIn K (.ref A_Refused) "__getattr__" = some none)
    (hd_Refused : PySem.W.hasDictIn K A_Refused = true)
    (ha_Refused : PySem.W.findIn K (.ref A_Refused) "__class__" = some (some (.builtin "object.__class__")))
    (hm_Refused : PySem.W.mroIn K A_Refused (.type "object") = some true)
    (a_fi_NoState : PySem.W.findIn K (.ref A_NoState) "__init__" = some (some (.ref f_fi_NoState)))
    (l_fi_NoState : K.lookup f_fi_NoState = some ⟨oc_fi_NoState, od_fi_NoState, .func (PySem.W.fnOf "__init__" "NoState.__init__" (defArgs (inClass (top 6) 0)) (defBody (inClass (top 6) 0)) (defScope (inClass (top 6) 0)) .none kV_fi_NoState dc_fi_NoState pm_fi_NoState an_fi_NoState cd_fi_NoState ct_fi_NoState), sl_fi_NoState⟩)
    (c_fi_NoState : PySem.W.codeIn K cd_fi_NoState "NoState.__init__" = true)
    (k_fi_NoState : PySem.W.keepIn K (.ref f_fi_NoState) = true)
    (ti_NoState : PySem.W.typeIn K (.ref f_fi_NoState) = some (.type "function"))
    (cls_NoState : K.lookup A_NoState = some (excClassObj nm_NoState q_NoState A_NoState N_NoState bs_NoState DLK.keTail true sn_NoState sub_NoState ab_NoState col_NoState dd_NoState k0_NoState k1_NoState k2_NoState k3_NoState k5_NoState "LookupError.__new__"))
    (sa_NoState : PySem.W.findIn K (.ref A_NoState) "__setattr__" = some (some (.builtin "object.__setattr__")))
    (ex_NoState : PySem.W.subIn K (.ref A_NoState) (.type "BaseException") = some true)
    (ty_NoState : PySem.W.typeIn K (.ref A_NoState) = some (.type "type"))
    (kc_NoState : PySem.W.keepIn K (.ref A_NoState) = true)
    (no_NoState : PySem.W.findIn K (.ref A_NoState) "state" = some none)
    (ga_NoState : PySem.W.findIn K (.ref A_NoState) "__getattribute__" = some (some (.builtin "BaseException.__getattribute__")))
    (gg_NoState : PySem.W.findIn K (.ref A_NoState) "__getattr__" = some none)
    (hd_NoState : PySem.W.hasDictIn K A_NoState = true)
    (ha_NoState : PySem.W.findIn K (.ref A_NoState) "__class__" = some (some (.builtin "object.__class__")))
    (hm_NoState : PySem.W.mroIn K A_NoState (.type "object") = some true)
    (hn : PySem.W.specialIn K (.builtin "object.__class__") "__get__" = some (some (.builtin "getset_descriptor.__get__")))
    (ht : PySem.W.takesIn K (.builtin "object.__class__") = some true)
    (a_is_integer : PySem.W.nsIn K mainGlobals "is_integer" = some (some (.ref f_is_integer)))
    (l_is_integer : K.lookup f_is_integer = some ⟨oc_is_integer, od_is_integer, .func (PySem.W.fnOf "is_integer" "is_integer" (defArgs (top 8)) (defBody (top 8)) (defScope (top 8)) .none kV_is_integer dc_is_integer pm_is_integer an_is_integer cd_is_integer ct_is_integer), sl_is_integer⟩)
    (c_is_integer : PySem.W.codeIn K cd_is_integer "is_integer" = true)
    (k_is_integer : PySem.W.keepIn K (.ref f_is_integer) = true)
    (a_is_below : PySem.W.nsIn K mainGlobals "is_below" = some (some (.ref f_is_below)))
    (l_is_below : K.lookup f_is_below = some ⟨oc_is_below, od_is_below, .func (PySem.W.fnOf "is_below" "is_below" (defArgs (top 9)) (defBody (top 9)) (defScope (top 9)) .none kV_is_below dc_is_below pm_is_below an_is_below cd_is_below ct_is_below), sl_is_below⟩)
    (c_is_below : PySem.W.codeIn K cd_is_below "is_below" = true)
    (k_is_below : PySem.W.keepIn K (.ref f_is_below) = true)
    (a_is_sequence : PySem.W.nsIn K mainGlobals "is_sequence" = some (some (.ref f_is_sequence)))
    (l_is_sequence : K.lookup f_is_sequence = some ⟨oc_is_sequence, od_is_sequence, .func (PySem.W.fnOf "is_sequence" "is_sequence" (defArgs (top 10)) (defBody (top 10)) (defScope (top 10)) .none kV_is_sequence dc_is_sequence pm_is_sequence an_is_sequence cd_is_sequence ct_is_sequence), sl_is_sequence⟩)
    (c_is_sequence : PySem.W.codeIn K cd_is_sequence "is_sequence" = true)
    (k_is_sequence : PySem.W.keepIn K (.ref f_is_sequence) = true)
    (a_is_sequence_of : PySem.W.nsIn K mainGlobals "is_sequence_of" = some (some (.ref f_is_sequence_of)))
    (l_is_sequence_of : K.lookup f_is_sequence_of = some ⟨oc_is_sequence_of, od_is_sequence_of, .func (PySem.W.fnOf "is_sequence_of" "is_sequence_of" (defArgs (top 11)) (defBody (top 11)) (defScope (top 11)) .none kV_is_sequence_of dc_is_sequence_of pm_is_sequence_of an_is_sequence_of cd_is_sequence_of ct_is_sequence_of), sl_is_sequence_of⟩)
    (c_is_sequence_of : PySem.W.codeIn K cd_is_sequence_of "is_sequence_of" = true)
    (k_is_sequence_of : PySem.W.keepIn K (.ref f_is_sequence_of) = true)
    (a_fault_place : PySem.W.nsIn K mainGlobals "fault_place" = some (some (.ref f_fault_place)))
    (l_fault_place : K.lookup f_fault_place = some ⟨oc_fault_place, od_fault_place, .func (PySem.W.fnOf "fault_place" "fault_place" (defArgs (top 12)) (defBody (top 12)) (defScope (top 12)) .none kV_fault_place dc_fault_place pm_fault_place an_fault_place cd_fault_place ct_fault_place), sl_fault_place⟩)
    (c_fault_place : PySem.W.codeIn K cd_fault_place "fault_place" = true)
    (k_fault_place : PySem.W.keepIn K (.ref f_fault_place) = true)
    (a_is_table : PySem.W.nsIn K mainGlobals "is_table" = some (some (.ref f_is_table)))
    (l_is_table : K.lookup f_is_table = some ⟨oc_is_table, od_is_table, .func (PySem.W.fnOf "is_table" "is_table" (defArgs (top 17)) (defBody (top 17)) (defScope (top 17)) .none kV_is_table dc_is_table pm_is_table an_is_table cd_is_table ct_is_table), sl_is_table⟩)
    (c_is_table : PySem.W.codeIn K cd_is_table "is_table" = true)
    (k_is_table : PySem.W.keepIn K (.ref f_is_table) = true)
    (a_check_tables : PySem.W.nsIn K mainGlobals "check_tables" = some (some (.ref f_check_tables)))
    (l_check_tables : K.lookup f_check_tables = some ⟨oc_check_tables, od_check_tables, .func (PySem.W.fnOf "check_tables" "check_tables" (defArgs (top 18)) (defBody (top 18)) (defScope (top 18)) .none kV_check_tables dc_check_tables pm_check_tables an_check_tables cd_check_tables ct_check_tables), sl_check_tables⟩)
    (c_check_tables : PySem.W.codeIn K cd_check_tables "check_tables" = true)
    (k_check_tables : PySem.W.keepIn K (.ref f_check_tables) = true)
    (a_Machine_init : PySem.W.findIn K (.ref A_Machine) "__init__" = some (some (.ref f_Machine_init)))
    (i_Machine_init : PySem.W.isFn K (.ref f_Machine_init) = true)
    (l_Machine_init : K.lookup f_Machine_init = some ⟨oc_Machine_init, od_Machine_init, .func (PySem.W.fnOf "__init__" "Machine.__init__" (defArgs (inClass (top 19) 0)) (defBody (inClass (top 19) 0)) (defScope (inClass (top 19) 0)) .none kV_Machine_init dc_Machine_init pm_Machine_init an_Machine_init cd_Machine_init ct_Machine_init), sl_Machine_init⟩)
    (c_Machine_init : PySem.W.codeIn K cd_Machine_init "Machine.__init__" = true)
    (k_Machine_init : PySem.W.keepIn K (.ref f_Machine_init) = true)
    (a_check_state : PySem.W.nsIn K mainGlobals "check_state" = some (some (.ref f_check_state)))
    (l_check_state : K.lookup f_check_state = some ⟨oc_check_state, od_check_state, .func (PySem.W.fnOf "check_state" "check_state" (defArgs (top 20)) (defBody (top 20)) (defScope (top 20)) .none kV_check_state dc_check_state pm_check_state an_check_state cd_check_state ct_check_state), sl_check_state⟩)
    (c_check_state : PySem.W.codeIn K cd_check_state "check_state" = true)
    (k_check_state : PySem.W.keepIn K (.ref f_check_state) = true)
    (a_log_fault : PySem.W.nsIn K mainGlobals "log_fault" = some (some (.ref f_log_fault)))
    (l_log_fault : K.lookup f_log_fault = some ⟨oc_log_fault, od_log_fault, .func (PySem.W.fnOf "log_fault" "log_fault" (defArgs (top 21)) (defBody (top 21)) (defScope (top 21)) .none kV_log_fault dc_log_fault pm_log_fault an_log_fault cd_log_fault ct_log_fault), sl_log_fault⟩)
    (c_log_fault : PySem.W.codeIn K cd_log_fault "log_fault" = true)
    (k_log_fault : PySem.W.keepIn K (.ref f_log_fault) = true)
    (a_check_log : PySem.W.nsIn K mainGlobals "check_log" = some (some (.ref f_check_log)))
    (l_check_log : K.lookup f_check_log = some ⟨oc_check_log, od_check_log, .func (PySem.W.fnOf "check_log" "check_log" (defArgs (top 22)) (defBody (top 22)) (defScope (top 22)) .none kV_check_log dc_check_log pm_check_log an_check_log cd_check_log ct_check_log), sl_check_log⟩)
    (c_check_log : PySem.W.codeIn K cd_check_log "check_log" = true)
    (k_check_log : PySem.W.keepIn K (.ref f_check_log) = true)
    (a_check_age : PySem.W.nsIn K mainGlobals "check_age" = some (some (.ref f_check_age)))
    (l_check_age : K.lookup f_check_age = some ⟨oc_check_age, od_check_age, .func (PySem.W.fnOf "check_age" "check_age" (defArgs (top 24)) (defBody (top 24)) (defScope (top 24)) .none kV_check_age dc_check_age pm_check_age an_check_age cd_check_age ct_check_age), sl_check_age⟩)
    (c_check_age : PySem.W.codeIn K cd_check_age "check_age" = true)
    (k_check_age : PySem.W.keepIn K (.ref f_check_age) = true)
    (a_ends_by_age : PySem.W.nsIn K mainGlobals "ends_by_age" = some (some (.ref f_ends_by_age)))
    (l_ends_by_age : K.lookup f_ends_by_age = some ⟨oc_ends_by_age, od_ends_by_age, .func (PySem.W.fnOf "ends_by_age" "ends_by_age" (defArgs (top 26)) (defBody (top 26)) (defScope (top 26)) .none kV_ends_by_age dc_ends_by_age pm_ends_by_age an_ends_by_age cd_ends_by_age ct_ends_by_age), sl_ends_by_age⟩)
    (c_ends_by_age : PySem.W.codeIn K cd_ends_by_age "ends_by_age" = true)
    (k_ends_by_age : PySem.W.keepIn K (.ref f_ends_by_age) = true)
    (a_latest_place : PySem.W.nsIn K mainGlobals "latest_place" = some (some (.ref f_latest_place)))
    (l_latest_place : K.lookup f_latest_place = some ⟨oc_latest_place, od_latest_place, .func (PySem.W.fnOf "latest_place" "latest_place" (defArgs (top 27)) (defBody (top 27)) (defScope (top 27)) .none kV_latest_place dc_latest_place pm_latest_place an_latest_place cd_latest_place ct_latest_place), sl_latest_place⟩)
    (c_latest_place : PySem.W.codeIn K cd_latest_place "latest_place" = true)
    (k_latest_place : PySem.W.keepIn K (.ref f_latest_place) = true)
    (a_return_ages : PySem.W.nsIn K mainGlobals "return_ages" = some (some (.ref f_return_ages)))
    (l_return_ages : K.lookup f_return_ages = some ⟨oc_return_ages, od_return_ages, .func (PySem.W.fnOf "return_ages" "return_ages" (defArgs (top 28)) (defBody (top 28)) (defScope (top 28)) .none kV_return_ages dc_return_ages pm_return_ages an_return_ages cd_return_ages ct_return_ages), sl_return_ages⟩)
    (c_return_ages : PySem.W.codeIn K cd_return_ages "return_ages" = true)
    (k_return_ages : PySem.W.keepIn K (.ref f_return_ages) = true)
    (a_tail_place : PySem.W.nsIn K mainGlobals "tail_place" = some (some (.ref f_tail_place)))
    (l_tail_place : K.lookup f_tail_place = some ⟨oc_tail_place, od_tail_place, .func (PySem.W.fnOf "tail_place" "tail_place" (defArgs (top 29)) (defBody (top 29)) (defScope (top 29)) .none kV_tail_place dc_tail_place pm_tail_place an_tail_place cd_tail_place ct_tail_place), sl_tail_place⟩)
    (c_tail_place : PySem.W.codeIn K cd_tail_place "tail_place" = true)
    (k_tail_place : PySem.W.keepIn K (.ref f_tail_place) = true)
    (a_check_copies : PySem.W.nsIn K mainGlobals "check_copies" = some (some (.ref f_check_copies)))
    (l_check_copies : K.lookup f_check_copies = some ⟨oc_check_copies, od_check_copies, .func (PySem.W.fnOf "check_copies" "check_copies" (defArgs (top 30)) (defBody (top 30)) (defScope (top 30)) .none kV_check_copies dc_check_copies pm_check_copies an_check_copies cd_check_copies ct_check_copies), sl_check_copies⟩)
    (c_check_copies : PySem.W.codeIn K cd_check_copies "check_copies" = true)
    (k_check_copies : PySem.W.keepIn K (.ref f_check_copies) = true)
    (a_needed_place : PySem.W.nsIn K mainGlobals "needed_place" = some (some (.ref f_needed_place)))
    (l_needed_place : K.lookup f_needed_place = some ⟨oc_needed_place, od_needed_place, .func (PySem.W.fnOf "needed_place" "needed_place" (defArgs (top 31)) (defBody (top 31)) (defScope (top 31)) .none kV_needed_place dc_needed_place pm_needed_place an_needed_place cd_needed_place ct_needed_place), sl_needed_place⟩)
    (c_needed_place : PySem.W.codeIn K cd_needed_place "needed_place" = true)
    (k_needed_place : PySem.W.keepIn K (.ref f_needed_place) = true)
    (a_law_box : PySem.W.nsIn K mainGlobals "_law_box" = some (some (.ref f_law_box)))
    (l_law_box : K.lookup f_law_box = some ⟨oc_law_box, od_law_box, .func (PySem.W.fnOf "_law_box" "_law_box" (defArgs (top 33)) (defBody (top 33)) (defScope (top 33)) .none kV_law_box dc_law_box pm_law_box an_law_box cd_law_box ct_law_box), sl_law_box⟩)
    (c_law_box : PySem.W.codeIn K cd_law_box "_law_box" = true)
    (k_law_box : PySem.W.keepIn K (.ref f_law_box) = true)
    (a_law_take : PySem.W.nsIn K mainGlobals "_law_take" = some (some (.ref f_law_take)))
    (l_law_take : K.lookup f_law_take = some ⟨oc_law_take, od_law_take, .func (PySem.W.fnOf "_law_take" "_law_take" (defArgs (top 34)) (defBody (top 34)) (defScope (top 34)) .none kV_law_take dc_law_take pm_law_take an_law_take cd_law_take ct_law_take), sl_law_take⟩)
    (c_law_take : PySem.W.codeIn K cd_law_take "_law_take" = true)
    (k_law_take : PySem.W.keepIn K (.ref f_law_take) = true)
    (a_law_pick : PySem.W.nsIn K mainGlobals "_law_pick" = some (some (.ref f_law_pick)))
    (l_law_pick : K.lookup f_law_pick = some ⟨oc_law_pick, od_law_pick, .func (PySem.W.fnOf "_law_pick" "_law_pick" (defArgs (top 35)) (defBody (top 35)) (defScope (top 35)) .none kV_law_pick dc_law_pick pm_law_pick an_law_pick cd_law_pick ct_law_pick), sl_law_pick⟩)
    (c_law_pick : PySem.W.codeIn K cd_law_pick "_law_pick" = true)
    (k_law_pick : PySem.W.keepIn K (.ref f_law_pick) = true)
    (a_law_tables : PySem.W.nsIn K mainGlobals "_law_tables" = some (some (.ref f_law_tables)))
    (l_law_tables : K.lookup f_law_tables = some ⟨oc_law_tables, od_law_tables, .func (PySem.W.fnOf "_law_tables" "_law_tables" (defArgs (top 36)) (defBody (top 36)) (defScope (top 36)) .none kV_law_tables dc_law_tables pm_law_tables an_law_tables cd_law_tables ct_law_tables), sl_law_tables⟩)
    (c_law_tables : PySem.W.codeIn K cd_law_tables "_law_tables" = true)
    (k_law_tables : PySem.W.keepIn K (.ref f_law_tables) = true)
    (a_law_led : PySem.W.nsIn K mainGlobals "_law_led" = some (some (.ref f_law_led)))
    (l_law_led : K.lookup f_law_led = some ⟨oc_law_led, od_law_led, .func (PySem.W.fnOf "_law_led" "_law_led" (defArgs (top 37)) (defBody (top 37)) (defScope (top 37)) .none kV_law_led dc_law_led pm_law_led an_law_led cd_law_led ct_law_led), sl_law_led⟩)
    (c_law_led : PySem.W.codeIn K cd_law_led "_law_led" = true)
    (k_law_led : PySem.W.keepIn K (.ref f_law_led) = true)
    (a_law_refused : PySem.W.nsIn K mainGlobals "_law_refused" = some (some (.ref f_law_refused)))
    (l_law_refused : K.lookup f_law_refused = some ⟨oc_law_refused, od_law_refused, .func (PySem.W.fnOf "_law_refused" "_law_refused" (defArgs (top 38)) (defBody (top 38)) (defScope (top 38)) .none kV_law_refused dc_law_refused pm_law_refused an_law_refused cd_law_refused ct_law_refused), sl_law_refused⟩)
    (c_law_refused : PySem.W.codeIn K cd_law_refused "_law_refused" = true)
    (k_law_refused : PySem.W.keepIn K (.ref f_law_refused) = true)
    (a_law_strangers_right : PySem.W.nsIn K mainGlobals "_law_strangers_right" = some (some (.ref f_law_strangers_right)))
    (l_law_strangers_right : K.lookup f_law_strangers_right = some ⟨oc_law_strangers_right, od_law_strangers_right, .func (PySem.W.fnOf "_law_strangers_right" "_law_strangers_right" (defArgs (top 39)) (defBody (top 39)) (defScope (top 39)) .none kV_law_strangers_right dc_law_strangers_right pm_law_strangers_right an_law_strangers_right (.ref c_sr) ct_law_strangers_right), sl_law_strangers_right⟩)
    (c_law_strangers_right : PySem.W.codeIn K (.ref c_sr) "_law_strangers_right" = true)
    (k_law_strangers_right : PySem.W.keepIn K (.ref f_law_strangers_right) = true)
    (a_law : PySem.W.nsIn K mainGlobals "law" = some (some (.ref f_law)))
    (l_law : K.lookup f_law = some ⟨oc_law, od_law, .func (PySem.W.fnOf "law" "law" (defArgs (top 40)) (defBody (top 40)) (defScope (top 40)) .none kV_law dc_law pm_law an_law cd_law ct_law), sl_law⟩)
    (c_law : PySem.W.codeIn K cd_law "law" = true)
    (k_law : PySem.W.keepIn K (.ref f_law) = true)
    (pg : PySem.W.plainGet K A_Machine Str.empty = true)
    (hd : PySem.W.hasDictIn K A_Machine = true)
    (po : PySem.W.plainOver K A_Machine = true)
    (sa : PySem.W.findIn K (.ref A_Machine) "__setattr__" = some (some (.builtin "object.__setattr__")))
    (mk : PySem.W.makesIn K A_Machine = true)
    (kc : PySem.W.keepIn K (.ref A_Machine) = true)
    (ha : PySem.W.findIn K (.ref A_Machine) "__class__" = some (some (.builtin "object.__class__")))
    (hm : PySem.W.mroIn K A_Machine (.type "object") = some true)
    (n_tables : PySem.W.findIn K (.ref A_Machine) "tables" = some none)
    (n_deeds : PySem.W.findIn K (.ref A_Machine) "deeds" = some none)
    (n_states : PySem.W.findIn K (.ref A_Machine) "states" = some none)
    (z_KeyError : PySem.W.nsIn K mainGlobals "KeyError" = some none)
    (z_abs : PySem.W.nsIn K mainGlobals "abs" = some none)
    (z_bool : PySem.W.nsIn K mainGlobals "bool" = some none)
    (z_enumerate : PySem.W.nsIn K mainGlobals "enumerate" = some none)
    (z_int : PySem.W.nsIn K mainGlobals "int" = some none)
    (z_isinstance : PySem.W.nsIn K mainGlobals "isinstance" = some none)
    (z_len : PySem.W.nsIn K mainGlobals "len" = some none)
    (z_list : PySem.W.nsIn K mainGlobals "list" = some none)
    (z_max : PySem.W.nsIn K mainGlobals "max" = some none)
    (z_min : PySem.W.nsIn K mainGlobals "min" = some none)
    (z_range : PySem.W.nsIn K mainGlobals "range" = some none)
    (z_repr : PySem.W.nsIn K mainGlobals "repr" = some none)
    (z_reversed : PySem.W.nsIn K mainGlobals "reversed" = some none)
    (z_tuple : PySem.W.nsIn K mainGlobals "tuple" = some none)
    (x_e11 : PySem.W.exmOne K (.ref A_BadLog) (.ref A_BadLog) = some true)
    (x_e21 : PySem.W.exmOne K (.ref A_BadCopy) (.ref A_BadLog) = some false)
    (x_e22 : PySem.W.exmOne K (.ref A_BadCopy) (.ref A_BadCopy) = some true)
    (x_e31 : PySem.W.exmOne K (.ref A_Refused) (.ref A_BadLog) = some false)
    (x_e32 : PySem.W.exmOne K (.ref A_Refused) (.ref A_BadCopy) = some false)
    (x_e33 : PySem.W.exmOne K (.ref A_Refused) (.ref A_Refused) = some true)
    (x_e41 : PySem.W.exmOne K (.ref A_NoState) (.ref A_BadLog) = some false)
    (x_e42 : PySem.W.exmOne K (.ref A_NoState) (.ref A_BadCopy) = some false)
    (x_e43 : PySem.W.exmOne K (.ref A_NoState) (.ref A_Refused) = some false)
    (x_e44 : PySem.W.exmOne K (.ref A_NoState) (.ref A_NoState) = some true)
    (x_k1 : PySem.W.kitOne K (.ref A_BadLog) (.ref A_AgeError) = some true)
    (x_k2 : PySem.W.kitOne K (.ref A_BadCopy) (.ref A_AgeError) = some true)
    (x_k3 : PySem.W.kitOne K (.ref A_Refused) (.ref A_AgeError) = some true)
    (x_k4 : PySem.W.kitOne K (.ref A_NoState) (.type "KeyError") = some true) :
    ∃ fd : FuncData, (∀ (s : Shared) (u : Value), BindsTo s fd ⟨[u], []⟩ [("script", u)]) ∧ ∀ base : Heap, K.In base → base.Ns mainGlobals mg → (∀ p ∈ [(c_sr, p_sr)], LamX.TabB base mg p.1 p.2) → FnG P w K mg base 11 fa fd ["script"] (lSp K [(p_sr, ("_law_strangers_right" : Str) ++ ".<locals>." ++ "<lambda>")] 1 (spLaw fun ns => ns.length ≤ 63)) := by
  have e := hfa.symm.trans (PySem.W.mg_of X G a_law)
  cases e
  let C : Cs := { AgeError := A_AgeError, BadMachine := A_BadMachine, BadLog := A_BadLog, BadCopy := A_BadCopy, Refused := A_Refused, NoState := A_NoState, Machine := A_Machine, fi_BadMachine := f_fi_BadMachine, fd_BadMachine := (PySem.W.fnOf "__init__" "BadMachine.__init__" (defArgs (inClass (top 2) 0)) (defBody (inClass (top 2) 0)) (defScope (inClass (top 2) 0)) .none kV_fi_BadMachine dc_fi_BadMachine pm_fi_BadMachine an_fi_BadMachine cd_fi_BadMachine ct_fi_BadMachine), fi_BadLog := f_fi_BadLog, fd_BadLog := (PySem.W.fnOf "__init__" "BadLog.__init__" (defArgs (inClass (top 3) 0)) (defBody (inClass (top 3) 0)) (defScope (inClass (top 3) 0)) .none kV_fi_BadLog dc_fi_BadLog pm_fi_BadLog an_fi_BadLog cd_fi_BadLog ct_fi_BadLog), fi_BadCopy := f_fi_BadCopy, fd_BadCopy := (PySem.W.fnOf "__init__" "BadCopy.__init__" (defArgs (inClass (top 4) 0)) (defBody (inClass (top 4) 0)) (defScope (inClass (top 4) 0)) .none kV_fi_BadCopy dc_fi_BadCopy pm_fi_BadCopy an_fi_BadCopy cd_fi_BadCopy ct_fi_BadCopy), fi_Refused := f_fi_Refused, fd_Refused := (PySem.W.fnOf "__init__" "Refused.__init__" (defArgs (inClass (top 5) 0)) (defBody (inClass (top 5) 0)) (defScope (inClass (top 5) 0)) .none kV_fi_Refused dc_fi_Refused pm_fi_Refused an_fi_Refused cd_fi_Refused ct_fi_Refused), fi_NoState := f_fi_NoState, fd_NoState := (PySem.W.fnOf "__init__" "NoState.__init__" (defArgs (inClass (top 6) 0)) (defBody (inClass (top 6) 0)) (defScope (inClass (top 6) 0)) .none kV_fi_NoState dc_fi_NoState pm_fi_NoState an_fi_NoState cd_fi_NoState ct_fi_NoState), f_is_integer := f_is_integer, d_is_integer := (PySem.W.fnOf "is_integer" "is_integer" (defArgs (top 8)) (defBody (top 8)) (defScope (top 8)) .none kV_is_integer dc_is_integer pm_is_integer an_is_integer cd_is_integer ct_is_integer), f_is_below := f_is_below, d_is_below := (PySem.W.fnOf "is_below" "is_below" (defArgs (top 9)) (defBody (top 9)) (defScope (top 9)) .none kV_is_below dc_is_below pm_is_below an_is_below cd_is_below ct_is_below), f_is_sequence := f_is_sequence, d_is_sequence := (PySem.W.fnOf "is_sequence" "is_sequence" (defArgs (top 10)) (defBody (top 10)) (defScope (top 10)) .none kV_is_sequence dc_is_sequence pm_is_sequence an_is_sequence cd_is_sequence ct_is_sequence), f_is_sequence_of := f_is_sequence_of, d_is_sequence_of := (PySem.W.fnOf "is_sequence_of" "is_sequence_of" (defArgs (top 11)) (defBody (top 11)) (defScope (top 11)) .none kV_is_sequence_of dc_is_sequence_of pm_is_sequence_of an_is_sequence_of cd_is_sequence_of ct_is_sequence_of), f_fault_place := f_fault_place, d_fault_place := (PySem.W.fnOf "fault_place" "fault_place" (defArgs (top 12)) (defBody (top 12)) (defScope (top 12)) .none kV_fault_place dc_fault_place pm_fault_place an_fault_place cd_fault_place ct_fault_place), f_is_table := f_is_table, d_is_table := (PySem.W.fnOf "is_table" "is_table" (defArgs (top 17)) (defBody (top 17)) (defScope (top 17)) .none kV_is_table dc_is_table pm_is_table an_is_table cd_is_table ct_is_table), f_check_tables := f_check_tables, d_check_tables := (PySem.W.fnOf "check_tables" "check_tables" (defArgs (top 18)) (defBody (top 18)) (defScope (top 18)) .none kV_check_tables dc_check_tables pm_check_tables an_check_tables cd_check_tables ct_check_tables), f_Machine_init := f_Machine_init, d_Machine_init := (PySem.W.fnOf "__init__" "Machine.__init__" (defArgs (inClass (top 19) 0)) (defBody (inClass (top 19) 0)) (defScope (inClass (top 19) 0)) .none kV_Machine_init dc_Machine_init pm_Machine_init an_Machine_init cd_Machine_init ct_Machine_init), f_check_state := f_check_state, d_check_state := (PySem.W.fnOf "check_state" "check_state" (defArgs (top 20)) (defBody (top 20)) (defScope (top 20)) .none kV_check_state dc_check_state pm_check_state an_check_state cd_check_state ct_check_state), f_log_fault := f_log_fault, d_log_fault := (PySem.W.fnOf "log_fault" "log_fault" (defArgs (top 21)) (defBody (top 21)) (defScope (top 21)) .none kV_log_fault dc_log_fault pm_log_fault an_log_fault cd_log_fault ct_log_fault), f_check_log := f_check_log, d_check_log := (PySem.W.fnOf "check_log" "check_log" (defArgs (top 22)) (defBody (top 22)) (defScope (top 22)) .none kV_check_log dc_check_log pm_check_log an_check_log cd_check_log ct_check_log), f_check_age := f_check_age, d_check_age := (PySem.W.fnOf "check_age" "check_age" (defArgs (top 24)) (defBody (top 24)) (defScope (top 24)) .none kV_check_age dc_check_age pm_check_age an_check_age cd_check_age ct_check_age), f_ends_by_age := f_ends_by_age, d_ends_by_age := (PySem.W.fnOf "ends_by_age" "ends_by_age" (defArgs (top 26)) (defBody (top 26)) (defScope (top 26)) .none kV_ends_by_age dc_ends_by_age pm_ends_by_age an_ends_by_age cd_ends_by_age ct_ends_by_age), f_latest_place := f_latest_place, d_latest_place := (PySem.W.fnOf "latest_place" "latest_place" (defArgs (top 27)) (defBody (top 27)) (defScope (top 27)) .none kV_latest_place dc_latest_place pm_latest_place an_latest_place cd_latest_place ct_latest_place), f_return_ages := f_return_ages, d_return_ages := (PySem.W.fnOf "return_ages" "return_ages" (defArgs (top 28)) (defBody (top 28)) (defScope (top 28)) .none kV_return_ages dc_return_ages pm_return_ages an_return_ages cd_return_ages ct_return_ages), f_tail_place := f_tail_place, d_tail_place := (PySem.W.fnOf "tail_place" "tail_place" (defArgs (top 29)) (defBody (top 29)) (defScope (top 29)) .none kV_tail_place dc_tail_place pm_tail_place an_tail_place cd_tail_place ct_tail_place), f_check_copies := f_check_copies, d_check_copies := (PySem.W.fnOf "check_copies" "check_copies" (defArgs (top 30)) (defBody (top 30)) (defScope (top 30)) .none kV_check_copies dc_check_copies pm_check_copies an_check_copies cd_check_copies ct_check_copies), f_needed_place := f_needed_place, d_needed_place := (PySem.W.fnOf "needed_place" "needed_place" (defArgs (top 31)) (defBody (top 31)) (defScope (top 31)) .none kV_needed_place dc_needed_place pm_needed_place an_needed_place cd_needed_place ct_needed_place), f_law_box := f_law_box, d_law_box := (PySem.W.fnOf "_law_box" "_law_box" (defArgs (top 33)) (defBody (top 33)) (defScope (top 33)) .none kV_law_box dc_law_box pm_law_box an_law_box cd_law_box ct_law_box), f_law_take := f_law_take, d_law_take := (PySem.W.fnOf "_law_take" "_law_take" (defArgs (top 34)) (defBody (top 34)) (defScope (top 34)) .none kV_law_take dc_law_take pm_law_take an_law_take cd_law_take ct_law_take), f_law_pick := f_law_pick, d_law_pick := (PySem.W.fnOf "_law_pick" "_law_pick" (defArgs (top 35)) (defBody (top 35)) (defScope (top 35)) .none kV_law_pick dc_law_pick pm_law_pick an_law_pick cd_law_pick ct_law_pick), f_law_tables := f_law_tables, d_law_tables := (PySem.W.fnOf "_law_tables" "_law_tables" (defArgs (top 36)) (defBody (top 36)) (defScope (top 36)) .none kV_law_tables dc_law_tables pm_law_tables an_law_tables cd_law_tables ct_law_tables), f_law_led := f_law_led, d_law_led := (PySem.W.fnOf "_law_led" "_law_led" (defArgs (top 37)) (defBody (top 37)) (defScope (top 37)) .none kV_law_led dc_law_led pm_law_led an_law_led cd_law_led ct_law_led), f_law_refused := f_law_refused, d_law_refused := (PySem.W.fnOf "_law_refused" "_law_refused" (defArgs (top 38)) (defBody (top 38)) (defScope (top 38)) .none kV_law_refused dc_law_refused pm_law_refused an_law_refused cd_law_refused ct_law_refused), f_law_strangers_right := f_law_strangers_right, d_law_strangers_right := (PySem.W.fnOf "_law_strangers_right" "_law_strangers_right" (defArgs (top 39)) (defBody (top 39)) (defScope (top 39)) .none kV_law_strangers_right dc_law_strangers_right pm_law_strangers_right an_law_strangers_right (.ref c_sr) ct_law_strangers_right), f_law := fa, d_law := (PySem.W.fnOf "law" "law" (defArgs (top 40)) (defBody (top 40)) (defScope (top 40)) .none kV_law dc_law pm_law an_law cd_law ct_law), c_law_strangers_right := c_sr, p_law_strangers_right := p_sr, t_MOST_TABLES := t_MOST_TABLES, t_MOST_STATES := t_MOST_STATES, t_MOST_DEEDS := t_MOST_DEEDS }
  have F_is_integer := fund (st := top 8) l_is_integer c_is_integer k_is_integer
  have b_is_integer : Binds K C.d_is_integer ["value"] [] := .all fun us hl => match us, hl with | [_], _ => rfl
  have F_is_below := fund (st := top 9) l_is_below c_is_below k_is_below
  have b_is_below : Binds K C.d_is_below ["value", "many"] [] := .all fun us hl => match us, hl with | [_, _], _ => rfl
  have F_is_sequence := fund (st := top 10) l_is_sequence c_is_sequence k_is_sequence
  have b_is_sequence : Binds K C.d_is_sequence ["value"] [] := .all fun us hl => match us, hl with | [_], _ => rfl
  have F_is_sequence_of := fund (st := top 11) l_is_sequence_of c_is_sequence_of k_is_sequence_of
  have b_is_sequence_of : Binds K C.d_is_sequence_of ["value", "length"] [] := .all fun us hl => match us, hl with | [_, _], _ => rfl
  have F_fault_place := fund (st := top 12) l_fault_place c_fault_place k_fault_place
  have b_fault_place : Binds K C.d_fault_place ["value", "many"] [] := .all fun us hl => match us, hl with | [_, _], _ => rfl
  have F_is_table := fund (st := top 17) l_is_table c_is_table k_is_table
  have b_is_table : Binds K C.d_is_table ["value"] [] := .all fun us hl => match us, hl with | [_], _ => rfl
  have F_check_tables := fund (st := top 18) l_check_tables c_check_tables k_check_tables
  have b_check_tables : Binds K C.d_check_tables ["value"] [] := .all fun us hl => match us, hl with | [_], _ => rfl
  have F_Machine_init := fund (st := inClass (top 19) 0) l_Machine_init c_Machine_init k_Machine_init
  have b_Machine_init : Binds K C.d_Machine_init ["self", "tables"] [] := .all fun us hl => match us, hl with | [_, _], _ => rfl
  have F_check_state := fund (st := top 20) l_check_state c_check_state k_check_state
  have b_check_state : Binds K C.d_check_state ["machine", "value"] [] := .all fun us hl => match us, hl with | [_, _], _ => rfl
  have F_log_fault := fund (st := top 21) l_log_fault c_log_fault k_log_fault
  have b_log_fault : Binds K C.d_log_fault ["machine", "value"] [] := .all fun us hl => match us, hl with | [_, _], _ => rfl
  have F_check_log := fund (st := top 22) l_check_log c_check_log k_check_log
  have b_check_log : Binds K C.d_check_log ["machine", "value"] [] := .all fun us hl => match us, hl with | [_, _], _ => rfl
  have F_check_age := fund (st := top 24) l_check_age c_check_age k_check_age
  have b_check_age : Binds K C.d_check_age ["log", "value"] [] := .all fun us hl => match us, hl with | [_, _], _ => rfl
  have F_ends_by_age := fund (st := top 26) l_ends_by_age c_ends_by_age k_ends_by_age
  have b_ends_by_age : Binds K C.d_ends_by_age ["machine", "log"] [] := .all fun us hl => match us, hl with | [_, _], _ => rfl
  have F_latest_place := fund (st := top 27) l_latest_place c_latest_place k_latest_place
  have b_latest_place : Binds K C.d_latest_place ["ends", "state", "age"] [] := .all fun us hl => match us, hl with | [_, _, _], _ => rfl
  have F_return_ages := fund (st := top 28) l_return_ages c_return_ages k_return_ages
  have b_return_ages : Binds K C.d_return_ages ["machine", "log", "state", "age"] [] := .all fun us hl => match us, hl with | [_, _, _, _], _ => rfl
  have F_tail_place := fund (st := top 29) l_tail_place c_tail_place k_tail_place
  have b_tail_place : Binds K C.d_tail_place ["machine", "log", "state", "age"] [] := .all fun us hl => match us, hl with | [_, _, _, _], _ => rfl
  have F_check_copies := fund (st := top 30) l_check_copies c_check_copies k_check_copies
  have b_check_copies : Binds K C.d_check_copies ["machine", "log", "value"] [] := .all fun us hl => match us, hl with | [_, _, _], _ => rfl
  have F_needed_place := fund (st := top 31) l_needed_place c_needed_place k_needed_place
  have b_needed_place : Binds K C.d_needed_place ["machine", "log", "copies"] [] := .all fun us hl => match us, hl with | [_, _, _], _ => rfl
  have F_law_box := fund (st := top 33) l_law_box c_law_box k_law_box
  have b_law_box : Binds K C.d_law_box ["script", "k"] [] := .all fun us hl => match us, hl with | [_, _], _ => rfl
  have F_law_take := fund (st := top 34) l_law_take c_law_take k_law_take
  have b_law_take : Binds K C.d_law_take ["box", "many"] [] := .all fun us hl => match us, hl with | [_, _], _ => rfl
  have F_law_pick := fund (st := top 35) l_law_pick c_law_pick k_law_pick
  have b_law_pick : Binds K C.d_law_pick ["box", "some"] [] := .all fun us hl => match us, hl with | [_, _], _ => rfl
  have F_law_tables := fund (st := top 36) l_law_tables c_law_tables k_law_tables
  have b_law_tables : Binds K C.d_law_tables ["box"] [] := .all fun us hl => match us, hl with | [_], _ => rfl
  have F_law_led := fund (st := top 37) l_law_led c_law_led k_law_led
  have b_law_led : Binds K C.d_law_led ["tables", "state", "log"] [] := .all fun us hl => match us, hl with | [_, _, _], _ => rfl
  have F_law_refused := fund (st := top 38) l_law_refused c_law_refused k_law_refused
  have b_law_refused : Binds K C.d_law_refused ["ask"] [] := .all fun us hl => match us, hl with | [_], _ => rfl
  have F_law_strangers_right := fund (st := top 39) l_law_strangers_right c_law_strangers_right k_law_strangers_right
  have b_law_strangers_right : Binds K C.d_law_strangers_right ["box", "machine", "log"] [] := .all fun us hl => match us, hl with | [_, _, _], _ => rfl
  have F_law := fund (st := top 40) l_law c_law k_law
  have b_law : Binds K C.d_law ["script"] [] := .all fun us hl => match us, hl with | [_], _ => rfl
  have F_fi_BadMachine := fund (st := inClass (top 2) 0) l_fi_BadMachine c_fi_BadMachine k_fi_BadMachine
  have b_fi_BadMachine : Binds K C.fd_BadMachine ["self", "at"] [] := .all fun us hl => match us, hl with | [_, _], _ => rfl
  have s_fi_BadMachine : FnScope ["self", "at"] ["self", "at"] (defScope (inClass (top 2) 0)) := ⟨rfl, rfl, rfl, by decide +kernel, rfl, by decide +kernel, by decide +kernel⟩
  have ec_BadMachine : ExcC K A_BadMachine := ⟨ga_BadMachine, gg_BadMachine, ex_BadMachine, hd_BadMachine, ha_BadMachine, hn, ht, hm_BadMachine⟩
  have F_fi_BadLog := fund (st := inClass (top 3) 0) l_fi_BadLog c_fi_BadLog k_fi_BadLog
  have b_fi_BadLog : Binds K C.fd_BadLog ["self", "at"] [] := .all fun us hl => match us, hl with | [_, _], _ => rfl
  have s_fi_BadLog : FnScope ["self", "at"] ["self", "at"] (defScope (inClass (top 3) 0)) := ⟨rfl, rfl, rfl, by decide +kernel, rfl, by decide +kernel, by decide +kernel⟩
  have ec_BadLog : ExcC K A_BadLog := ⟨ga_BadLog, gg_BadLog, ex_BadLog, hd_BadLog, ha_BadLog, hn, ht, hm_BadLog⟩
  have F_fi_BadCopy := fund (st := inClass (top 4) 0) l_fi_BadCopy c_fi_BadCopy k_fi_BadCopy
  have b_fi_BadCopy : Binds K C.fd_BadCopy ["self", "at"] [] := .all fun us hl => match us, hl with | [_, _], _ => rfl
  have s_fi_BadCopy : FnScope ["self", "at"] ["self", "at"] (defScope (inClass (top 4) 0)) := ⟨rfl, rfl, rfl, by decide +kernel, rfl, by decide +kernel, by decide +kernel⟩
  have ec_BadCopy : ExcC K A_BadCopy := ⟨ga_BadCopy, gg_BadCopy, ex_BadCopy, hd_BadCopy, ha_BadCopy, hn, ht, hm_BadCopy⟩
  have F_fi_Refused := fund (st := inClass (top 5) 0) l_fi_Refused c_fi_Refused k_fi_Refused
  have b_fi_Refused : Binds K C.fd_Refused ["self", "at"] [] := .all fun us hl => match us, hl with | [_, _], _ => rfl
  have s_fi_Refused : FnScope ["self", "at"] ["self", "at"] (defScope (inClass (top 5) 0)) := ⟨rfl, rfl, rfl, by decide +kernel, rfl, by decide +kernel, by decide +kernel⟩
  have ec_Refused : ExcC K A_Refused := ⟨ga_Refused, gg_Refused, ex_Refused, hd_Refused, ha_Refused, hn, ht, hm_Refused⟩
  have F_fi_NoState := fund (st := inClass (top 6) 0) l_fi_NoState c_fi_NoState k_fi_NoState
  have b_fi_NoState : Binds K C.fd_NoState ["self", "state"] [] := .all fun us hl => match us, hl with | [_, _], _ => rfl
  have s_fi_NoState : FnScope ["self", "state"] ["self", "state"] (defScope (inClass (top 6) 0)) := ⟨rfl, rfl, rfl, by decide +kernel, rfl, by decide +kernel, by decide +kernel⟩
  have ec_NoState : ExcC K A_NoState := ⟨ga_NoState, gg_NoState, ex_NoState, hd_NoState, ha_NoState, hn, ht, hm_NoState⟩
  have co_sr : codeOf8 K f_law_strangers_right = some (.ref c_sr) := by
    unfold codeOf8
    rw [l_law_strangers_right]
  have TT : ∀ base : Heap, (∀ p ∈ [(c_sr, p_sr)], LamX.TabB base mg p.1 p.2) → Txt P w K mg base [(p_sr, ("_law_strangers_right" : Str) ++ ".<locals>." ++ "<lambda>")] C := fun base hTB => {
    b_KeyError := PySem.W.mg_none_of X G z_KeyError,
    b_abs := PySem.W.mg_none_of X G z_abs,
    b_bool := PySem.W.mg_none_of X G z_bool,
    b_enumerate := PySem.W.mg_none_of X G z_enumerate,
    b_int := PySem.W.mg_none_of X G z_int,
    b_isinstance := PySem.W.mg_none_of X G z_isinstance,
    b_len := PySem.W.mg_none_of X G z_len,
    b_list := PySem.W.mg_none_of X G z_list,
    b_max := PySem.W.mg_none_of X G z_max,
    b_min := PySem.W.mg_none_of X G z_min,
    b_range := PySem.W.mg_none_of X G z_range,
    b_repr := PySem.W.mg_none_of X G z_repr,
    b_reversed := PySem.W.mg_none_of X G z_reversed,
    b_tuple := PySem.W.mg_none_of X G z_tuple,
    MOST_TABLES := PySem.W.mg_of X G a_MOST_TABLES,
    MOST_STATES := PySem.W.mg_of X G a_MOST_STATES,
    MOST_DEEDS := PySem.W.mg_of X G a_MOST_DEEDS,
    AgeError := PySem.W.mg_of X G a_AgeError,
    BadMachine := PySem.W.mg_of X G a_BadMachine,
    BadLog := PySem.W.mg_of X G a_BadLog,
    BadCopy := PySem.W.mg_of X G a_BadCopy,
    Refused := PySem.W.mg_of X G a_Refused,
    NoState := PySem.W.mg_of X G a_NoState,
    Machine := PySem.W.mg_of X G a_Machine,
    cl_Machine := ⟨pg, hd, po, sa⟩,
    ic_Machine := ⟨⟨pg, hd, po, sa⟩, ha.symm, hn.symm, ht.symm, hm.symm⟩,
    mk_Machine := ⟨mk, a_Machine_init, i_Machine_init, kc⟩,
    na_Machine_tables := n_tables,
    na_Machine_deeds := n_deeds,
    na_Machine_states := n_states,
    er_BadMachine := ⟨.inl ⟨⟨_, _, _, _, _, _, _, _, _, _, _, _, _, _, _, cls_BadMachine, rv_BadMachine⟩, sa_BadMachine, ex_BadMachine, ty_BadMachine, kc_BadMachine⟩, a_fi_BadMachine, ti_BadMachine, no_BadMachine⟩,
    in_BadMachine := fun k => ini_ok F_fi_BadMachine s_fi_BadMachine (.inl rfl) (.inl rfl),
    bi_BadMachine := b_fi_BadMachine,
    xf_BadMachine := ⟨ga_BadMachine, gg_BadMachine, ex_BadMachine, hd_BadMachine⟩,
    no_BadMachine := no_BadMachine,
    ec_BadMachine := ec_BadMachine,
    er_BadLog := ⟨.inl ⟨⟨_, _, _, _, _, _, _, _, _, _, _, _, _, _, _, cls_BadLog, rv_BadLog⟩, sa_BadLog, ex_BadLog, ty_BadLog, kc_BadLog⟩, a_fi_BadLog, ti_BadLog, no_BadLog⟩,
    in_BadLog := fun k => ini_ok F_fi_BadLog s_fi_BadLog (.inl rfl) (.inl rfl),
    bi_BadLog := b_fi_BadLog,
    xf_BadLog := ⟨ga_BadLog, gg_BadLog, ex_BadLog, hd_BadLog⟩,
    no_BadLog := no_BadLog,
    ec_BadLog := ec_BadLog,
    er_BadCopy := ⟨.inl ⟨⟨_, _, _, _, _, _, _, _, _, _, _, _, _, _, _, cls_BadCopy, rv_BadCopy⟩, sa_BadCopy, ex_BadCopy, ty_BadCopy, kc_BadCopy⟩, a_fi_BadCopy, ti_BadCopy, no_BadCopy⟩,
    in_BadCopy := fun k => ini_ok F_fi_BadCopy s_fi_BadCopy (.inl rfl) (.inl rfl),
    bi_BadCopy := b_fi_BadCopy,
    xf_BadCopy := ⟨ga_BadCopy, gg_BadCopy, ex_BadCopy, hd_BadCopy⟩,
    no_BadCopy := no_BadCopy,
    ec_BadCopy := ec_BadCopy,
    er_Refused := ⟨.inl ⟨⟨_, _, _, _, _, _, _, _, _, _, _, _, _, _, _, cls_Refused, rv_Refused⟩, sa_Refused, ex_Refused, ty_Refused, kc_Refused⟩, a_fi_Refused, ti_Refused, no_Refused⟩,
    in_Refused := fun k => ini_ok F_fi_Refused s_fi_Refused (.inl rfl) (.inl rfl),
    bi_Refused := b_fi_Refused,
    xf_Refused := ⟨ga_Refused, gg_Refused, ex_Refused, hd_Refused⟩,
    no_Refused := no_Refused,
    ec_Refused := ec_Refused,
    er_NoState := ⟨.inr ⟨⟨_, _, _, _, _, _, _, _, _, _, _, _, _, _, cls_NoState⟩, sa_NoState, ex_NoState, ty_NoState, kc_NoState⟩, a_fi_NoState, ti_NoState, no_NoState⟩,
    in_NoState := fun k => ini_ok F_fi_NoState s_fi_NoState (.inl rfl) (.inl rfl),
    bi_NoState := b_fi_NoState,
    xf_NoState := ⟨ga_NoState, gg_NoState, ex_NoState, hd_NoState⟩,
    no_NoState := no_NoState,
    ec_NoState := ec_NoState,
    co_law_strangers_right := co_sr,
    tb_law_strangers_right := hTB _ (List.mem_singleton_self _),
    tm_law_strangers_right := List.mem_singleton_self _,
    tu_law_strangers_right := fun p hp _ => by rw [List.mem_singleton.mp hp] }
  have DD : Defs K mg C := {
    F_is_integer := F_is_integer,
    F_is_below := F_is_below,
    F_is_sequence := F_is_sequence,
    F_is_sequence_of := F_is_sequence_of,
    F_fault_place := F_fault_place,
    F_is_table := F_is_table,
    F_check_tables := F_check_tables,
    F_Machine_init := F_Machine_init,
    F_check_state := F_check_state,
    F_log_fault := F_log_fault,
    F_check_log := F_check_log,
    F_check_age := F_check_age,
    F_ends_by_age := F_ends_by_age,
    F_latest_place := F_latest_place,
    F_return_ages := F_return_ages,
    F_tail_place := F_tail_place,
    F_check_copies := F_check_copies,
    F_needed_place := F_needed_place,
    F_law_box := F_law_box,
    F_law_take := F_law_take,
    F_law_pick := F_law_pick,
    F_law_tables := F_law_tables,
    F_law_led := F_law_led,
    F_law_refused := F_law_refused,
    F_law_strangers_right := F_law_strangers_right,
    F_law := F_law,
    K_Machine_init := kb_of b_Machine_init rfl,
    U_check_age := ⟨PySem.W.mg_of X G a_check_age, k_check_age, kb_of b_check_age rfl⟩,
    U_check_copies := ⟨PySem.W.mg_of X G a_check_copies, k_check_copies, kb_of b_check_copies rfl⟩,
    U_check_log := ⟨PySem.W.mg_of X G a_check_log, k_check_log, kb_of b_check_log rfl⟩,
    U_check_state := ⟨PySem.W.mg_of X G a_check_state, k_check_state, kb_of b_check_state rfl⟩,
    U_check_tables := ⟨PySem.W.mg_of X G a_check_tables, k_check_tables, kb_of b_check_tables rfl⟩,
    U_ends_by_age := ⟨PySem.W.mg_of X G a_ends_by_age, k_ends_by_age, kb_of b_ends_by_age rfl⟩,
    U_fault_place := ⟨PySem.W.mg_of X G a_fault_place, k_fault_place, kb_of b_fault_place rfl⟩,
    U_is_below := ⟨PySem.W.mg_of X G a_is_below, k_is_below, kb_of b_is_below rfl⟩,
    U_is_integer := ⟨PySem.W.mg_of X G a_is_integer, k_is_integer, kb_of b_is_integer rfl⟩,
    U_is_sequence := ⟨PySem.W.mg_of X G a_is_sequence, k_is_sequence, kb_of b_is_sequence rfl⟩,
    U_is_sequence_of := ⟨PySem.W.mg_of X G a_is_sequence_of, k_is_sequence_of, kb_of b_is_sequence_of rfl⟩,
    U_is_table := ⟨PySem.W.mg_of X G a_is_table, k_is_table, kb_of b_is_table rfl⟩,
    U_latest_place := ⟨PySem.W.mg_of X G a_latest_place, k_latest_place, kb_of b_latest_place rfl⟩,
    U_law_box := ⟨PySem.W.mg_of X G a_law_box, k_law_box, kb_of b_law_box rfl⟩,
    U_law_led := ⟨PySem.W.mg_of X G a_law_led, k_law_led, kb_of b_law_led rfl⟩,
    U_law_pick := ⟨PySem.W.mg_of X G a_law_pick, k_law_pick, kb_of b_law_pick rfl⟩,
    U_law_refused := ⟨PySem.W.mg_of X G a_law_refused, k_law_refused, kb_of b_law_refused rfl⟩,
    U_law_strangers_right := ⟨PySem.W.mg_of X G a_law_strangers_right, k_law_strangers_right, kb_of b_law_strangers_right rfl⟩,
    U_law_tables := ⟨PySem.W.mg_of X G a_law_tables, k_law_tables, kb_of b_law_tables rfl⟩,
    U_law_take := ⟨PySem.W.mg_of X G a_law_take, k_law_take, kb_of b_law_take rfl⟩,
    U_log_fault := ⟨PySem.W.mg_of X G a_log_fault, k_log_fault, kb_of b_log_fault rfl⟩,
    U_needed_place := ⟨PySem.W.mg_of X G a_needed_place, k_needed_place, kb_of b_needed_place rfl⟩,
    U_return_ages := ⟨PySem.W.mg_of X G a_return_ages, k_return_ages, kb_of b_return_ages rfl⟩,
    U_tail_place := ⟨PySem.W.mg_of X G a_tail_place, k_tail_place, kb_of b_tail_place rfl⟩,
    kb_needed_place_210 := ⟨fun s us ws _ h1 h2 => match us, ws, h1, h2 with | [], [_, _, _], _, _ => .of_eq rfl, fun {vs us zs ws} _ r => match zs, ws, r with | [], _, .nil => .nil | [_], _, .cons r0 (.nil) => .cons r0 (.nil) | [_, _], _, .cons r0 (.cons r1 (.nil)) => .cons r0 (.cons r1 (.nil)) | [_, _, _], _, .cons r0 (.cons r1 (.cons r2 (.nil))) => .cons r2 (.cons r1 (.cons r0 (.nil))) | _ :: _ :: _ :: _ :: _, _, .cons r0 (.cons r1 (.cons r2 (.cons r3 (r)))) => .cons r0 (.cons r1 (.cons r2 (.cons r3 (r))))⟩,
    kb_return_ages_3210 := ⟨fun s us ws _ h1 h2 => match us, ws, h1, h2 with | [], [_, _, _, _], _, _ => .of_eq rfl, fun {vs us zs ws} _ r => match zs, ws, r with | [], _, .nil => .nil | [_], _, .cons r0 (.nil) => .cons r0 (.nil) | [_, _], _, .cons r0 (.cons r1 (.nil)) => .cons r0 (.cons r1 (.nil)) | [_, _, _], _, .cons r0 (.cons r1 (.cons r2 (.nil))) => .cons r0 (.cons r1 (.cons r2 (.nil))) | [_, _, _, _], _, .cons r0 (.cons r1 (.cons r2 (.cons r3 (.nil)))) => .cons r3 (.cons r2 (.cons r1 (.cons r0 (.nil)))) | _ :: _ :: _ :: _ :: _ :: _, _, .cons r0 (.cons r1 (.cons r2 (.cons r3 (.cons r4 (r))))) => .cons r0 (.cons r1 (.cons r2 (.cons r3 (.cons r4 (r)))))⟩,
    kb_tail_place_3210 := ⟨fun s us ws _ h1 h2 => match us, ws, h1, h2 with | [], [_, _, _, _], _, _ => .of_eq rfl, fun {vs us zs ws} _ r => match zs, ws, r with | [], _, .nil => .nil | [_], _, .cons r0 (.nil) => .cons r0 (.nil) | [_, _], _, .cons r0 (.cons r1 (.nil)) => .cons r0 (.cons r1 (.nil)) | [_, _, _], _, .cons r0 (.cons r1 (.cons r2 (.nil))) => .cons r0 (.cons r1 (.cons r2 (.nil))) | [_, _, _, _], _, .cons r0 (.cons r1 (.cons r2 (.cons r3 (.nil)))) => .cons r3 (.cons r2 (.cons r1 (.cons r0 (.nil)))) | _ :: _ :: _ :: _ :: _ :: _, _, .cons r0 (.cons r1 (.cons r2 (.cons r3 (.cons r4 (r))))) => .cons r0 (.cons r1 (.cons r2 (.cons r3 (.cons r4 (r)))))⟩,
    fx := { e11 := x_e11, e21 := x_e21, e22 := x_e22, e31 := x_e31, e32 := x_e32, e33 := x_e33, e41 := x_e41, e42 := x_e42, e43 := x_e43, e44 := x_e44, k1 := x_k1, k2 := x_k2, k3 := x_k3, k4 := x_k4, x1 := ec_BadLog, x2 := ec_BadCopy, x3 := ec_Refused, x4 := ec_NoState } }
  exact ⟨_, fun s v => .of_eq rfl, fun base _ _ hTB => ok_law (TT base hTB) DD⟩
end K30
set_option Elab.async false
set_option maxRecDepth 100000
open PyProof.Rows PySem PySem.W in
set_option maxHeartbeats 0 in
theorem PySem.Challenge.cw_agedcopy_k30_tails_of_copies_holds : PySem.Challenge.rw_agedcopy_k30_tails_of_copies.Holds := by
  w_on
  o_law
  k_head
  (case hw => w_witness2)
  k_fill
  refine DL.walk_g (l := PySem.Challenge.rw_agedcopy_k30_tails_of_copies) (n := 63) (k := 11) (x := "script") (cs := [(310, 306)]) (t := [(306, ("_law_strangers_right" : Str) ++ ".<locals>." ++ "<lambda>")]) rfl (by decide) rfl (fun w h Y => ⟨PySem.W.km_in_of Y, fun p hp => PySem.W.km_tabs_of Y p.2 (by rw [List.mem_singleton.mp hp]; exact List.mem_singleton_self _)⟩) ⟨rfl, by decide, by decide⟩ (fun w p hp => by rw [List.mem_singleton.mp hp]; kernel_rfl) (fun w p hp => by rw [List.mem_singleton.mp hp]; kernel_rfl) (fun p hp => ⟨310, by rw [List.mem_singleton.mp hp]; exact List.mem_singleton_self _⟩) ?F
  case F =>
    intro w mg fa h KX G hmg
    refine' K30.all_mk (c_sr := 310) (p_sr := 306) KX G hmg ?a_AgeError ?a_BadMachine ?a_BadLog ?a_BadCopy ?a_Refused ?a_NoState ?a_Machine ?a_MOST_TABLES ?a_MOST_STATES ?a_MOST_DEEDS ?a_fi_BadMachine ?l_fi_BadMachine ?c_fi_BadMachine ?k_fi_BadMachine ?ti_BadMachine ?cls_BadMachine ?rv_BadMachine ?sa_BadMachine ?ex_BadMachine ?ty_BadMachine ?kc_BadMachine ?no_BadMachine ?ga_BadMachine ?gg_BadMachine ?hd_BadMachine ?ha_BadMachine ?hm_BadMachine ?a_fi_BadLog ?l_fi_BadLog ?c_fi_BadLog ?k_fi_BadLog ?ti_BadLog ?cls_BadLog ?rv_BadLog ?sa_BadLog ?ex_BadLog ?ty_BadLog ?kc_BadLog ?no_BadLog ?ga_BadLog ?gg_BadLog ?hd_BadLog ?ha_BadLog ?hm_BadLog ?a_fi_BadCopy ?l_fi_BadCopy ?c_fi_BadCopy ?k_fi_BadCopy ?ti_BadCopy ?cls_BadCopy ?rv_BadCopy ?sa_BadCopy ?ex_BadCopy ?ty_BadCopy ?kc_BadCopy ?no_BadCopy ?ga_BadCopy ?gg_BadCopy ?hd_BadCopy ?ha_BadCopy ?hm_BadCopy ?a_fi_Refused ?l_fi_Refused ?c_fi_Refused ?k_fi_Refused ?ti_Refused ?cls_Refused ?rv_Refused ?sa_Refused ?ex_Refused ?ty_Refused ?kc_Refused ?no_Refused ?ga_Refused ?gg_Refused ?hd_Refused ?ha_Refused ?hm_Refused ?a_fi_NoState ?l_fi_NoState ?c_fi_NoState ?k_fi_NoState ?ti_NoState ?cls_NoState ?sa_NoState ?ex_NoState ?ty_NoState ?kc_NoState ?no_NoState ?ga_NoState ?gg_NoState ?hd_NoState ?ha_NoState ?hm_NoState ?hn ?ht ?a_is_integer ?l_is_integer ?c_is_integer ?k_is_integer ?a_is_below ?l_is_below ?c_is_below ?k_is_below ?a_is_sequence ?l_is_sequence ?c_is_sequence ?k_is_sequence ?a_is_sequence_of ?l_is_sequence_of ?c_is_sequence_of ?k_is_sequence_of ?a_fault_place ?l_fault_place ?c_fault_place ?k_fault_place ?a_is_table ?l_is_table ?c_is_table ?k_is_table ?a_check_tables ?l_check_tables ?c_check_tables ?k_check_tables ?a_Machine_init ?i_Machine_init ?l_Machine_init ?c_Machine_init ?k_Machine_init ?a_check_state ?l_check_state ?c_check_state ?k_check_state ?a_log_fault ?l_log_fault ?c_log_fault ?k_log_fault ?a_check_log ?l_check_log ?c_check_log ?k_check_log ?a_check_age ?l_check_age ?c_check_age ?k_check_age ?a_ends_by_age ?l_ends_by_age ?c_ends_by_age ?k_ends_by_age ?a_latest_place ?l_latest_place ?c_latest_place ?k_latest_place ?a_return_ages ?l_return_ages ?c_return_ages ?k_return_ages ?a_tail_place ?l_tail_place ?c_tail_place ?k_tail_place ?a_check_copies ?l_check_copies ?c_check_copies ?k_check_copies ?a_needed_place ?l_needed_place ?c_needed_place ?k_needed_place ?a_law_box ?l_law_box ?c_law_box ?k_law_box ?a_law_take ?l_law_take ?c_law_take ?k_law_take ?a_law_pick ?l_law_pick ?c_law_pick ?k_law_pick ?a_law_tables ?l_law_tables ?c_law_tables ?k_law_tables ?a_law_led ?l_law_led ?c_law_led ?k_law_led ?a_law_refused ?l_law_refused ?c_law_refused ?k_law_refused ?a_law_strangers_right ?l_law_strangers_right ?c_law_strangers_right ?k_law_strangers_right ?a_law ?l_law ?c_law ?k_law ?pg ?hd ?po ?sa ?mk ?kc ?ha ?hm ?n_tables ?n_deeds ?n_states ?z_KeyError ?z_abs ?z_bool ?z_enumerate ?z_int ?z_isinstance ?z_len ?z_list ?z_max ?z_min ?z_range ?z_repr ?z_reversed ?z_tuple ?x_e11 ?x_e21 ?x_e22 ?x_e31 ?x_e32 ?x_e33 ?x_e41 ?x_e42 ?x_e43 ?x_e44 ?x_k1 ?x_k2 ?x_k3 ?x_k4
    (case a_AgeError => k_is)
    (case a_BadMachine => k_is)
    (case a_BadLog => k_is)
    (case a_BadCopy => k_is)
    (case a_Refused => k_is)
    (case a_NoState => k_is)
    (case a_Machine => k_is)
    (case a_MOST_TABLES => k_is)
    (case a_MOST_STATES => k_is)
    (case a_MOST_DEEDS => k_is)
    (case a_fi_BadMachine => k_is)
    (case l_fi_BadMachine => k_is)
    (case c_fi_BadMachine => k_is)
    (case k_fi_BadMachine => k_is)
    (case ti_BadMachine => k_is)
    (case cls_BadMachine => k_is)
    (case rv_BadMachine => first | rfl | k_is)
    (case sa_BadMachine => k_is)
    (case ex_BadMachine => k_is)
    (case ty_BadMachine => k_is)
    (case kc_BadMachine => k_is)
    (case no_BadMachine => k_is)
    (case ga_BadMachine => k_is)
    (case gg_BadMachine => k_is)
    (case hd_BadMachine => k_is)
    (case ha_BadMachine => k_is)
    (case hm_BadMachine => k_is)
    (case a_fi_BadLog => k_is)
    (case l_fi_BadLog => k_is)
    (case c_fi_BadLog => k_is)
    (case k_fi_BadLog => k_is)
    (case ti_BadLog => k_is)
    (case cls_BadLog => k_is)
    (case rv_BadLog => first | rfl | k_is)
    (case sa_BadLog => k_is)
    (case ex_BadLog => k_is)
    (case ty_BadLog => k_is)
    (case kc_BadLog => k_is)
    (case no_BadLog => k_is)
    (case ga_BadLog => k_is)
    (case gg_BadLog => k_is)
    (case hd_BadLog => k_is)
    (case ha_BadLog => k_is)
    (case hm_BadLog => k_is)
    (case a_fi_BadCopy => k_is)
    (case l_fi_BadCopy => k_is)
    (case c_fi_BadCopy => k_is)
    (case k_fi_BadCopy => k_is)
    (case ti_BadCopy => k_is)
    (case cls_BadCopy => k_is)
    (case rv_BadCopy => first | rfl | k_is)
    (case sa_BadCopy => k_is)
    (case ex_BadCopy => k_is)
    (case ty_BadCopy => k_is)
    (case kc_BadCopy => k_is)
    (case no_BadCopy => k_is)
    (case ga_BadCopy => k_is)
    (case gg_BadCopy => k_is)
    (case hd_BadCopy => k_is)
    (case ha_BadCopy => k_is)
    (case hm_BadCopy => k_is)
    (case a_fi_Refused => k_is)
    (case l_fi_Refused => k_is)
    (case c_fi_Refused => k_is)
    (case k_fi_Refused => k_is)
    (case ti_Refused => k_is)
    (case cls_Refused => k_is)
    (case rv_Refused => first | rfl | k_is)
    (case sa_Refused => k_is)
    (case ex_Refused => k_is)
    (case ty_Refused => k_is)
    (case kc_Refused => k_is)
    (case no_Refused => k_is)
    (case ga_Refused => k_is)
    (case gg_Refused => k_is)
    (case hd_Refused => k_is)
    (case ha_Refused => k_is)
    (case hm_Refused => k_is)
    (case a_fi_NoState => k_is)
    (case l_fi_NoState => k_is)
    (case c_fi_NoState => k_is)
    (case k_fi_NoState => k_is)
    (case ti_NoState => k_is)
    (case cls_NoState => k_is)
    (case sa_NoState => k_is)
    (case ex_NoState => k_is)
    (case ty_NoState => k_is)
    (case kc_NoState => k_is)
    (case no_NoState => k_is)
    (case ga_NoState => k_is)
    (case gg_NoState => k_is)
    (case hd_NoState => k_is)
    (case ha_NoState => k_is)
    (case hm_NoState => k_is)
    (case hn => k_is)
    (case ht => k_is)
    (case a_is_integer => k_is)
    (case l_is_integer => k_is)
    (case c_is_integer => k_is)
    (case k_is_integer => k_is)
    (case a_is_below => k_is)
    (case l_is_below => k_is)
    (case c_is_below => k_is)
    (case k_is_below => k_is)
    (case a_is_sequence => k_is)
    (case l_is_sequence => k_is)
    (case c_is_sequence => k_is)
    (case k_is_sequence => k_is)
    (case a_is_sequence_of => k_is)
    (case l_is_sequence_of => k_is)
    (case c_is_sequence_of => k_is)
    (case k_is_sequence_of => k_is)
    (case a_fault_place => k_is)
    (case l_fault_place => k_is)
    (case c_fault_place => k_is)
    (case k_fault_place => k_is)
    (case a_is_table => k_is)
    (case l_is_table => k_is)
    (case c_is_table => k_is)
    (case k_is_table => k_is)
    (case a_check_tables => k_is)
    (case l_check_tables => k_is)
    (case c_check_tables => k_is)
    (case k_check_tables => k_is)
    (case a_Machine_init => k_is)
    (case i_Machine_init => k_is)
    (case l_Machine_init => k_is)
    (case c_Machine_init => k_is)
    (case k_Machine_init => k_is)
    (case a_check_state => k_is)
    (case l_check_state => k_is)
    (case c_check_state => k_is)
    (case k_check_state => k_is)
    (case a_log_fault => k_is)
    (case l_log_fault => k_is)
    (case c_log_fault => k_is)
    (case k_log_fault => k_is)
    (case a_check_log => k_is)
    (case l_check_log => k_is)
    (case c_check_log => k_is)
    (case k_check_log => k_is)
    (case a_check_age => k_is)
    (case l_check_age => k_is)
    (case c_check_age => k_is)
    (case k_check_age => k_is)
    (case a_ends_by_age => k_is)
    (case l_ends_by_age => k_is)
    (case c_ends_by_age => k_is)
    (case k_ends_by_age => k_is)
    (case a_latest_place => k_is)
    (case l_latest_place => k_is)
    (case c_latest_place => k_is)
    (case k_latest_place => k_is)
    (case a_return_ages => k_is)
    (case l_return_ages => k_is)
    (case c_return_ages => k_is)
    (case k_return_ages => k_is)
    (case a_tail_place => k_is)
    (case l_tail_place => k_is)
    (case c_tail_place => k_is)
    (case k_tail_place => k_is)
    (case a_check_copies => k_is)
    (case l_check_copies => k_is)
    (case c_check_copies => k_is)
    (case k_check_copies => k_is)
    (case a_needed_place => k_is)
    (case l_needed_place => k_is)
    (case c_needed_place => k_is)
    (case k_needed_place => k_is)
    (case a_law_box => k_is)
    (case l_law_box => k_is)
    (case c_law_box => k_is)
    (case k_law_box => k_is)
    (case a_law_take => k_is)
    (case l_law_take => k_is)
    (case c_law_take => k_is)
    (case k_law_take => k_is)
    (case a_law_pick => k_is)
    (case l_law_pick => k_is)
    (case c_law_pick => k_is)
    (case k_law_pick => k_is)
    (case a_law_tables => k_is)
    (case l_law_tables => k_is)
    (case c_law_tables => k_is)
    (case k_law_tables => k_is)
    (case a_law_led => k_is)
    (case l_law_led => k_is)
    (case c_law_led => k_is)
    (case k_law_led => k_is)
    (case a_law_refused => k_is)
    (case l_law_refused => k_is)
    (case c_law_refused => k_is)
    (case k_law_refused => k_is)
    (case a_law_strangers_right => k_is)
    (case l_law_strangers_right => k_is)
    (case c_law_strangers_right => k_is)
    (case k_law_strangers_right => k_is)
    (case a_law => k_is)
    (case l_law => k_is)
    (case c_law => k_is)
    (case k_law => k_is)
    (case pg => k_is)
    (case hd => k_is)
    (case po => k_is)
    (case sa => k_is)
    (case mk => k_is)
    (case kc => k_is)
    (case ha => k_is)
    (case hm => k_is)
    (case n_tables => k_is)
    (case n_deeds => k_is)
    (case n_states => k_is)
    (case z_KeyError => k_is)
    (case z_abs => k_is)
    (case z_bool => k_is)
    (case z_enumerate => k_is)
    (case z_int => k_is)
    (case z_isinstance => k_is)
    (case z_len => k_is)
    (case z_list => k_is)
    (case z_max => k_is)
    (case z_min => k_is)
    (case z_range => k_is)
    (case z_repr => k_is)
    (case z_reversed => k_is)
    (case z_tuple => k_is)
    (case x_e11 => first | kernel_rfl | rfl | decide +kernel)
    (case x_e21 => first | kernel_rfl | rfl | decide +kernel)
    (case x_e22 => first | kernel_rfl | rfl | decide +kernel)
    (case x_e31 => first | kernel_rfl | rfl | decide +kernel)
    (case x_e32 => first | kernel_rfl | rfl | decide +kernel)
    (case x_e33 => first | kernel_rfl | rfl | decide +kernel)
    (case x_e41 => first | kernel_rfl | rfl | decide +kernel)
    (case x_e42 => first | kernel_rfl | rfl | decide +kernel)
    (case x_e43 => first | kernel_rfl | rfl | decide +kernel)
    (case x_e44 => first | kernel_rfl | rfl | decide +kernel)
    (case x_k1 => first | kernel_rfl | rfl | decide +kernel)
    (case x_k2 => first | kernel_rfl | rfl | decide +kernel)
    (case x_k3 => first | kernel_rfl | rfl | decide +kernel)
    (case x_k4 => first | kernel_rfl | rfl | decide +kernel)
