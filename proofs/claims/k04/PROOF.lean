import PyProof.Rows.All
import Wide.All
import OpenK.AllK
import Wide.FinOn
import HandS.ForMost
import HandS.Exc
import HandS.CallSlots
import HandS.TupAny
import HandS.IsInst
import HandS.Defaults
import HandS.MakeKw
import HandS.FStr
import HandS.DictComp
import HandS.Conv
import HandS.Wide
import HandS.Style
import HandS.ExcInit
import HandS.ExcField
import HandS.ExcIs
import HandS.TryMany
import KE.KExcIs
import HandS.Iter
import KE.GoesMore
import KE.GoesEnum
import PyProof.InstNe
import OpenK.KOwn
import HandS.Replace
import PyProof.MeetsStr3
import HandS.Ends
import HandS.Words
import PySem.Challenge.RW_agedcopy_k04_texts_of_machines_and_logs
set_option Elab.async false
set_option autoImplicit false
set_option linter.all false
set_option maxRecDepth 100000
set_option maxHeartbeats 3900000
/-! DL: data level. What a reading of the layer means for plain data: slots hold data or lists of one's own, nothing of the heap is left. -/
namespace DL
open L2 PyProof.Rows PySem PySem.Spec

abbrev Fg := PySem.W.Frag
/-- plain data -/
inductive D where
  | non | bl (b : Bool) | int (i : Int) | str (s : Str)
  | lst (xs : List D) | tup (xs : List D)
  | obj (c : Addr) (ns : List Str) (ds : List D)
  | dic (ks : List Key) (ds : List D)
  | scr (is : List Int)
  | raw (v : V)
  | exn (v : V) (dd : Addr) (f : Str) (d : D)

mutual
inductive Is (K : Fg) (S : Hp) : V → D → Prop
  | non : Is K S .non .non
  | bl (b : Bool) : Is K S (.bl b) (.bl b)
  | int (i : Int) : Is K S (.int i) (.int i)
  | str (s : Str) : Is K S (.str s) (.str s)
  | lst {a vs ds} : S a = some (.lst vs) → IsAll K S vs ds → Is K S (.ref a) (.lst ds)
  | tup {a vs ds} : S a = some (.tup vs) → IsAll K S vs ds → Is K S (.ref a) (.tup ds)
  | obj {a C dx vs ns ds} : S a = some (.ins C dx vs) → vs.map (·.1) = ns → IsAll K S (vs.map (·.2)) ds → Is K S (.ref a) (.obj C ns ds)
  | dic {a kvs ks ds} : S a = some (.dK kvs) → kvs.map (·.1) = ks → IsAll K S (kvs.map (·.2)) ds → Is K S (.ref a) (.dic ks ds)
  | scr {a} {is : List Int} : SqL K S a (is.map V.int) → Is K S (.ref a) (.scr is)
  | raw (v : V) : Is K S v (.raw v)
  | exn {v dd f u d} : S dd = some (.xd [(f, u)]) → Is K S u d → Is K S v (.exn v dd f d)
inductive IsAll (K : Fg) (S : Hp) : List V → List D → Prop
  | nil : IsAll K S [] []
  | cons {v vs d ds} : Is K S v d → IsAll K S vs ds → IsAll K S (v :: vs) (d :: ds)
end

section
variable {K : Fg} {S S' : Hp}
theorem both_mono (e : Same S S') : (∀ v d, Is K S v d → Is K S' v d) ∧ (∀ vs ds, IsAll K S vs ds → IsAll K S' vs ds) := by
  refine ⟨fun v d h => ?_, fun vs ds h => ?_⟩
  · exact Is.rec (motive_1 := fun v d _ => Is K S' v d) (motive_2 := fun vs ds _ => IsAll K S' vs ds) .non .bl .int .str
      (fun h _ ih => .lst (e _ _ h) ih) (fun h _ ih => .tup (e _ _ h) ih) (fun h hn _ ih => .obj (e _ _ h) hn ih) (fun h hn _ ih => .dic (e _ _ h) hn ih) (fun h => .scr (e.seq h)) .raw (fun h _ ih => .exn (e _ _ h) ih) .nil (fun _ _ a b => .cons a b) h
  · exact IsAll.rec (motive_1 := fun v d _ => Is K S' v d) (motive_2 := fun vs ds _ => IsAll K S' vs ds) .non .bl .int .str
      (fun h _ ih => .lst (e _ _ h) ih) (fun h _ ih => .tup (e _ _ h) ih) (fun h hn _ ih => .obj (e _ _ h) hn ih) (fun h hn _ ih => .dic (e _ _ h) hn ih) (fun h => .scr (e.seq h)) .raw (fun h _ ih => .exn (e _ _ h) ih) .nil (fun _ _ a b => .cons a b) h
theorem Is.mono {v d} (h : Is K S v d) (e : Same S S') : Is K S' v d := (both_mono e).1 v d h
theorem IsAll.mono {vs ds} (h : IsAll K S vs ds) (e : Same S S') : IsAll K S' vs ds := (both_mono e).2 vs ds h
theorem IsAll.length : ∀ {vs : List V} {ds : List D}, IsAll K S vs ds → vs.length = ds.length
  | _, _, .nil => rfl
  | _, _, .cons _ q => congrArg (· + 1) q.length
theorem IsAll.get : ∀ {vs : List V} {ds : List D} {i : Nat} {d : D}, IsAll K S vs ds → ds[i]? = some d → ∃ v, vs[i]? = some v ∧ Is K S v d
  | _, _, _, _, .nil, e => nomatch e
  | _, _, 0, _, .cons r _, e => by cases (Option.some.inj e); exact ⟨_, rfl, r⟩
  | _, _, i + 1, d, .cons _ t, e => by
    obtain ⟨u, h1, h2⟩ := IsAll.get (i := i) (d := d) t (by simpa using e)
    exact ⟨_, (by simpa using h1), h2⟩
theorem IsAll.append : ∀ {xs ys : List V} {us ws : List D}, IsAll K S xs us → IsAll K S ys ws → IsAll K S (xs ++ ys) (us ++ ws)
  | _, _, _, _, .nil, s => s
  | _, _, _, _, .cons r t, s => .cons r (t.append s)
theorem IsAll.take : ∀ {xs : List V} {us : List D} (n : Nat), IsAll K S xs us → IsAll K S (xs.take n) (us.take n)
  | _, _, 0, _ => .nil
  | _, _, _ + 1, .nil => .nil
  | _, _, n + 1, .cons r t => .cons r (t.take n)
theorem IsAll.drop : ∀ {xs : List V} {us : List D} (n : Nat), IsAll K S xs us → IsAll K S (xs.drop n) (us.drop n)
  | _, _, 0, r => r
  | _, _, _ + 1, .nil => .nil
  | _, _, n + 1, .cons _ t => t.drop n
theorem IsAll.set {v : V} {d : D} (r : Is K S v d) : ∀ {xs : List V} {us : List D} (i : Nat), IsAll K S xs us → IsAll K S (xs.set i v) (us.set i d)
  | _, _, _, .nil => .nil
  | _, _, 0, .cons _ z => .cons r z
  | _, _, i + 1, .cons q t => .cons q (IsAll.set r i t)
theorem IsAll.reverse {xs : List V} {us : List D} (h : IsAll K S xs us) : IsAll K S xs.reverse us.reverse := by
  induction xs generalizing us with
  | nil => cases h; exact .nil
  | cons x xs ih => cases h with
    | cons r t => rw [List.reverse_cons, List.reverse_cons]; exact (ih t).append (.cons r .nil)
end

/-- an object of one's own -/
inductive OD where
  | l (xs : List D) | k (ks : List Key) (ds : List D) | i (c : Addr) (ns : List Str) (ds : List D)
def OD.d : OD → D
  | .l xs => .lst xs
  | .k ks ds => .dic ks ds
  | .i c ns ds => .obj c ns ds
inductive OIs (K : Fg) (S : Hp) : HO → OD → Prop
  | l {vs ds} : IsAll K S vs ds → OIs K S (.lst vs) (.l ds)
  | k {kvs ks ds} : kvs.map (·.1) = ks → IsAll K S (kvs.map (·.2)) ds → OIs K S (.dK kvs) (.k ks ds)
  | i {c dx vs ns ds} : vs.map (·.1) = ns → IsAll K S (vs.map (·.2)) ds → OIs K S (.ins c dx vs) (.i c ns ds)
theorem OIs.mono {K : Fg} {S S' : Hp} {o od} (h : OIs K S o od) (e : Same S S') : OIs K S' o od := by
  cases h with
  | l h => exact .l (h.mono e)
  | k hn h => exact .k hn (h.mono e)
  | i hn h => exact .i hn (h.mono e)
inductive Sl where
  | un | val (d : D) | own (l : Addr) (o : OD)
abbrev Rho := List Sl
/-- the slots σ and the heap H are what ρ says; S: what never changes; F: what others own -/
structure ER (K : Fg) (S F H : Hp) (ρ : Rho) (σ : L2.St) : Prop where
  len : ρ.length = σ.length
  ex : Same S H
  fr : ∀ a o, F a = some o → H a = some o ∧ S a = none
  val : ∀ (i : Nat) (d : D), ρ[i]? = some (Sl.val d) → ∃ v, σ[i]? = some (some v) ∧ Is K S v d
  own : ∀ (i : Nat) (l : Addr) (od : OD), ρ[i]? = some (Sl.own l od) → σ[i]? = some (some (V.ref l)) ∧ S l = none ∧ F l = none ∧ ∃ o, H l = some o ∧ OIs K S o od
  dis : ∀ (i j : Nat) (l : Addr) (o o' : OD), ρ[i]? = some (Sl.own l o) → ρ[j]? = some (Sl.own l o') → i = j
section
variable {K : Fg} {S F H : Hp} {ρ : Rho} {σ : L2.St} {p : Addr} {o : HO}
/-- a new object that never changes -/
theorem ER.new (e : ER K S F H ρ σ) (hp : H p = none) : ER K (upd S p o) F (upd H p o) ρ σ := by
  have sp : S p = none := by
    cases h : S p with
    | none => rfl
    | some u => rw [e.ex p u h] at hp; cases hp
  have sS : Same S (upd S p o) := fun b u h => by rw [upd_ne (ne_of_none h sp)]; exact h
  refine ⟨e.len, fun b u h => ?_, fun a u h => ?_, fun i d h => ?_, fun i l od h => ?_, e.dis⟩
  · by_cases hb : b = p
    · subst hb; rw [upd_same] at h ⊢; exact h
    · rw [upd_ne hb] at h ⊢; exact e.ex b u h
  · obtain ⟨h1, h2⟩ := e.fr a u h
    have ne := ne_of_none h1 hp
    rw [upd_ne ne, upd_ne ne]; exact ⟨h1, h2⟩
  · obtain ⟨v, h1, h2⟩ := e.val i d h
    exact ⟨v, h1, h2.mono sS⟩
  · obtain ⟨h1, h2, h3, ob, h4, h5⟩ := e.own i l od h
    have ne := ne_of_none h4 hp
    rw [upd_ne ne]
    exact ⟨h1, h2, h3, ob, by rw [upd_ne ne]; exact h4, h5.mono sS⟩
theorem ER.sp (e : ER K S F H ρ σ) (hp : H p = none) : S p = none := by
  cases h : S p with
  | none => rfl
  | some u => rw [e.ex p u h] at hp; cases hp
theorem ER.fp (e : ER K S F H ρ σ) (hp : H p = none) : F p = none := by
  cases h : F p with
  | none => rfl
  | some u => rw [(e.fr p u h).1] at hp; cases hp
theorem ER.sn (e : ER K S F H ρ σ) (hp : H p = none) : Same S (upd S p o) := fun b u h => by rw [upd_ne (ne_of_none h (e.sp hp))]; exact h
theorem ER.at (e : ER K S F H ρ σ) {a u} (h : S a = some u) : H a = some u := e.ex a u h
/-- an object of one's own changes -/
theorem ER.wr (e : ER K S F H ρ σ) {i : Nat} {l : Addr} {od od' : OD} {o' : HO} (h : ρ[i]? = some (Sl.own l od)) (ho : OIs K S o' od') : ER K S F (upd H l o') (ρ.set i (.own l od')) σ := by
  obtain ⟨h1, h2, h3, ob, h4, h5⟩ := e.own i l od h
  have hi : i < ρ.length := (List.getElem?_eq_some_iff.mp h).1
  refine ⟨by rw [List.length_set]; exact e.len, fun b u q => ?_, fun a u q => ?_, fun j d q => ?_, fun j m od2 q => ?_, fun j k m o1 o2 q1 q2 => ?_⟩
  · rw [upd_ne (ne_of_none q h2)]; exact e.ex b u q
  · obtain ⟨a1, a2⟩ := e.fr a u q
    rw [upd_ne (ne_of_none q h3)]; exact ⟨a1, a2⟩
  · by_cases hj : j = i
    · subst hj; rw [List.getElem?_set_self hi] at q; cases q
    · rw [List.getElem?_set_ne (Ne.symm hj)] at q; exact e.val j d q
  · by_cases hj : j = i
    · subst hj; rw [List.getElem?_set_self hi] at q; cases q
      exact ⟨h1, h2, h3, o', upd_same, ho⟩
    · rw [List.getElem?_set_ne (Ne.symm hj)] at q
      obtain ⟨a1, a2, a3, ob2, a4, a5⟩ := e.own j m od2 q
      have ne : m ≠ l := fun z => by subst z; exact hj (e.dis _ _ _ _ _ q h)
      exact ⟨a1, a2, a3, ob2, by rw [upd_ne ne]; exact a4, a5⟩
  · have back : ∀ {k : Nat} {o1 : OD}, (ρ.set i (.own l od'))[k]? = some (Sl.own m o1) → ∃ o3, ρ[k]? = some (Sl.own m o3) := fun {k o1} q => by
      by_cases hk : k = i
      · subst hk; rw [List.getElem?_set_self hi] at q; cases q; exact ⟨od, h⟩
      · rw [List.getElem?_set_ne (Ne.symm hk)] at q; exact ⟨o1, q⟩
    obtain ⟨o3, q3⟩ := back q1
    obtain ⟨o4, q4⟩ := back q2
    exact e.dis _ _ _ _ _ q3 q4
/-- an object of one's own is no longer changed -/
theorem ER.frz (e : ER K S F H ρ σ) {i : Nat} {l : Addr} {od : OD} (h : ρ[i]? = some (Sl.own l od)) : ∃ S', Same S S' ∧ ER K S' F H (ρ.set i (.val od.d)) σ ∧ Is K S' (.ref l) od.d := by
  obtain ⟨h1, h2, h3, ob, h4, h5⟩ := e.own i l od h
  have hi : i < ρ.length := (List.getElem?_eq_some_iff.mp h).1
  have sS : Same S (upd S l ob) := fun b u q => by rw [upd_ne (ne_of_none q h2)]; exact q
  have hv : Is K (upd S l ob) (.ref l) od.d := by
    cases h5 with
    | l r => exact .lst upd_same (r.mono sS)
    | k hn r => exact .dic upd_same hn (r.mono sS)
    | i hn r => exact .obj upd_same hn (r.mono sS)
  refine ⟨upd S l ob, sS, ⟨by rw [List.length_set]; exact e.len, fun b u q => ?_, fun a u q => ?_, fun j d q => ?_, fun j m od2 q => ?_, fun j k m o1 o2 q1 q2 => ?_⟩, hv⟩
  · by_cases hb : b = l
    · subst hb; rw [upd_same] at q; cases q; exact h4
    · rw [upd_ne hb] at q; exact e.ex b u q
  · obtain ⟨a1, a2⟩ := e.fr a u q
    rw [upd_ne (ne_of_none q h3)]; exact ⟨a1, a2⟩
  · by_cases hj : j = i
    · subst hj; rw [List.getElem?_set_self hi] at q; cases q
      exact ⟨_, h1, hv⟩
    · rw [List.getElem?_set_ne (Ne.symm hj)] at q
      obtain ⟨v, a1, a2⟩ := e.val j d q
      exact ⟨v, a1, a2.mono sS⟩
  · by_cases hj : j = i
    · subst hj; rw [List.getElem?_set_self hi] at q; cases q
    · rw [List.getElem?_set_ne (Ne.symm hj)] at q
      obtain ⟨a1, a2, a3, ob2, a4, a5⟩ := e.own j m od2 q
      have ne : m ≠ l := fun z => by subst z; exact hj (e.dis _ _ _ _ _ q h)
      exact ⟨a1, by rw [upd_ne ne]; exact a2, a3, ob2, a4, a5.mono sS⟩
  · have back : ∀ {k : Nat} {o1 : OD}, (ρ.set i (.val od.d))[k]? = some (Sl.own m o1) → ρ[k]? = some (Sl.own m o1) := fun {k o1} q => by
      by_cases hk : k = i
      · subst hk; rw [List.getElem?_set_self hi] at q; cases q
      · rw [List.getElem?_set_ne (Ne.symm hk)] at q; exact q
    exact e.dis _ _ _ _ _ (back q1) (back q2)
/-- a slot gets a value -/
theorem ER.set (e : ER K S F H ρ σ) {i : Nat} {v : V} {d : D} (hv : Is K S v d) : ER K S F H (ρ.set i (.val d)) (σ.set i (some v)) := by
  refine ⟨by rw [List.length_set, List.length_set]; exact e.len, e.ex, e.fr, fun j d' q => ?_, fun j m od2 q => ?_, fun j k m o1 o2 q1 q2 => ?_⟩
  · by_cases hj : j = i
    · subst hj
      have hi : j < ρ.length := by
        have := (List.getElem?_eq_some_iff.mp q).1
        rwa [List.length_set] at this
      rw [List.getElem?_set_self hi] at q; cases q
      exact ⟨v, by rw [List.getElem?_set_self (by rw [← e.len]; exact hi)], hv⟩
    · rw [List.getElem?_set_ne (Ne.symm hj)] at q ⊢; exact e.val j d' q
  · by_cases hj : j = i
    · subst hj
      have hi : j < ρ.length := by
        have := (List.getElem?_eq_some_iff.mp q).1
        rwa [List.length_set] at this
      rw [List.getElem?_set_self hi] at q; cases q
    · rw [List.getElem?_set_ne (Ne.symm hj)] at q ⊢; exact e.own j m od2 q
  · have back : ∀ {k : Nat} {o1 : OD}, (ρ.set i (.val d))[k]? = some (Sl.own m o1) → ρ[k]? = some (Sl.own m o1) := fun {k o1} q => by
      by_cases hk : k = i
      · subst hk
        have hi : k < ρ.length := by
          have := (List.getElem?_eq_some_iff.mp q).1
          rwa [List.length_set] at this
        rw [List.getElem?_set_self hi] at q; cases q
      · rw [List.getElem?_set_ne (Ne.symm hk)] at q; exact q
    exact e.dis _ _ _ _ _ (back q1) (back q2)
/-- a slot gets a new object of one's own -/
theorem ER.setOwn (e : ER K S F H ρ σ) {i : Nat} {l : Addr} {o : HO} {od : OD} (h1 : H l = some o) (h2 : S l = none) (h3 : F l = none) (h4 : OIs K S o od) (h5 : ∀ (j : Nat) (od' : OD), ρ[j]? ≠ some (Sl.own l od')) : ER K S F H (ρ.set i (.own l od)) (σ.set i (some (.ref l))) := by
  refine ⟨by rw [List.length_set, List.length_set]; exact e.len, e.ex, e.fr, fun j d' q => ?_, fun j m od2 q => ?_, fun j k m o1 o2 q1 q2 => ?_⟩
  · by_cases hj : j = i
    · subst hj
      have hi : j < ρ.length := by
        have := (List.getElem?_eq_some_iff.mp q).1
        rwa [List.length_set] at this
      rw [List.getElem?_set_self hi] at q; cases q
    · rw [List.getElem?_set_ne (Ne.symm hj)] at q ⊢; exact e.val j d' q
  · by_cases hj : j = i
    · subst hj
      have hi : j < ρ.length := by
        have := (List.getElem?_eq_some_iff.mp q).1
        rwa [List.length_set] at this
      rw [List.getElem?_set_self hi] at q; cases q
      exact ⟨by rw [List.getElem?_set_self (by rw [← e.len]; exact hi)], h2, h3, o, h1, h4⟩
    · rw [List.getElem?_set_ne (Ne.symm hj)] at q ⊢; exact e.own j m od2 q
  · have back : ∀ {k : Nat} {o1 : OD}, (ρ.set i (.own l od))[k]? = some (Sl.own m o1) → (k = i ∧ m = l) ∨ (k ≠ i ∧ ρ[k]? = some (Sl.own m o1)) := fun {k o1} q => by
      by_cases hk : k = i
      · subst hk
        have hi : k < ρ.length := by
          have := (List.getElem?_eq_some_iff.mp q).1
          rwa [List.length_set] at this
        rw [List.getElem?_set_self hi] at q; cases q; exact .inl ⟨rfl, rfl⟩
      · rw [List.getElem?_set_ne (Ne.symm hk)] at q; exact .inr ⟨hk, q⟩
    rcases back q1 with ⟨a1, a2⟩ | ⟨a1, a2⟩ <;> rcases back q2 with ⟨b1, b2⟩ | ⟨b1, b2⟩
    · exact a1.trans b1.symm
    · rw [a2] at b2; exact absurd b2 (h5 _ _)
    · rw [b2] at a2; exact absurd a2 (h5 _ _)
    · exact e.dis _ _ _ _ _ a2 b2
end

/-! ### what a reading means for data -/
abbrev XC := Addr → Str → D → Rho → Prop
abbrev WE := Rho → XC → (D → Rho → Prop) → Prop
abbrev WT := Rho → XC → (Bool → Rho → Prop) → Prop
abbrev WL := Rho → XC → (List D → Rho → Prop) → Prop
structure DE where
  nx : Rho → Prop
  rt : D → Rho → Prop
  bk : Rho → Prop
  ct : Rho → Prop
  xc : XC
  ro : Addr → OD → Rho → Prop := fun _ _ _ => False
abbrev WS := Rho → DE → Prop
def XOk (K : Fg) (F : Hp) (W : WX) (S : Hp) (χ : XC) : Prop := ∀ C f d v dd ρ' S' σ' H', χ C f d ρ' → Same S S' → ER K S' F H' ρ' σ' → S' dd = some (.xd [(f, v)]) → Is K S' v d → W (.ref C) (some dd) σ' H'
theorem XOk.mono {K : Fg} {F : Hp} {W : WX} {S S1 : Hp} {χ : XC} (h : XOk K F W S χ) (e : Same S S1) : XOk K F W S1 χ := fun C f d v dd ρ' S' σ' H' a b c d' e' => h C f d v dd ρ' S' σ' H' a (e.trans b) c d' e'
abbrev W0 : WX := fun _ _ _ _ => False
abbrev χ0 : XC := fun _ _ _ _ => False
theorem XOk.none {K : Fg} {F : Hp} {W : WX} {S : Hp} : XOk K F W S χ0 := fun _ _ _ _ _ _ _ _ _ h => h.elim

def lE (K : Fg) (W : WX) (w : WE) : TE := fun σ H Q => ∃ ρ S F χ Φ, ER K S F H ρ σ ∧ w ρ χ Φ ∧ XOk K F W S χ ∧ ∀ v d ρ' S' H', Φ d ρ' → Same S S' → Is K S' v d → ER K S' F H' ρ' σ → Q v H'
def lT (K : Fg) (W : WX) (w : WT) : TT := fun σ H Q => ∃ ρ S F χ Φ, ER K S F H ρ σ ∧ w ρ χ Φ ∧ XOk K F W S χ ∧ ∀ b ρ' S' H', Φ b ρ' → Same S S' → ER K S' F H' ρ' σ → Q b H'
def lL (K : Fg) (W : WX) (w : WL) : TA := fun σ H Q => ∃ ρ S F χ Φ, ER K S F H ρ σ ∧ w ρ χ Φ ∧ XOk K F W S χ ∧ ∀ vs ds ρ' S' H', Φ ds ρ' → Same S S' → IsAll K S' vs ds → ER K S' F H' ρ' σ → Q vs H'
def lS (K : Fg) (W : WX) (w : WS) : TS := fun D σ H => ∃ ρ S F Δ, ER K S F H ρ σ ∧ w ρ Δ ∧ XOk K F W S Δ.xc ∧
  (∀ ρ' S' σ' H', Δ.nx ρ' → Same S S' → ER K S' F H' ρ' σ' → D.nx σ' H') ∧
  (∀ d v ρ' S' σ' H', Δ.rt d ρ' → Same S S' → Is K S' v d → ER K S' F H' ρ' σ' → D.rt v H') ∧
  (∀ ρ' S' σ' H', Δ.bk ρ' → Same S S' → ER K S' F H' ρ' σ' → D.bk σ' H') ∧
  (∀ ρ' S' σ' H', Δ.ct ρ' → Same S S' → ER K S' F H' ρ' σ' → D.ct σ' H') ∧
  (∀ l od o ρ' S' σ' H', Δ.ro l od ρ' → Same S S' → H' l = some o → OIs K S' o od → S' l = none → F l = none → ER K S' F H' ρ' σ' → D.rt (.ref l) H')

theorem PE.imp {X : Cx} {e : Expr} {t t' : TE} (h : PE X e t) (m : ∀ σ H Q, t' σ H Q → t σ H Q) : PE X e t' := ⟨fun pins s σ H Q I q => h.run pins s σ H Q I (m σ H Q q)⟩
theorem PT.imp {X : Cx} {e : Expr} {t t' : TT} (h : PT X e t) (m : ∀ σ H Q, t' σ H Q → t σ H Q) : PT X e t' := ⟨fun pins s σ H Q I q => h.run pins s σ H Q I (m σ H Q q)⟩
theorem PW.imp {X : Cx} {e : Expr} {t t' : TT} (h : PW X e t) (m : ∀ σ H Q, t' σ H Q → t σ H Q) : PW X e t' := ⟨fun wh pins s σ H Q I q => h.run wh pins s σ H Q I (m σ H Q q)⟩
theorem PA.imp {X : Cx} {es : List Expr} {t t' : TA} (h : PA X es t) (m : ∀ σ H Q, t' σ H Q → t σ H Q) : PA X es t' := ⟨fun pos pins s σ H Q I q => h.run pos pins s σ H Q I (m σ H Q q)⟩
theorem PS.imp {X : Cx} {st : Stmt} {t t' : TS} (h : PS X st t) (m : ∀ D σ H, t' D σ H → t D σ H) : PS X st t' := ⟨fun pins s σ H D I q => h.run pins s σ H D I (m D σ H q)⟩
theorem PSs.imp {X : Cx} {st : List Stmt} {t t' : TS} (h : PSs X st t) (m : ∀ D σ H, t' D σ H → t D σ H) : PSs X st t' := ⟨fun pins s σ H D I q => h.run pins s σ H D I (m D σ H q)⟩
end DL
set_option Elab.async false
set_option autoImplicit false
set_option linter.all false
set_option maxRecDepth 100000
set_option maxHeartbeats 3900000
namespace DL
open L2 PyProof.Rows PySem PySem.Spec

/-! ### operators on data -/
def OpOk (K : Fg) (r : R2) (wr : D → D → (D → Prop) → Prop) : Prop := ∀ (S F H : Hp) (ρ : Rho) (σ : L2.St) (x y : V) (dx dy : D) (Φ : D → Prop) (Q : VK), ER K S F H ρ σ → Is K S x dx → Is K S y dy → wr dx dy Φ →
  (∀ v d S' H', Φ d → Same S S' → Is K S' v d → ER K S' F H' ρ σ → Q v H') → r x y H Q
def UnOk (K : Fg) (r : V → Hp → VK → Prop) (wr : D → (D → Prop) → Prop) : Prop := ∀ (S F H : Hp) (ρ : Rho) (σ : L2.St) (x : V) (dx : D) (Φ : D → Prop) (Q : VK), ER K S F H ρ σ → Is K S x dx → wr dx Φ →
  (∀ v d S' H', Φ d → Same S S' → Is K S' v d → ER K S' F H' ρ σ → Q v H') → r x H Q
def CallOk (K : Fg) (r : List V → Hp → VK → Prop) (wr : List D → (D → Prop) → Prop) : Prop := ∀ (S F H : Hp) (ρ : Rho) (σ : L2.St) (xs : List V) (ds : List D) (Φ : D → Prop) (Q : VK), ER K S F H ρ σ → IsAll K S xs ds → wr ds Φ →
  (∀ v d S' H', Φ d → Same S S' → Is K S' v d → ER K S' F H' ρ σ → Q v H') → r xs H Q
theorem OpOk.or {K : Fg} {r r' : R2} {w w' : D → D → (D → Prop) → Prop} (h : OpOk K r w) (h' : OpOk K r' w') : OpOk K (fun x y H Q => r x y H Q ∨ r' x y H Q) (fun x y Φ => w x y Φ ∨ w' x y Φ) :=
  fun S F H ρ σ x y dx dy Φ Q e ix iy hw hp => hw.elim (fun z => .inl (h S F H ρ σ x y dx dy Φ Q e ix iy z hp)) fun z => .inr (h' S F H ρ σ x y dx dy Φ Q e ix iy z hp)
theorem OpOk.imp {K : Fg} {r : R2} {w w' : D → D → (D → Prop) → Prop} (h : OpOk K r w) (m : ∀ x y Φ, w' x y Φ → w x y Φ) : OpOk K r w' :=
  fun S F H ρ σ x y dx dy Φ Q e ix iy hw hp => h S F H ρ σ x y dx dy Φ Q e ix iy (m _ _ _ hw) hp

def wOp (wr : D → D → (D → Prop) → Prop) (wa wb : WE) : WE := fun ρ χ Φ => wa ρ χ fun x ρ1 => wb ρ1 χ fun y ρ2 => wr x y fun z => Φ z ρ2
def wUn (wr : D → (D → Prop) → Prop) (wa : WE) : WE := fun ρ χ Φ => wa ρ χ fun x ρ1 => wr x fun z => Φ z ρ1
def wCB (wr : List D → (D → Prop) → Prop) (wa : WL) : WE := fun ρ χ Φ => wa ρ χ fun xs ρ1 => wr xs fun z => Φ z ρ1
def wC (d : D) : WE := fun ρ _ Φ => Φ d ρ
def wVar (i : Nat) : WE := fun ρ _ Φ => match ρ[i]? with
  | some (.val d) => Φ d ρ
  | some (.own _ o) => Φ o.d (ρ.set i (.val o.d))
  | _ => False

section
variable {K : Fg} {W : WX} {wa wb wc : WE} {σ : L2.St} {H : Hp} {Q : VK}
theorem l_op {r : R2} {wr : D → D → (D → Prop) → Prop} (hr : OpOk K r wr) : ∀ σ H Q, lE K W (wOp wr wa wb) σ H Q → tOp r (lE K W wa) (lE K W wb) σ H Q := by
  rintro σ H Q ⟨ρ, S, F, χ, Φ, e, hw, hx, hp⟩
  refine ⟨ρ, S, F, χ, _, e, hw, hx, fun x dx ρ1 S1 H1 h1 s1 i1 e1 => ?_⟩
  refine ⟨ρ1, S1, F, χ, _, e1, h1, hx.mono s1, fun y dy ρ2 S2 H2 h2 s2 i2 e2 => ?_⟩
  exact hr S2 F H2 ρ2 σ x y dx dy _ Q e2 (i1.mono s2) i2 h2 fun v d S3 H3 h3 s3 i3 e3 => hp v d ρ2 S3 H3 h3 ((s1.trans s2).trans s3) i3 e3
theorem l_un {r : V → Hp → VK → Prop} {wr : D → (D → Prop) → Prop} (hr : UnOk K r wr) : ∀ σ H Q, lE K W (wUn wr wa) σ H Q → tUn r (lE K W wa) σ H Q := by
  rintro σ H Q ⟨ρ, S, F, χ, Φ, e, hw, hx, hp⟩
  refine ⟨ρ, S, F, χ, _, e, hw, hx, fun x dx ρ1 S1 H1 h1 s1 i1 e1 => ?_⟩
  exact hr S1 F H1 ρ1 σ x dx _ Q e1 i1 h1 fun v d S3 H3 h3 s3 i3 e3 => hp v d ρ1 S3 H3 h3 (s1.trans s3) i3 e3
theorem l_cb {r : List V → Hp → VK → Prop} {wr : List D → (D → Prop) → Prop} {wl : WL} (hr : CallOk K r wr) : ∀ σ H Q, lE K W (wCB wr wl) σ H Q → tCB r (lL K W wl) σ H Q := by
  rintro σ H Q ⟨ρ, S, F, χ, Φ, e, hw, hx, hp⟩
  refine ⟨ρ, S, F, χ, _, e, hw, hx, fun xs ds ρ1 S1 H1 h1 s1 i1 e1 => ?_⟩
  exact hr S1 F H1 ρ1 σ xs ds _ Q e1 i1 h1 fun v d S3 H3 h3 s3 i3 e3 => hp v d ρ1 S3 H3 h3 (s1.trans s3) i3 e3
theorem l_c {v : V} {d : D} (hd : ∀ S, Is K S v d) : ∀ σ H Q, lE K W (wC d) σ H Q → tC v σ H Q := by
  rintro σ H Q ⟨ρ, S, F, χ, Φ, e, hw, hx, hp⟩
  exact hp v d ρ S H hw (Same.refl S) (hd S) e
theorem l_var {i : Nat} : ∀ σ H Q, lE K W (wVar i) σ H Q → tVar i σ H Q := by
  rintro σ H Q ⟨ρ, S, F, χ, Φ, e, hw, hx, hp⟩
  unfold wVar at hw
  split at hw
  · rename_i d hd
    obtain ⟨v, h1, h2⟩ := e.val i d hd
    exact ⟨v, h1, hp v d ρ S H hw (Same.refl S) h2 e⟩
  · rename_i l o hd
    obtain ⟨S', s', e', iv⟩ := e.frz hd
    exact ⟨_, (e.own i l o hd).1, hp _ _ _ S' H hw s' iv e'⟩
  · exact hw.elim
end

/-! ### lists of data -/
def wNil : WL := fun ρ _ Φ => Φ [] ρ
def wCons (wa : WE) (wr : WL) : WL := fun ρ χ Φ => wa ρ χ fun x ρ1 => wr ρ1 χ fun xs ρ2 => Φ (x :: xs) ρ2
section
variable {K : Fg} {W : WX} {wa wb wc : WE} {wl wm : WL} {σ : L2.St} {H : Hp} {Q : VK}
theorem l_nil : ∀ σ H Q, lL K W wNil σ H Q → tNil σ H Q := by
  rintro σ H Q ⟨ρ, S, F, χ, Φ, e, hw, hx, hp⟩
  exact hp [] [] ρ S H hw (Same.refl S) .nil e
theorem l_cons : ∀ σ H Q, lL K W (wCons wa wl) σ H Q → tCons (lE K W wa) (lL K W wl) σ H Q := by
  rintro σ H Q ⟨ρ, S, F, χ, Φ, e, hw, hx, hp⟩
  refine ⟨ρ, S, F, χ, _, e, hw, hx, fun x dx ρ1 S1 H1 h1 s1 i1 e1 => ?_⟩
  refine ⟨ρ1, S1, F, χ, _, e1, h1, hx.mono s1, fun ys dys ρ2 S2 H2 h2 s2 i2 e2 => ?_⟩
  exact hp (x :: ys) (dx :: dys) ρ2 S2 H2 h2 (s1.trans s2) (.cons (i1.mono s2) i2) e2
def wTup (wl : WL) : WE := fun ρ χ Φ => wl ρ χ fun xs ρ1 => xs.length ≤ sizeLine ∧ Φ (.tup xs) ρ1
def wLst (wl : WL) : WE := fun ρ χ Φ => wl ρ χ fun xs ρ1 => xs.length ≤ sizeLine ∧ Φ (.lst xs) ρ1
theorem l_tup : ∀ σ H Q, lE K W (wTup wl) σ H Q → tTup (lL K W wl) σ H Q := by
  rintro σ H Q ⟨ρ, S, F, χ, Φ, e, hw, hx, hp⟩
  refine ⟨ρ, S, F, χ, _, e, hw, hx, fun xs ds ρ1 S1 H1 h1 s1 i1 e1 => ⟨by rw [i1.length]; exact h1.1, fun p hp1 => ?_⟩⟩
  exact hp _ _ ρ1 _ _ h1.2 (s1.trans (e1.sn hp1)) (.tup upd_same (i1.mono (e1.sn hp1))) (e1.new hp1)
theorem l_lst : ∀ σ H Q, lE K W (wLst wl) σ H Q → tLst (lL K W wl) σ H Q := by
  rintro σ H Q ⟨ρ, S, F, χ, Φ, e, hw, hx, hp⟩
  refine ⟨ρ, S, F, χ, _, e, hw, hx, fun xs ds ρ1 S1 H1 h1 s1 i1 e1 => ⟨by rw [i1.length]; exact h1.1, fun p hp1 => ?_⟩⟩
  exact hp _ _ ρ1 _ _ h1.2 (s1.trans (e1.sn hp1)) (.lst upd_same (i1.mono (e1.sn hp1))) (e1.new hp1)
end

/-! ### tests -/
def wB (wa : WE) : WT := fun ρ χ Φ => wa ρ χ fun x ρ1 => match x with
  | .bl b => Φ b ρ1
  | _ => False
def wAnd (wa wb : WT) : WT := fun ρ χ Φ => wa ρ χ fun b ρ1 => if b = true then wb ρ1 χ Φ else Φ false ρ1
def wOr (wa wb : WT) : WT := fun ρ χ Φ => wa ρ χ fun b ρ1 => if b = true then Φ true ρ1 else wb ρ1 χ Φ
def wNot (wa : WT) : WT := fun ρ χ Φ => wa ρ χ fun b ρ1 => Φ (!b) ρ1
def wAndV (wa wb : WE) : WE := fun ρ χ Φ => wa ρ χ fun x ρ1 => match x with
  | .bl b => if b = true then wb ρ1 χ Φ else Φ (.bl false) ρ1
  | _ => False
def wOrV (wa wb : WE) : WE := fun ρ χ Φ => wa ρ χ fun x ρ1 => match x with
  | .bl b => if b = true then Φ (.bl true) ρ1 else wb ρ1 χ Φ
  | _ => False
def wNotV (wa : WE) : WE := fun ρ χ Φ => wa ρ χ fun x ρ1 => match x with
  | .bl b => Φ (.bl (!b)) ρ1
  | _ => False
def wIf (wt : WT) (wa wb : WE) : WE := fun ρ χ Φ => wt ρ χ fun b ρ1 => if b = true then wa ρ1 χ Φ else wb ρ1 χ Φ
def wChain (wr wr' : D → D → (D → Prop) → Prop) (wa wb wc : WE) : WE := fun ρ χ Φ => wa ρ χ fun x ρ1 => wb ρ1 χ fun y ρ2 => wr x y fun z => match z with
  | .bl b => if b = true then wc ρ2 χ fun u ρ3 => wr' y u fun z' => Φ z' ρ3 else Φ (.bl false) ρ2
  | _ => False
section
variable {K : Fg} {W : WX} {wa wb wc : WE} {wt wu : WT} {σ : L2.St} {H : Hp} {Q : VK}
theorem l_B : ∀ σ H Q, lT K W (wB wa) σ H Q → tB (lE K W wa) σ H Q := by
  rintro σ H Q ⟨ρ, S, F, χ, Φ, e, hw, hx, hp⟩
  refine ⟨ρ, S, F, χ, _, e, hw, hx, fun x dx ρ1 S1 H1 h1 s1 i1 e1 => ?_⟩
  cases dx with
  | bl b => cases i1; exact ⟨b, rfl, hp b ρ1 S1 H1 h1 s1 e1⟩
  | _ => exact False.elim h1
theorem l_test : ∀ σ H Q, lT K W (wB wa) σ H Q → tTest (lE K W wa) σ H Q := l_B
theorem l_and : ∀ σ H Q, lT K W (wAnd wt wu) σ H Q → tAnd (lT K W wt) (lT K W wu) σ H Q := by
  rintro σ H Q ⟨ρ, S, F, χ, Φ, e, hw, hx, hp⟩
  refine ⟨ρ, S, F, χ, _, e, hw, hx, fun b ρ1 S1 H1 h1 s1 e1 => ?_⟩
  cases b with
  | true => exact ⟨ρ1, S1, F, χ, _, e1, h1, hx.mono s1, fun b ρ2 S2 H2 h2 s2 e2 => hp b ρ2 S2 H2 h2 (s1.trans s2) e2⟩
  | false => exact hp false ρ1 S1 H1 h1 s1 e1
theorem l_or : ∀ σ H Q, lT K W (wOr wt wu) σ H Q → tOr (lT K W wt) (lT K W wu) σ H Q := by
  rintro σ H Q ⟨ρ, S, F, χ, Φ, e, hw, hx, hp⟩
  refine ⟨ρ, S, F, χ, _, e, hw, hx, fun b ρ1 S1 H1 h1 s1 e1 => ?_⟩
  cases b with
  | false => exact ⟨ρ1, S1, F, χ, _, e1, h1, hx.mono s1, fun b ρ2 S2 H2 h2 s2 e2 => hp b ρ2 S2 H2 h2 (s1.trans s2) e2⟩
  | true => exact hp true ρ1 S1 H1 h1 s1 e1
theorem l_not : ∀ σ H Q, lT K W (wNot wt) σ H Q → tNot (lT K W wt) σ H Q := by
  rintro σ H Q ⟨ρ, S, F, χ, Φ, e, hw, hx, hp⟩
  exact ⟨ρ, S, F, χ, _, e, hw, hx, fun b ρ1 S1 H1 h1 s1 e1 => hp (!b) ρ1 S1 H1 h1 s1 e1⟩
theorem l_andV : ∀ σ H Q, lE K W (wAndV wa wb) σ H Q → tAndV (lE K W wa) (lE K W wb) σ H Q := by
  rintro σ H Q ⟨ρ, S, F, χ, Φ, e, hw, hx, hp⟩
  refine ⟨ρ, S, F, χ, _, e, hw, hx, fun x dx ρ1 S1 H1 h1 s1 i1 e1 => ?_⟩
  cases dx with
  | bl b =>
    cases i1
    refine ⟨b, rfl, ?_⟩
    cases b with
    | true => exact ⟨ρ1, S1, F, χ, _, e1, h1, hx.mono s1, fun v d ρ2 S2 H2 h2 s2 i2 e2 => hp v d ρ2 S2 H2 h2 (s1.trans s2) i2 e2⟩
    | false => exact hp _ _ ρ1 S1 H1 h1 s1 (.bl false) e1
  | _ => exact False.elim h1
theorem l_orV : ∀ σ H Q, lE K W (wOrV wa wb) σ H Q → tOrV (lE K W wa) (lE K W wb) σ H Q := by
  rintro σ H Q ⟨ρ, S, F, χ, Φ, e, hw, hx, hp⟩
  refine ⟨ρ, S, F, χ, _, e, hw, hx, fun x dx ρ1 S1 H1 h1 s1 i1 e1 => ?_⟩
  cases dx with
  | bl b =>
    cases i1
    refine ⟨b, rfl, ?_⟩
    cases b with
    | false => exact ⟨ρ1, S1, F, χ, _, e1, h1, hx.mono s1, fun v d ρ2 S2 H2 h2 s2 i2 e2 => hp v d ρ2 S2 H2 h2 (s1.trans s2) i2 e2⟩
    | true => exact hp _ _ ρ1 S1 H1 h1 s1 (.bl true) e1
  | _ => exact False.elim h1
theorem l_notV : ∀ σ H Q, lE K W (wNotV wa) σ H Q → tNotV (lE K W wa) σ H Q := by
  rintro σ H Q ⟨ρ, S, F, χ, Φ, e, hw, hx, hp⟩
  refine ⟨ρ, S, F, χ, _, e, hw, hx, fun x dx ρ1 S1 H1 h1 s1 i1 e1 => ?_⟩
  cases dx with
  | bl b => cases i1; exact ⟨b, rfl, hp _ _ ρ1 S1 H1 h1 s1 (.bl _) e1⟩
  | _ => exact False.elim h1
theorem l_if : ∀ σ H Q, lE K W (wIf wt wa wb) σ H Q → tIf (lT K W wt) (lE K W wa) (lE K W wb) σ H Q := by
  rintro σ H Q ⟨ρ, S, F, χ, Φ, e, hw, hx, hp⟩
  refine ⟨ρ, S, F, χ, _, e, hw, hx, fun b ρ1 S1 H1 h1 s1 e1 => ?_⟩
  cases b with
  | true => exact ⟨ρ1, S1, F, χ, _, e1, h1, hx.mono s1, fun v d ρ2 S2 H2 h2 s2 i2 e2 => hp v d ρ2 S2 H2 h2 (s1.trans s2) i2 e2⟩
  | false => exact ⟨ρ1, S1, F, χ, _, e1, h1, hx.mono s1, fun v d ρ2 S2 H2 h2 s2 i2 e2 => hp v d ρ2 S2 H2 h2 (s1.trans s2) i2 e2⟩
theorem l_chain {r r' : R2} {wr wr' : D → D → (D → Prop) → Prop} (hr : OpOk K r wr) (hr' : OpOk K r' wr') : ∀ σ H Q, lE K W (wChain wr wr' wa wb wc) σ H Q → tChain r r' (lE K W wa) (lE K W wb) (lE K W wc) σ H Q := by
  rintro σ H Q ⟨ρ, S, F, χ, Φ, e, hw, hx, hp⟩
  refine ⟨ρ, S, F, χ, _, e, hw, hx, fun x dx ρ1 S1 H1 h1 s1 i1 e1 => ?_⟩
  refine ⟨ρ1, S1, F, χ, _, e1, h1, hx.mono s1, fun y dy ρ2 S2 H2 h2 s2 i2 e2 => ?_⟩
  refine hr S2 F H2 ρ2 σ x y dx dy _ _ e2 (i1.mono s2) i2 h2 fun v d S3 H3 h3 s3 i3 e3 => ?_
  cases d with
  | bl b =>
    cases i3
    refine ⟨b, rfl, ?_⟩
    cases b with
    | true =>
      refine ⟨ρ2, S3, F, χ, _, e3, h3, hx.mono ((s1.trans s2).trans s3), fun u du ρ4 S4 H4 h4 s4 i4 e4 => ?_⟩
      exact hr' S4 F H4 ρ4 σ y u dy du _ Q e4 (i2.mono (s3.trans s4)) i4 h4 fun v d S5 H5 h5 s5 i5 e5 => hp v d ρ4 S5 H5 h5 ((((s1.trans s2).trans s3).trans s4).trans s5) i5 e5
    | false => exact hp _ _ ρ2 S3 H3 h3 ((s1.trans s2).trans s3) (.bl false) e3
  | _ => exact False.elim h3
end
end DL
set_option Elab.async false
set_option autoImplicit false
set_option linter.all false
set_option maxRecDepth 100000
set_option maxHeartbeats 3900000
namespace DL
open L2 PyProof.Rows PySem PySem.Spec

/-! ### where code runs: what it may raise, how much room there is, no text is being made around it -/
structure Cok (X : Cx) (W : WX) (k : Nat) : Prop where
  tk : Takes X W
  gd : X.A.guards = some []
  rm : Room k X.A
theorem Cok.mono {X : Cx} {W : WX} {j k : Nat} (c : Cok X W k) (h : j ≤ k) : Cok X W j := ⟨c.tk, c.gd, c.rm.mono h⟩
theorem Cok.hu {X : Cx} {W : WX} {k : Nat} (c : Cok X W k) : X.A.units + 1 < cLine := hu_of c.rm
theorem takesB {X : Cx} {s : Shared} {H : Hp} {scope : Scope} {cenv : Env} {fp : List Addr} : Takes (X.blk s H scope cenv fp) W0 := fun _ _ x => by
  rcases x with ⟨_, _, _, _, _, _, _, _, _, _, _, _, _, _, _, _, z⟩; exact absurd z id
theorem Cok.blk {X : Cx} {W : WX} {k : Nat} (c : Cok X W k) (s : Shared) (H : Hp) (scope : Scope) (cenv : Env) (fp : List Addr) : Cok (X.blk s H scope cenv fp) W0 k := ⟨takesB, c.gd, c.rm⟩

/-! ### a def's promise -/
structure FnG (P : Program) (w : World) (K : Fg) (mg : Str → Option Value) (base : Heap) (k : Nat) (f : Addr) (fd : FuncData) (ps : List Str) (sp : Sp) : Prop where
  len : ∀ (vs : List V) (H : Hp) (Q : VK) (E : XK), sp vs H Q E → vs.length = ps.length
  run : ∀ (A : Around) (outer : List Env) (s : Shared) (H : Hp) (args : Args) (us : List Value) (vs : List V) (Q : VK) (E : XK), Room k A → A.guards = some [] → Env0 P w K mg base A outer s H → BindsTo s fd args (ps.zip us) → Vals vs us → sp vs H Q E →
    codeAny (model P w) A (.call (.ref f) args) (CR (L2.CX P w) outer P w H s Q E) s
theorem FnG.mono {P : Program} {w : World} {K : Fg} {mg : Str → Option Value} {base : Heap} {j k : Nat} {f : Addr} {fd : FuncData} {ps : List Str} {sp : Sp} (F : FnG P w K mg base j f fd ps sp) (h : j ≤ k) :
    FnG P w K mg base k f fd ps sp := ⟨F.len, fun A outer s H args us vs Q E hr => F.run A outer s H args us vs Q E (hr.mono h)⟩
/-- the body's entry: one more level -/
theorem fnG_of {P : Program} {w : World} {K : Fg} {mg : Str → Option Value} {base : Heap} {x qual : Str} {params : Arguments} {body : List Stmt} {scope : Scope} {dvs : List V} {kws : List (Str × V)} {f : Addr} {fd : FuncData}
    {N ps : List Str} {k : Nat} {sp : Sp} (F : FunD K x qual params body scope dvs kws f fd) (S : FnScope N ps scope) (len : ∀ vs H Q E, sp vs H Q E → vs.length = ps.length)
    (hbody : ∀ (cdv : Value) (A : Around) (outer : List Env) (s : Shared) (H : Hp) (vs : List V) (Q : VK) (E : XK), Cok (cxOf (L2.CX P w) P w K mg base N qual scope f cdv A outer s H E) (fun cls d _ H' => E cls d H') k → sp vs H Q E →
      ∃ t, PSs (cxOf (L2.CX P w) P w K mg base N qual scope f cdv A outer s H E) body t ∧ t { nx := fun _ H' => Q .non H', rt := Q } (start N vs) H) :
    FnG P w K mg base (k + 1) f fd ps sp := by
  obtain ⟨_, _, dV, kV, doc, pm, an, cdv, ct, _, rfl, lk, hcd, _, _⟩ := F.ex; refine ⟨len, fun A outer s H args us vs Q E hr hg e0 hb r hsp => ?_⟩
  have hl := len _ _ _ _ hsp
  have kin : K.In s.heap := e0.mod.kin.keeps fun _ _ z => (e0.bs _ _ z).1
  have lim : s.heap.NoLimit := e0.mod.nolimit.keeps fun _ _ z => (e0.bs _ _ z).1
  have kinds := fun (y : Str × Value) (hy : y ∈ ps.zip us) => (S.par y.1 (List.of_mem_zip (a := y.1) (b := y.2) hy).1).imp id fun q => And.intro q (PySem.W.cellsFrom_some scope.names (s.heap.objs.size + 1) [] (.inl q))
  refine codeAny_call_function hr.depth (kin _ _ lk) rfl S.co S.gen rfl (PySem.W.codeRec_of kin hcd) (hb _ _ _ _ (wpAny_newFunctionEnv_cells S.kind kinds fun env he s1 x => ?_))
  cases he; refine ⟨lim.keeps x.toInCall.keep, codeAny_func ?_⟩
  obtain ⟨t, ht, hq⟩ := hbody cdv A outer s H vs Q E ⟨takes_of rfl rfl rfl rfl, hg, hr.deeper _⟩ hsp
  have I : Inv (cxOf (L2.CX P w) P w K mg base N qual scope f cdv A outer s H E) [] (start N vs) H s1 := inv_start S hr.hd e0 hl r x
  refine wpAny_mono (ht.run [] s1 _ H _ I hq) (fun fl s' hs => ?_) fun _ _ z => z
  have fin : ∀ {σ' : L2.St} {H' : Hp} {v : V} {u : Value}, Inv (cxOf (L2.CX P w) P w K mg base N qual scope f cdv A outer s H E) [] σ' H' s' → RelV v u → Q v H' → CE outer P w H s Q u s' :=
    fun J rv q => ⟨_, _, J.os, J.bare, J.base, J.hok, rv, q⟩
  cases fl with
  | ret u =>
    obtain ⟨_, _, _, J, rv, q⟩ := hs; exact fin J rv q
  | next =>
    obtain ⟨σ', H', J, q⟩ := hs
    exact fin (u := .none) (v := .non) J rfl q
  | brk =>
    obtain ⟨_, _, _, q⟩ := hs
    exact False.elim q
  | cont =>
    obtain ⟨_, _, _, q⟩ := hs
    exact False.elim q

section
variable {X : Cx} {W : WX} {k n : Nat} {f C : Addr} {fd : FuncData} {ps ks : List Str} {sp : Sp} {x : Str} {p pos : Pos} {e : Expr} {es : List Expr} {kws : List Keyword} {t tk : TA} {g : List Value → List Value → List Value} {gV : List V → List V → List V}
/-- f(..): E tells by the slots what is wanted of an exception -/
def tCallG (W : WX) (n m : Nat) (sp : Sp) (gV : List V → List V → List V) (t tk : TA) : TE := fun σ H Q => t σ H fun vs H1 => tk σ H1 fun zs H2 => vs.length = n ∧ zs.length = m ∧ sp (gV vs zs) H2 Q fun cls d H' => W cls d σ H'
theorem run_g {pn : List (Addr × Obj)} {σ : L2.St} {H : Hp} {s : Shared} {Q : VK} {us ws : List Value} {vs zs : List V} (F : FnG X.prog X.w X.K X.mg X.base k f fd ps sp) (c : Cok X W k) (hb : KBn X.K fd ps n ks g gV)
    (I : Inv X pn σ H s) (r : Vals vs us) (rz : Vals zs ws) (l1 : vs.length = n) (l2 : zs.length = ks.length) (h : sp (gV vs zs) H Q fun cls d H' => W cls d σ H') : wpAny (model X.prog X.w) X.A (call (.ref f) us (ks.zip ws)) (EP X pn σ Q) X.xe s := by
  have r2 := hb.rel r rz
  refine wpAny_call (codeAny_mono (F.run X.A X.stack s H ⟨us, ks.zip ws⟩ (g us ws) (gV vs zs) Q _ c.rm c.gd I.env0 (hb.to s us ws I.kIn (r.length.symm.trans l1) (rz.length.symm.trans l2)) r2 h) fun r s' hq => ?_)
  cases r with
  | error e => exact c.tk e s' (XE.of_call I (fun cls d H' h => h) hq)
  | ok fl =>
    cases fl with
    | ret u => exact I.after hq
    | next => exact False.elim hq
    | brk => exact False.elim hq
    | cont => exact False.elim hq
/-- f(e, ..) -/
theorem pe_g (F : FnG X.prog X.w X.K X.mg X.base k f fd ps sp) (c : Cok X W k) (hg : Gl X x) (hm : X.mg x = some (.ref f)) (hk : PySem.W.keepIn X.K (.ref f) = true) (hb : KBn X.K fd ps n [] g gV)
    (ha : PA X (e :: es) t) (hpl : (backTo pos (starEach es X.env)).any (·.1) = false := by rfl) (hdb : (x == ("__debug__" : Str)) = false := by decide) (he : starEach (e :: es) X.env = (false, eval e X.env) :: starEach es X.env := by rfl) :
    PE X (.Call (.Name x p) (e :: es) [] pos) (tCallG W n 0 sp gV t tNil) := by
  refine ⟨fun pn s σ H Q I h => ?_⟩
  refine wpAny_Call_Name_kw (ld_glob I hg hm (?_) hdb) <;> refine PySem.W.callWith_K (h₀ := X.base) I.ok.mod.kin hk (thn (ha.run pos pn s σ H _ I h) fun us s1 ⟨vs, H1, i1, r, l1, l2, q⟩ => ⟨i1.kIn, ?_⟩) he hpl
  have z := run_g (ws := []) (zs := []) F c hb i1 r .nil l1 l2 q
  exact z
/-- f(e, .., k = v, ..) -/
theorem pe_gk (F : FnG X.prog X.w X.K X.mg X.base k f fd ps sp) (c : Cok X W k) (hg : Gl X x) (hm : X.mg x = some (.ref f)) (hk : PySem.W.keepIn X.K (.ref f) = true) (hb : KBn X.K fd ps n ks g gV)
    (ha : PA X (e :: es) t) (hkw : PK X kws tk)
    (hall : ((backToKw pos (keywordEach kws X.env)).all (·.1.isSome)) = true := by rfl) (hks : (backToKw pos (keywordEach kws X.env)).filterMap (·.1) = ks := by rfl)
    (he : starEach (e :: es) X.env = (false, eval e X.env) :: starEach es X.env := by rfl) (hdb : (x == ("__debug__" : Str)) = false := by decide) (hpl : ((backTo pos (starEach (e :: es) X.env)).any (·.1) || (backToKw pos (keywordEach kws X.env)).any (·.1.isNone)) = false := by rfl) :
    PE X (.Call (.Name x p) (e :: es) kws pos) (tCallG W n ks.length sp gV t tk) := by
  refine ⟨fun pn s σ H Q I h => ?_⟩
  refine wpAny_Call_Name_kw (ld_glob I hg hm (?_) hdb) <;> refine PySem.W.callWith_KW (h₀ := X.base) I.ok.mod.kin hk hall (thn (ha.run pos pn s σ H _ I h) fun us s1 ⟨vs, H1, i1, r, q⟩ => ?_) hpl he
  refine thn (hkw.run pos pn s1 σ H1 _ i1 q) fun ws s2 ⟨zs, H2, i2, rz, l1, l2, q2⟩ => ⟨i2.kIn, ?_⟩
  rw [hks]
  exact run_g F c hb i2 r rz l1 l2 q2
/-- f(k = v, ..) -/
theorem pe_gk0 (F : FnG X.prog X.w X.K X.mg X.base k f fd ps sp) (c : Cok X W k) (hg : Gl X x) (hm : X.mg x = some (.ref f)) (hk : PySem.W.keepIn X.K (.ref f) = true) (hb : KBn X.K fd ps 0 ks g gV)
    (hkw : PK X kws tk) (hall : (backToKw pos (keywordEach kws X.env)).all (·.1.isSome) = true := by rfl) (hks : (backToKw pos (keywordEach kws X.env)).filterMap (·.1) = ks := by rfl)
    (hpl : ((backTo pos (starEach [] X.env)).any (·.1) || (backToKw pos (keywordEach kws X.env)).any (·.1.isNone)) = false := by rfl) (hdb : (x == ("__debug__" : Str)) = false := by decide) :
    PE X (.Call (.Name x p) [] kws pos) (tCallG W 0 ks.length sp gV tNil tk) := by
  refine ⟨fun pn s σ H Q I h => ?_⟩
  refine wpAny_Call_Name_kw (ld_glob I hg hm (?_) hdb) <;> refine PySem.W.callWith_KW0 (h₀ := X.base) I.ok.mod.kin hk hall ?_ hpl
  refine thn (hkw.run pos pn s σ H _ I h) fun ws s2 ⟨zs, H2, i2, rz, l1, l2, q2⟩ => ⟨i2.kIn, ?_⟩
  rw [hks]
  exact run_g (us := []) (vs := []) F c hb i2 .nil rz rfl l2 q2
/-- C(..), C(k = v, ..): an instance, then __init__ -/
def tMakeG (W : WX) (C : Addr) (n m : Nat) (sp : Sp) (gV : List V → List V → List V) (t tk : TA) : TE := fun σ H Q => t σ H fun vs H1 => tk σ H1 fun zs H2 => vs.length = n ∧ zs.length = m ∧
  ∀ x dx, H2 x = none → H2 dx = none → dx ≠ x → sp (gV (.ref x :: vs) zs) (upd (upd H2 dx (.own x)) x (.ins C dx [])) (fun v H3 => v = .non ∧ Q (.ref x) H3) fun cls d H' => W cls d σ H'
theorem run_makeG {pn : List (Addr × Obj)} {σ : L2.St} {H : Hp} {s : Shared} {Q : VK} {us ws : List Value} {vs zs : List V} (M : Mk X.K C f) (F : FnG X.prog X.w X.K X.mg X.base k f fd ps sp) (c : Cok X W (k + 1)) (hb : KBn X.K fd ps (n + 1) ks g gV)
    (I : Inv X pn σ H s) (r : Vals vs us) (rz : Vals zs ws) (l1 : vs.length = n) (l2 : zs.length = ks.length)
    (h : ∀ x dx, H x = none → H dx = none → dx ≠ x → sp (gV (.ref x :: vs) zs) (upd (upd H dx (.own x)) x (.ins C dx [])) (fun v H2 => v = .non ∧ Q (.ref x) H2) fun cls d H' => W cls d σ H') :
    wpAny (model X.prog X.w) X.A (call (.ref C) us (ks.zip ws)) (EP X pn σ Q) X.xe s := by
  have hq := h _ _ (I.hok.fresh (a := s.heap.objs.size + 1) (Nat.le_succ _)) (I.hok.fresh (a := s.heap.objs.size) (Nat.le_refl _)) (Nat.ne_of_lt (Nat.lt_succ_self _))
  have i2 := Inv.made (C := C) I
  have r2 := hb.rel (show Vals (V.ref _ :: vs) (Value.ref (s.heap.objs.size + 1) :: us) from .cons rfl r) rz
  have n1 : us.length + 1 = n + 1 := congrArg (· + 1) (r.length.symm.trans l1)
  have gd : (X.A.under (.builtin "type.__call__" ⟨.ref C :: us, ks.zip ws⟩)).guards = some [] := by
    rw [← c.gd]
    simp [Around.under, pushGuards, Code.guards, Code.isGuard, guardIds]
  refine wpAny_call (make_map (f := f) I.kIn M.makes M.init (beq_iff_eq.mp M.fn) (codeAny_mono (F.run _ X.stack _ _ ⟨Value.ref (s.heap.objs.size + 1) :: us, ks.zip ws⟩ (g (Value.ref (s.heap.objs.size + 1) :: us) ws) _ _ _ (c.rm.make C us (ks.zip ws)) gd
    (i2.env0.make C us (ks.zip ws)) (hb.to _ (Value.ref (s.heap.objs.size + 1) :: us) ws i2.kIn n1 (rz.length.symm.trans l2)) r2 hq) fun r s' hq' => ?_))
  cases r with
  | error e => exact c.tk e s' (XE.of_call i2 (fun cls d H' h => h) hq')
  | ok fl =>
    cases fl with
    | ret u =>
      obtain ⟨v, H', i3, rv, ev, q3⟩ := i2.after hq'
      subst ev
      exact ⟨rv, ⟨V.ref (s.heap.objs.size + 1), H', i3, rfl, q3⟩⟩
    | next => cases hq'
    | brk => cases hq'
    | cont => cases hq'
theorem pe_mk (M : Mk X.K C f) (F : FnG X.prog X.w X.K X.mg X.base k f fd ps sp) (c : Cok X W (k + 1)) (hg : Gl X x) (hm : X.mg x = some (.ref C)) (hb : KBn X.K fd ps (n + 1) [] g gV)
    (ha : PA X (e :: es) t) (hpl : (backTo pos (starEach es X.env)).any (·.1) = false := by rfl) (hdb : (x == ("__debug__" : Str)) = false := by decide) (he : starEach (e :: es) X.env = (false, eval e X.env) :: starEach es X.env := by rfl) :
    PE X (.Call (.Name x p) (e :: es) [] pos) (tMakeG W C n 0 sp gV t tNil) := by
  refine ⟨fun pn s σ H Q I h => ?_⟩
  refine wpAny_Call_Name_kw (ld_glob I hg hm (?_) hdb) <;> refine PySem.W.callWith_K (h₀ := X.base) I.ok.mod.kin M.kp (thn (ha.run pos pn s σ H _ I h) fun us s1 ⟨vs, H1, i1, r, l1, l2, q⟩ => ⟨i1.kIn, ?_⟩) he hpl
  have z := run_makeG (ws := []) (zs := []) M F c hb i1 r .nil l1 l2 q
  exact z
theorem pe_mkk0 (M : Mk X.K C f) (F : FnG X.prog X.w X.K X.mg X.base k f fd ps sp) (c : Cok X W (k + 1)) (hg : Gl X x) (hm : X.mg x = some (.ref C)) (hb : KBn X.K fd ps 1 ks g gV)
    (hkw : PK X kws tk) (hall : (backToKw pos (keywordEach kws X.env)).all (·.1.isSome) = true := by rfl) (hks : (backToKw pos (keywordEach kws X.env)).filterMap (·.1) = ks := by rfl) 
    (hdb : (x == ("__debug__" : Str)) = false := by decide) (hpl : ((backTo pos (starEach [] X.env)).any (·.1) || (backToKw pos (keywordEach kws X.env)).any (·.1.isNone)) = false := by rfl) :
    PE X (.Call (.Name x p) [] kws pos) (tMakeG W C 0 ks.length sp gV tNil tk) := by
  refine ⟨fun pn s σ H Q I h => ?_⟩
  refine wpAny_Call_Name_kw (ld_glob I hg hm (?_) hdb) <;> refine PySem.W.callWith_KW0 (h₀ := X.base) I.ok.mod.kin M.kp hall ?_ hpl
  refine thn (hkw.run pos pn s σ H _ I h) fun ws s2 ⟨zs, H2, i2, rz, l1, l2, q2⟩ => ⟨i2.kIn, ?_⟩
  rw [hks]
  exact run_makeG (us := []) (vs := []) M F c hb i2 .nil rz rfl l2 q2
end

/-! ### what a def means for data: at most one object of the caller's own, the first argument -/
abbrev Spc := Option OD → List D → (D → Option OD → Prop) → (Addr → Str → D → Prop) → Prop
def args (h : Option (Addr × OD)) (ds : List D) : Rho := (match h with
  | none => []
  | some p => [.own p.1 p.2]) ++ ds.map .val
def lSp (K : Fg) (n : Nat) (sp : Spc) : Sp := fun vs H Q E => ∃ S F h ds Ψ Ξ, vs.length = n ∧ ER K S F H (args h ds) (vs.map some) ∧ sp (h.map (·.2)) ds Ψ Ξ ∧
  (∀ d v o' S' H', Ψ d o' → o'.isSome = h.isSome → Same S S' → Is K S' v d → ER K S' F H' (args (h.bind fun p => o'.map fun o => (p.1, o)) ds) (vs.map some) → Q v H') ∧
  (∀ C f d v dd S' H', Ξ C f d → Same S S' → Same S' H' → (∀ a o, F a = some o → H' a = some o ∧ S' a = none) → S' dd = some (.xd [(f, v)]) → Is K S' v d → E (.ref C) (some dd) H')
theorem ER.vals {K : Fg} {S F H : Hp} {ρ : Rho} {σ : L2.St} (e : ER K S F H ρ σ) : Same S H := e.ex
theorem args_none (ds : List D) : args none ds = ds.map .val := rfl
theorem er_args {K : Fg} {S F H : Hp} {vs : List V} {ds : List D} (hi : IsAll K S vs ds) (ex : Same S H) (fr : ∀ a o, F a = some o → H a = some o ∧ S a = none) : ER K S F H (args none ds) (vs.map some) := by
  rw [args_none]
  refine ⟨by rw [List.length_map, List.length_map, hi.length], ex, fr, fun i d h => ?_, fun i l od h => ?_, fun i j l o o' h _ => ?_⟩
  · rw [List.getElem?_map] at h
    cases q : ds[i]? with
    | none => rw [q] at h; cases h
    | some d' =>
      rw [q] at h
      have e' : Sl.val d' = Sl.val d := Option.some.inj h
      cases e'
      obtain ⟨v, h1, h2⟩ := hi.get q
      exact ⟨v, by rw [List.getElem?_map, h1]; rfl, h2⟩
  · rw [List.getElem?_map] at h
    cases q : ds[i]? with
    | none => rw [q] at h; cases h
    | some d' => rw [q] at h; cases h
  · rw [List.getElem?_map] at h
    cases q : ds[i]? with
    | none => rw [q] at h; cases h
    | some d' => rw [q] at h; cases h
/-- a caller's view behind a call that owned nothing -/
theorem ER.back {K : Fg} {S F H S' Fc H' : Hp} {ρ : Rho} {σ : L2.St} (e : ER K S F H ρ σ) (s : Same S S') (ex : Same S' H') (fc : ∀ a o, S a = none → H a = some o → Fc a = some o) (fr : ∀ a o, Fc a = some o → H' a = some o ∧ S' a = none) : ER K S' F H' ρ σ := by
  refine ⟨e.len, ex, fun a o h => ?_, fun i d h => ?_, fun i l od h => ?_, e.dis⟩
  · obtain ⟨h1, h2⟩ := e.fr a o h
    exact fr a o (fc a o h2 h1)
  · obtain ⟨v, h1, h2⟩ := e.val i d h
    exact ⟨v, h1, h2.mono s⟩
  · obtain ⟨h1, h2, h3, o, h4, h5⟩ := e.own i l od h
    obtain ⟨h6, h7⟩ := fr l o (fc l o h2 h4)
    exact ⟨h1, h7, h3, o, h6, h5.mono s⟩
open Classical in
/-- all that is there, but what never changes and what the callee owns -/
noncomputable def others (S H : Hp) (p : Addr → Prop) : Hp := fun a => if p a then none else if S a = none then H a else none
theorem others_of {S H : Hp} {p : Addr → Prop} {a : Addr} {o : HO} (h1 : ¬ p a) (h2 : S a = none) (h3 : H a = some o) : others S H p a = some o := by
  unfold others; rw [if_neg h1, if_pos h2]; exact h3
theorem others_inv {S H : Hp} {p : Addr → Prop} {a : Addr} {o : HO} (h : others S H p a = some o) : ¬ p a ∧ S a = none ∧ H a = some o := by
  unfold others at h
  split at h
  · cases h
  · split at h
    · rename_i h1 h2; exact ⟨h1, h2, h⟩
    · cases h
/-- f(..), all its arguments data -/
def wCallA (n m : Nat) (sp : Spc) (gD : List D → List D → List D) (wa wk : WL) : WE := fun ρ χ Φ => wa ρ χ fun ds ρ1 => wk ρ1 χ fun zs ρ2 => ds.length = n ∧ zs.length = m ∧ sp none (gD ds zs) (fun d _ => Φ d ρ2) fun C f d => χ C f d ρ2
/-- f(x, ..), x the slot i, an object of one's own -/
def wCallB (i : Nat) (n : Nat) (sp : Spc) (wa : WL) : WE := fun ρ χ Φ => (∃ l o, ρ[i]? = some (Sl.own l o)) ∧ wa ρ χ fun ds ρ1 => ds.length = n ∧ match ρ1[i]? with
  | some (.own l o) => sp (some o) ds (fun d o' => ∃ o2, o' = some o2 ∧ Φ d (ρ1.set i (.own l o2))) fun _ _ _ => False
  | _ => False
theorem er_argsO {K : Fg} {S F H : Hp} {vs : List V} {ds : List D} {l : Addr} {o : HO} {od : OD} (hi : IsAll K S vs ds) (ex : Same S H) (fr : ∀ a o, F a = some o → H a = some o ∧ S a = none) (h1 : H l = some o) (h2 : S l = none) (h3 : F l = none) (h4 : OIs K S o od) :
    ER K S F H (args (some (l, od)) ds) ((V.ref l :: vs).map some) := by
  have e := er_args hi ex fr
  have nov : ∀ (j : Nat) (m : Addr) (o2 : OD), (ds.map Sl.val)[j]? ≠ some (Sl.own m o2) := fun j m o2 h => by
    rw [List.getElem?_map] at h
    cases q : ds[j]? with
    | none => rw [q] at h; cases h
    | some d' => rw [q] at h; cases h
  refine ⟨congrArg Nat.succ e.len, ex, fr, fun i d h => ?_, fun i m o2 h => ?_, fun i j m o1 o2 a b => ?_⟩
  · cases i with
    | zero => cases h
    | succ i => exact e.val i d h
  · cases i with
    | zero =>
      have h' : Sl.own l od = Sl.own m o2 := Option.some.inj h
      cases h'
      exact ⟨rfl, h2, h3, o, h1, h4⟩
    | succ i => exact absurd h (nov i m o2)
  · cases i with
    | zero =>
      cases j with
      | zero => rfl
      | succ j => exact absurd b (nov j m o2)
    | succ i => exact absurd a (nov i m o1)
/-- a caller's view behind a call that owned the object of the slot i -/
theorem ER.backO {K : Fg} {S F H S' Fc H' : Hp} {ρ : Rho} {σ : L2.St} {i : Nat} {l : Addr} {o : OD} {o2 : HO} {od2 : OD} (e : ER K S F H ρ σ) (hi : ρ[i]? = some (Sl.own l o)) (s : Same S S') (ex : Same S' H') (fc : ∀ a o, a ≠ l → S a = none → H a = some o → Fc a = some o) (fr : ∀ a o, Fc a = some o → H' a = some o ∧ S' a = none)
    (h1 : H' l = some o2) (h2 : S' l = none) (h4 : OIs K S' o2 od2) : ER K S' F H' (ρ.set i (.own l od2)) σ := by
  obtain ⟨b1, b2, b3, ob, b4, b5⟩ := e.own i l o hi
  have hil : i < ρ.length := (List.getElem?_eq_some_iff.mp hi).1
  refine ⟨by rw [List.length_set]; exact e.len, ex, fun a o h => ?_, fun j d h => ?_, fun j m od h => ?_, fun j k m o1 o3 q1 q2 => ?_⟩
  · obtain ⟨a1, a2⟩ := e.fr a o h
    exact fr a o (fc a o (fun z => by rw [z, b3] at h; cases h) a2 a1)
  · by_cases hj : j = i
    · subst hj; rw [List.getElem?_set_self hil] at h; cases h
    · rw [List.getElem?_set_ne (Ne.symm hj)] at h
      obtain ⟨v, a1, a2⟩ := e.val j d h
      exact ⟨v, a1, a2.mono s⟩
  · by_cases hj : j = i
    · subst hj; rw [List.getElem?_set_self hil] at h; cases h
      exact ⟨b1, h2, b3, o2, h1, h4⟩
    · rw [List.getElem?_set_ne (Ne.symm hj)] at h
      obtain ⟨a1, a2, a3, o4, a4, a5⟩ := e.own j m od h
      have ne : m ≠ l := fun z => by subst z; exact hj (e.dis _ _ _ _ _ h hi)
      obtain ⟨a6, a7⟩ := fr m o4 (fc m o4 ne a2 a4)
      exact ⟨a1, a7, a3, o4, a6, a5.mono s⟩
  · have back : ∀ {k : Nat} {o1 : OD}, (ρ.set i (.own l od2))[k]? = some (Sl.own m o1) → ∃ o3, ρ[k]? = some (Sl.own m o3) := fun {k o1} q => by
      by_cases hk : k = i
      · subst hk; rw [List.getElem?_set_self hil] at q; cases q; exact ⟨o, hi⟩
      · rw [List.getElem?_set_ne (Ne.symm hk)] at q; exact ⟨o1, q⟩
    obtain ⟨o5, q3⟩ := back q1
    obtain ⟨o6, q4⟩ := back q2
    exact e.dis _ _ _ _ _ q3 q4
section
variable {K : Fg} {W : WX} {sp : Spc} {n m N : Nat} {gV : List V → List V → List V} {gD : List D → List D → List D} {wa wk : WL}
def GRel (n m N : Nat) (gV : List V → List V → List V) (gD : List D → List D → List D) : Prop := ∀ (K : Fg) (S : Hp) vs ds us es, IsAll K S vs ds → IsAll K S us es → vs.length = n → us.length = m → IsAll K S (gV vs us) (gD ds es) ∧ (gV vs us).length = N
theorem l_callA (hg : GRel n m N gV gD) : ∀ σ H Q, lE K W (wCallA n m sp gD wa wk) σ H Q → tCallG W n m (lSp K N sp) gV (lL K W wa) (lL K W wk) σ H Q := by
  rintro σ H Q ⟨ρ, S, F, χ, Φ, e, hw, hx, hp⟩
  refine ⟨ρ, S, F, χ, _, e, hw, hx, fun vs ds ρ1 S1 H1 h1 s1 i1 e1 => ?_⟩
  refine ⟨ρ1, S1, F, χ, _, e1, h1, hx.mono s1, fun us es ρ2 S2 H2 h2 s2 i2 e2 => ?_⟩
  obtain ⟨l1, l2, h3⟩ := h2
  have l1' : vs.length = n := by rw [i1.length]; exact l1
  have l2' : us.length = m := by rw [i2.length]; exact l2
  obtain ⟨ig, lg⟩ := hg K S2 vs ds us es (i1.mono s2) i2 l1' l2'
  refine ⟨l1', l2', S2, others S2 H2 fun _ => False, none, _, _, _, lg, er_args ig e2.ex fun a o h => ?_, h3, fun d v o' S' H' q _ s' iv er => ?_, fun C f d v dd S' H' q s' ex fr hd iv => ?_⟩
  · obtain ⟨_, a1, a2⟩ := others_inv h
    exact ⟨a2, a1⟩
  · exact hp v d ρ2 S' H' q ((s1.trans s2).trans s') iv (e2.back s' er.ex (fun a o a1 a2 => others_of (fun z => z) a1 a2) er.fr)
  · exact hx C f d v dd ρ2 S' σ H' q ((s1.trans s2).trans s') (e2.back s' ex (fun a o a1 a2 => others_of (fun z => z) a1 a2) fr) hd iv
theorem l_callB {i : Nat} (hg : ∀ vs, gV vs [] = vs) : ∀ σ H Q, lE K W (wCallB i n sp wa) σ H Q → tCallG W (n + 1) 0 (lSp K (n + 1) sp) gV (tCons (tVar i) (lL K W wa)) tNil σ H Q := by
  rintro σ H Q ⟨ρ, S, F, χ, Φ, e, ⟨⟨l, o, hl⟩, hw⟩, hx, hp⟩
  obtain ⟨hσ, _⟩ := e.own i l o hl
  refine ⟨.ref l, hσ, ρ, S, F, χ, _, e, hw, hx, fun vs ds ρ1 S1 H1 h1 s1 i1 e1 => ?_⟩
  obtain ⟨l1, h2⟩ := h1
  have l1' : vs.length = n := by rw [i1.length]; exact l1
  split at h2
  · rename_i l' o' hl'
    obtain ⟨b1, b2, b3, ob, b4, b5⟩ := e1.own i l' o' hl'
    rw [hσ] at b1
    cases b1
    refine ⟨by rw [List.length_cons, l1'], rfl, S1, others S1 H1 (fun a => a = l), some (l, o'), ds, _, _, by rw [hg, List.length_cons, l1'], ?_, h2, fun d v o2 S' H' q hs s' iv er => ?_, fun C f d v dd S' H' q => q.elim⟩
    · rw [hg]
      exact er_argsO i1 e1.ex (fun a o h => by obtain ⟨_, a1, a2⟩ := others_inv h; exact ⟨a2, a1⟩) b4 b2 (by unfold others; rw [if_pos rfl]) b5
    · obtain ⟨od2, rfl, q⟩ := q
      rw [hg] at er
      obtain ⟨_, c2, _, o3, c4, c5⟩ := er.own 0 l od2 rfl
      exact hp v d _ S' H' q (s1.trans s') iv (e1.backO hl' s' er.ex (fun a o a0 a1 a2 => others_of (p := fun a => a = l) a0 a1 a2) er.fr c4 c2 c5)
  · exact h2.elim
end
end DL
set_option Elab.async false
set_option autoImplicit false
set_option linter.all false
set_option maxRecDepth 100000
set_option maxHeartbeats 3900000
namespace DL
open L2 PyProof.Rows PySem PySem.Spec

/-! ### statements -/
def DE.withNx (Δ : DE) (n : Rho → Prop) : DE := { Δ with nx := n }
def wSeq (w u : WS) : WS := fun ρ Δ => w ρ { Δ with nx := fun ρ' => u ρ' Δ }
def wNext : WS := fun ρ Δ => Δ.nx ρ
def wBreak : WS := fun ρ Δ => Δ.bk ρ
def wCont : WS := fun ρ Δ => Δ.ct ρ
def wAsg (i : Nat) (wa : WE) : WS := fun ρ Δ => wa ρ Δ.xc fun d ρ1 => Δ.nx (ρ1.set i (.val d))
def wRet (wa : WE) : WS := fun ρ Δ => wa ρ Δ.xc fun d ρ1 => Δ.rt d ρ1
def wRetN : WS := fun ρ Δ => Δ.rt .non ρ
def wDrop (wa : WE) : WS := fun ρ Δ => wa ρ Δ.xc fun _ ρ1 => Δ.nx ρ1
def wIfS (wt : WT) (w u : WS) : WS := fun ρ Δ => wt ρ Δ.xc fun b ρ1 => if b = true then w ρ1 Δ else u ρ1 Δ
section
variable {K : Fg} {W : WX} {wa wb : WE} {wt : WT} {w u : WS}
theorem l_seq : ∀ D σ H, lS K W (wSeq w u) D σ H → tSeq (lS K W w) (lS K W u) D σ H := by
  rintro D σ H ⟨ρ, S, F, Δ, e, hw, hx, h1, h2, h3, h4, h5⟩
  refine ⟨ρ, S, F, _, e, hw, hx, fun ρ' S' σ' H' q s' e' => ?_, h2, h3, h4, h5⟩
  exact ⟨ρ', S', F, Δ, e', q, hx.mono s', fun ρ2 S2 σ2 H2 a b c => h1 ρ2 S2 σ2 H2 a (s'.trans b) c, fun d v ρ2 S2 σ2 H2 a b c f => h2 d v ρ2 S2 σ2 H2 a (s'.trans b) c f,
    fun ρ2 S2 σ2 H2 a b c => h3 ρ2 S2 σ2 H2 a (s'.trans b) c, fun ρ2 S2 σ2 H2 a b c => h4 ρ2 S2 σ2 H2 a (s'.trans b) c, fun l od o ρ2 S2 σ2 H2 a b => h5 l od o ρ2 S2 σ2 H2 a (s'.trans b)⟩
theorem l_next : ∀ D σ H, lS K W wNext D σ H → tNext D σ H := by
  rintro D σ H ⟨ρ, S, F, Δ, e, hw, hx, h1, h2, h3, h4, h5⟩
  exact h1 ρ S σ H hw (Same.refl S) e
theorem l_brk : ∀ D σ H, lS K W wBreak D σ H → tBreak D σ H := by
  rintro D σ H ⟨ρ, S, F, Δ, e, hw, hx, h1, h2, h3, h4, h5⟩
  exact h3 ρ S σ H hw (Same.refl S) e
theorem l_cnt : ∀ D σ H, lS K W wCont D σ H → tCont D σ H := by
  rintro D σ H ⟨ρ, S, F, Δ, e, hw, hx, h1, h2, h3, h4, h5⟩
  exact h4 ρ S σ H hw (Same.refl S) e
theorem l_asg {i : Nat} : ∀ D σ H, lS K W (wAsg i wa) D σ H → tAsg (lE K W wa) (gName i) D σ H := by
  rintro D σ H ⟨ρ, S, F, Δ, e, hw, hx, h1, h2, h3, h4, h5⟩
  exact ⟨ρ, S, F, _, _, e, hw, hx, fun v d ρ' S' H' q s' iv e' => h1 _ S' _ H' q s' (e'.set iv)⟩
theorem l_ret : ∀ D σ H, lS K W (wRet wa) D σ H → tRet (lE K W wa) D σ H := by
  rintro D σ H ⟨ρ, S, F, Δ, e, hw, hx, h1, h2, h3, h4, h5⟩
  exact ⟨ρ, S, F, _, _, e, hw, hx, fun v d ρ' S' H' q s' iv e' => h2 d v _ S' _ H' q s' iv e'⟩
theorem l_retN : ∀ D σ H, lS K W wRetN D σ H → tRetN D σ H := by
  rintro D σ H ⟨ρ, S, F, Δ, e, hw, hx, h1, h2, h3, h4, h5⟩
  exact h2 .non .non ρ S σ H hw (Same.refl S) .non e
theorem l_drop : ∀ D σ H, lS K W (wDrop wa) D σ H → tDrop (lE K W wa) D σ H := by
  rintro D σ H ⟨ρ, S, F, Δ, e, hw, hx, h1, h2, h3, h4, h5⟩
  exact ⟨ρ, S, F, _, _, e, hw, hx, fun v d ρ' S' H' q s' iv e' => h1 _ S' _ H' q s' e'⟩
theorem l_ifS : ∀ D σ H, lS K W (wIfS wt w u) D σ H → tIfS (lT K W wt) (lS K W w) (lS K W u) D σ H := by
  rintro D σ H ⟨ρ, S, F, Δ, e, hw, hx, h1, h2, h3, h4, h5⟩
  refine ⟨ρ, S, F, _, _, e, hw, hx, fun b ρ' S' H' q s' e' => ?_⟩
  have go : ∀ w' : WS, w' ρ' Δ → lS K W w' D σ H' := fun w' q => ⟨ρ', S', F, Δ, e', q, hx.mono s', fun ρ2 S2 σ2 H2 a b c => h1 ρ2 S2 σ2 H2 a (s'.trans b) c, fun d v ρ2 S2 σ2 H2 a b c f => h2 d v ρ2 S2 σ2 H2 a (s'.trans b) c f,
    fun ρ2 S2 σ2 H2 a b c => h3 ρ2 S2 σ2 H2 a (s'.trans b) c, fun ρ2 S2 σ2 H2 a b c => h4 ρ2 S2 σ2 H2 a (s'.trans b) c, fun l od o ρ2 S2 σ2 H2 a b => h5 l od o ρ2 S2 σ2 H2 a (s'.trans b)⟩
  cases b with
  | true => exact go w q
  | false => exact go u q
end

def wRetO (wo : Rho → XC → (Addr → OD → Rho → Prop) → Prop) : WS := fun ρ Δ => wo ρ Δ.xc fun l od ρ1 => Δ.ro l od ρ1
/-! ### targets -/
abbrev WG := D → Rho → (Rho → Prop) → Prop
abbrev WGs := List D → Rho → (Rho → Prop) → Prop
def lG (K : Fg) (g : WG) : TG := fun x σ H Q => ∃ ρ S F d Φ, ER K S F H ρ σ ∧ Is K S x d ∧ g d ρ Φ ∧ ∀ ρ' S' σ' H', Φ ρ' → Same S S' → ER K S' F H' ρ' σ' → Q σ' H'
def lGs (K : Fg) (g : WGs) : TGs := fun xs σ H Q => ∃ ρ S F ds Φ, ER K S F H ρ σ ∧ IsAll K S xs ds ∧ g ds ρ Φ ∧ ∀ ρ' S' σ' H', Φ ρ' → Same S S' → ER K S' F H' ρ' σ' → Q σ' H'
def wgName (i : Nat) : WG := fun d ρ Φ => Φ (ρ.set i (.val d))
def wgNil : WGs := fun ds ρ Φ => ds = [] ∧ Φ ρ
def wgCons (g : WG) (gs : WGs) : WGs := fun ds ρ Φ => match ds with
  | d :: ds => g d ρ fun ρ1 => gs ds ρ1 Φ
  | [] => False
def wgTup (n : Nat) (gs : WGs) : WG := fun d ρ Φ => match d with
  | .tup ds => ds.length = n ∧ gs ds ρ Φ
  | _ => False
theorem PG.imp {X : Cx} {e : Expr} {t t' : TG} (h : PG X e t) (m : ∀ x σ H Q, t' x σ H Q → t x σ H Q) : PG X e t' := ⟨fun pins s σ H v u Q I r q => h.run pins s σ H v u Q I r (m v σ H Q q)⟩
theorem PGs.imp {X : Cx} {e : List Expr} {t t' : TGs} (h : PGs X e t) (m : ∀ x σ H Q, t' x σ H Q → t x σ H Q) : PGs X e t' := ⟨fun pins s σ H v u Q I r q => h.run pins s σ H v u Q I r (m v σ H Q q)⟩
section
variable {K : Fg}
theorem g_name {i : Nat} : ∀ x σ H Q, lG K (wgName i) x σ H Q → gName i x σ H Q := by
  rintro x σ H Q ⟨ρ, S, F, d, Φ, e, hi, hg, hp⟩
  exact hp _ S _ H hg (Same.refl S) (e.set hi)
theorem g_nil : ∀ x σ H Q, lGs K wgNil x σ H Q → gNil x σ H Q := by
  rintro x σ H Q ⟨ρ, S, F, d, Φ, e, hi, ⟨h1, hg⟩, hp⟩
  subst h1
  cases hi
  exact ⟨rfl, hp _ S _ H hg (Same.refl S) e⟩
theorem g_cons {g : WG} {gs : WGs} : ∀ x σ H Q, lGs K (wgCons g gs) x σ H Q → gCons (lG K g) (lGs K gs) x σ H Q := by
  rintro x σ H Q ⟨ρ, S, F, ds, Φ, e, hi, hg, hp⟩
  cases hi with
  | nil => exact hg.elim
  | cons a b => exact ⟨_, _, rfl, ρ, S, F, _, _, e, a, hg, fun ρ' S' σ' H' q s' e' => ⟨ρ', S', F, _, _, e', b.mono s', q, fun ρ2 S2 σ2 H2 q2 s2 e2 => hp ρ2 S2 σ2 H2 q2 (s'.trans s2) e2⟩⟩
theorem g_tup {n : Nat} {gs : WGs} : ∀ x σ H Q, lG K (wgTup n gs) x σ H Q → gTup K n (lGs K gs) x σ H Q := by
  rintro x σ H Q ⟨ρ, S, F, d, Φ, e, hi, hg, hp⟩
  cases hi with
  | tup h1 h2 => exact ⟨_, _, rfl, .inl (.inl (e.ex _ _ h1)), h2.length.trans hg.1, ρ, S, F, _, Φ, e, h2, hg.2, hp⟩
  | _ => exact False.elim hg
theorem l_asgG {W : WX} {wa : WE} {g : WG} : ∀ D σ H, lS K W (fun ρ Δ => wa ρ Δ.xc fun d ρ1 => g d ρ1 Δ.nx) D σ H → tAsg (lE K W wa) (lG K g) D σ H := by
  rintro D σ H ⟨ρ, S, F, Δ, e, hw, hx, h1, h2, h3, h4, h5⟩
  exact ⟨ρ, S, F, _, _, e, hw, hx, fun v d ρ' S' H' q s' iv e' => ⟨ρ', S', F, d, _, e', iv, q, fun ρ2 S2 σ2 H2 q2 s2 e2 => h1 ρ2 S2 σ2 H2 q2 (s'.trans s2) e2⟩⟩
end
def wAsgG (g : WG) (wa : WE) : WS := fun ρ Δ => wa ρ Δ.xc fun d ρ1 => g d ρ1 Δ.nx

/-! ### walks -/
structure DWk (K : Fg) (S : Hp) (J : It) (ds : List D) : Prop where
  go : ∀ i H, i < ds.length → Same S H → J.go i H
  stop : ∀ H, Same S H → J.stop ds.length H
  yld : ∀ i H x H', i < ds.length → Same S H → J.yld i H x H' → ∃ d, ds[i]? = some d ∧ ∀ S1 F (ρ : Rho) (σ : L2.St), Same S S1 → ER K S1 F H ρ σ → ∃ S2, Same S1 S2 ∧ Is K S2 x d ∧ ER K S2 F H' ρ σ
theorem DWk.mono {K : Fg} {S S' : Hp} {J : It} {ds : List D} (h : DWk K S J ds) (s : Same S S') : DWk K S' J ds :=
  ⟨fun i H a b => h.go i H a (s.trans b), fun H b => h.stop H (s.trans b), fun i H x H' a b c => by
    obtain ⟨d, h1, h2⟩ := h.yld i H x H' a (s.trans b) c
    exact ⟨d, h1, fun S1 F ρ σ q e => h2 S1 F ρ σ (s.trans q) e⟩⟩
def lI (K : Fg) (W : WX) (w : WL) : TI := fun σ H R => ∃ ρ S F χ Φ, ER K S F H ρ σ ∧ w ρ χ Φ ∧ XOk K F W S χ ∧ ∀ J ds ρ' S' H', Φ ds ρ' → Same S S' → ER K S' F H' ρ' σ → DWk K S' J ds → R J H'
theorem PI.imp {X : Cx} {tg e : Expr} {t t' : TI} (h : PI X tg e t) (m : ∀ σ H Q, t' σ H Q → t σ H Q) : PI X tg e t' := ⟨fun pins s σ H R I q => h.run pins s σ H R I (m σ H R q)⟩
theorem dwk_list {K : Fg} {S : Hp} {a : Addr} {vs : List V} {ds : List D} (h : S a = some (.lst vs)) (hi : IsAll K S vs ds) : DWk K S (Itl K a) ds := by
  have hl := hi.length
  refine ⟨fun i H h1 s => ⟨vs, vs[i]'(by omega), .inl (.inl (s _ _ h)), by simp⟩, fun H s => ⟨vs, .inl (.inl (s _ _ h)), by omega⟩, fun i H x H' h1 s y => ?_⟩
  obtain ⟨rfl, y⟩ := y
  have hx := y vs (.inl (.inl (s _ _ h)))
  obtain ⟨v, q1, q2⟩ := hi.get (i := i) (d := ds[i]) (by simp [h1])
  rw [q1] at hx
  cases hx
  exact ⟨ds[i], by simp [h1], fun S1 F ρ σ s1 e => ⟨S1, Same.refl S1, q2.mono s1, e⟩⟩
theorem dwk_tup {K : Fg} {S : Hp} {a : Addr} {vs : List V} {ds : List D} (h : S a = some (.tup vs)) (hi : IsAll K S vs ds) : DWk K S (Itt K a) ds := by
  have hl := hi.length
  refine ⟨fun i H h1 s => ⟨vs, vs[i]'(by omega), .inl (.inl (s _ _ h)), by simp⟩, fun H s => ⟨vs, .inl (.inl (s _ _ h)), by omega⟩, fun i H x H' h1 s y => ?_⟩
  obtain ⟨rfl, y⟩ := y
  have hx := y vs (.inl (.inl (s _ _ h)))
  obtain ⟨v, q1, q2⟩ := hi.get (i := i) (d := ds[i]) (by simp [h1])
  rw [q1] at hx
  cases hx
  exact ⟨ds[i], by simp [h1], fun S1 F ρ σ s1 e => ⟨S1, Same.refl S1, q2.mono s1, e⟩⟩
def rgD (lo : Int) (n : Nat) : List D := (List.range n).map fun i => D.int (lo + (i : Nat))
theorem dwk_range {K : Fg} {S : Hp} {lo : Int} {n : Nat} : DWk K S (Itr lo n) (rgD lo n) := by
  have hl : (rgD lo n).length = n := by simp [rgD]
  refine ⟨fun i H h1 s => ?_, fun H s => ?_, fun i H x H' h1 s y => ?_⟩
  · rw [hl] at h1; exact h1
  · rw [hl]; exact Nat.le_refl n
  · obtain ⟨rfl, rfl⟩ := y
    rw [hl] at h1
    exact ⟨.int (lo + i), by simp [rgD, h1], fun S1 F ρ σ s1 e => ⟨S1, Same.refl S1, .int _, e⟩⟩
/-- a list or a tuple, whichever it is -/
def wiSeq (wa : WE) : WL := fun ρ χ Φ => wa ρ χ fun d ρ1 => match d with
  | .lst ds => Φ ds ρ1
  | .tup ds => Φ ds ρ1
  | _ => False
theorem d_seq {X : Cx} {tg l : Expr} {W : WX} {wa : WE} (hl : PE X l (lE X.K W wa)) : PI X tg l (lI X.K W (wiSeq wa)) := by
  constructor; rintro pins s σ H R I ⟨ρ, S, F, χ, Φ, e, hw, hx, hp⟩
  have h' : lE X.K W wa σ H (fun x H1 => (∃ a xs, x = .ref a ∧ SqL X.K H1 a xs ∧ R (Itl X.K a) H1) ∨ ∃ a xs, x = .ref a ∧ SqT X.K H1 a xs ∧ R (Itt X.K a) H1) := by
    refine ⟨ρ, S, F, χ, _, e, hw, hx, fun v d ρ' S' H' q s' iv e' => ?_⟩
    cases iv with
    | lst h1 h2 => exact .inl ⟨_, _, rfl, .inl (.inl (e'.ex _ _ h1)), hp _ _ ρ' S' H' q s' e' (dwk_list h1 h2)⟩
    | tup h1 h2 => exact .inr ⟨_, _, rfl, .inl (.inl (e'.ex _ _ h1)), hp _ _ ρ' S' H' q s' e' (dwk_tup h1 h2)⟩
    | _ => exact False.elim q
  refine thn (hl.run pins s σ H _ I h') fun v s1 ⟨x, H1, I1, r1, q1⟩ => ?_
  have fresh : ∀ b ∈ [s1.heap.objs.size], FpOk X pins H1 b := fun b hb => by
    cases List.mem_singleton.mp hb; exact Inv.fpOk I1 (Nat.le_refl _) (I1.hok.fresh (Nat.le_refl s1.heap.objs.size))
  rcases q1 with ⟨a, xs, rfl, hq, q⟩ | ⟨a, xs, rfl, hq, q⟩ <;> cases r1
  · obtain ⟨_, _, p, _⟩ := I1.list hq
    exact wpAny_pyIter_list p.isList ⟨_, _, _, _, H1, rfl, I1.kept (t' := s1.toks) fun _ _ z => Heap.get?_push_of_some _ z, turn_list a _, ⟨_, Heap.get?_push_size _ rfl, rfl, rfl⟩, fresh, q⟩
  · obtain ⟨_, _, p, _⟩ := I1.tuple hq
    exact wpAny_pyIter_tuple p ⟨_, _, _, _, H1, rfl, I1.kept (t' := s1.toks) fun _ _ z => Heap.get?_push_of_some _ z, turn_tuple a _, ⟨_, Heap.get?_push_size _ rfl, rfl, rfl⟩, fresh, q⟩
def wiRg1 (wa : WL) : WL := fun ρ χ Φ => wa ρ χ fun ds ρ1 => match ds with
  | [.int j] => (-(2 ^ 62) ≤ j ∧ j < 2 ^ 62) ∧ Φ (rgD 0 j.toNat) ρ1
  | _ => False
def wiRg2 (wa : WL) : WL := fun ρ χ Φ => wa ρ χ fun ds ρ1 => match ds with
  | [.int i, .int j] => (-(2 ^ 62) ≤ i ∧ i < 2 ^ 62 ∧ -(2 ^ 62) ≤ j ∧ j < 2 ^ 62) ∧ Φ (rgD i (j - i).toNat) ρ1
  | _ => False
theorem i_rg1 {K : Fg} {W : WX} {wa : WL} : ∀ σ H R, lI K W (wiRg1 wa) σ H R → iRng1 (lL K W wa) σ H R := by
  rintro σ H R ⟨ρ, S, F, χ, Φ, e, hw, hx, hp⟩
  refine ⟨ρ, S, F, χ, _, e, hw, hx, fun vs ds ρ1 S1 H1 h1 s1 i1 e1 => ?_⟩
  split at h1
  · cases i1 with
    | cons a b =>
      cases a
      cases b
      exact ⟨_, rfl, h1.1.1, h1.1.2, hp _ _ ρ1 S1 H1 h1.2 s1 e1 dwk_range⟩
  · exact h1.elim
theorem i_rg2 {K : Fg} {W : WX} {wa : WL} : ∀ σ H R, lI K W (wiRg2 wa) σ H R → iRng2 (lL K W wa) σ H R := by
  rintro σ H R ⟨ρ, S, F, χ, Φ, e, hw, hx, hp⟩
  refine ⟨ρ, S, F, χ, _, e, hw, hx, fun vs ds ρ1 S1 H1 h1 s1 i1 e1 => ?_⟩
  split at h1
  · cases i1 with
    | cons a b =>
      cases a
      cases b with
      | cons a b =>
        cases a
        cases b
        exact ⟨_, _, rfl, h1.1, hp _ _ ρ1 S1 H1 h1.2 s1 e1 dwk_range⟩
  · exact h1.elim

/-! ### for -/
def wForL (g : WG) (wb : WS) : List D → Rho → DE → Prop
  | [], ρ, Δ => Δ.nx ρ
  | d :: ds, ρ, Δ => g d ρ fun ρ1 => wb ρ1 { Δ with nx := fun ρ' => wForL g wb ds ρ' Δ, ct := fun ρ' => wForL g wb ds ρ' Δ, bk := Δ.nx }
def wFor (wi : WL) (g : WG) (wb : WS) : WS := fun ρ Δ => wi ρ Δ.xc fun ds ρ1 => wForL g wb ds ρ1 Δ
theorem l_for {K : Fg} {W : WX} {wi : WL} {g : WG} {wb : WS} : ∀ D σ H, lS K W (wFor wi g wb) D σ H → tFor (lI K W wi) (lG K g) (lS K W wb) D σ H := by
  rintro D σ H ⟨ρ, S, F, Δ, e, hw, hx, h1, h2, h3, h4, h5⟩
  refine ⟨ρ, S, F, _, _, e, hw, hx, fun J ds ρ1 S1 H1 q1 s1 e1 wk => ?_⟩
  refine ⟨fun i m σ' H' => m = ds.length - i ∧ i ≤ ds.length ∧ ∃ ρ' S', Same S1 S' ∧ ER K S' F H' ρ' σ' ∧ wForL g wb (ds.drop i) ρ' Δ, ⟨_, rfl, Nat.zero_le _, ρ1, S1, Same.refl S1, e1, q1⟩, ?_⟩
  rintro i m σ' H' ⟨rfl, hi, ρ', S', s', e', q⟩
  by_cases hlt : i < ds.length
  · refine .inr ⟨wk.go i H' hlt (s'.trans e'.ex), fun σ2 H2 => ∃ ρ2 S2, Same S1 S2 ∧ ER K S2 F H2 ρ2 σ2 ∧ wForL g wb (ds.drop (i + 1)) ρ2 Δ, fun σ2 H2 n2 => ⟨ds.length - (i + 1), by omega, rfl, hlt, n2⟩, fun x H2 y => ?_⟩
    obtain ⟨d, hd, y2⟩ := wk.yld i H' x H2 hlt (s'.trans e'.ex) y
    obtain ⟨S2, s2, i2, e2⟩ := y2 S' F ρ' σ' s' e'
    have ed : ds.drop i = d :: ds.drop (i + 1) := by
      rw [(List.drop_eq_getElem_cons hlt)]
      rw [List.getElem?_eq_getElem hlt] at hd
      rw [Option.some.inj hd]
    rw [ed] at q
    refine ⟨ρ', S2, F, d, _, e2, i2, q, fun ρ3 S3 σ3 H3 q3 s3 e3 => ?_⟩
    have t3 : Same S S3 := ((s1.trans s').trans s2).trans s3
    exact ⟨ρ3, S3, F, _, e3, q3, hx.mono t3, fun ρ4 S4 σ4 H4 a b c => ⟨ρ4, S4, ((s'.trans s2).trans s3).trans b, c, a⟩, fun d v ρ4 S4 σ4 H4 a b c f => h2 d v ρ4 S4 σ4 H4 a (t3.trans b) c f,
      fun ρ4 S4 σ4 H4 a b c => h1 ρ4 S4 σ4 H4 a (t3.trans b) c, fun ρ4 S4 σ4 H4 a b c => ⟨ρ4, S4, ((s'.trans s2).trans s3).trans b, c, a⟩, fun l od o ρ4 S4 σ4 H4 a b => h5 l od o ρ4 S4 σ4 H4 a (t3.trans b)⟩
  · have ei : i = ds.length := by omega
    subst ei
    rw [List.drop_length] at q
    exact .inl ⟨wk.stop H' (s'.trans e'.ex), h1 ρ' S' σ' H' q (s1.trans s') e'⟩
end DL
set_option Elab.async false
set_option autoImplicit false
set_option linter.all false
set_option maxRecDepth 100000
set_option maxHeartbeats 3900000
namespace DL
open L2 PyProof.Rows PySem PySem.Spec

/-! ### operators -/
def wAdd : D → D → (D → Prop) → Prop := fun x y Φ => match x, y with
  | .int a, .int b => Φ (.int (a + b))
  | .str a, .str b => a.length + b.length ≤ sizeLine ∧ Φ (.str (a ++ b))
  | .lst a, .lst b => a.length + b.length ≤ sizeLine ∧ Φ (.lst (a ++ b))
  | .tup a, .tup b => a.length + b.length ≤ sizeLine ∧ Φ (.tup (a ++ b))
  | _, _ => False
def wSub : D → D → (D → Prop) → Prop := fun x y Φ => match x, y with
  | .int a, .int b => Φ (.int (a - b))
  | _, _ => False
def wMul : D → D → (D → Prop) → Prop := fun x y Φ => match x, y with
  | .int a, .int b => CMul a b ∧ Φ (.int (a * b))
  | .lst a, .int k => -(2 ^ 63) ≤ k ∧ k < 2 ^ 63 ∧ a.length * k.toNat ≤ sizeLine ∧ Φ (.lst (List.replicate k.toNat a).flatten)
  | _, _ => False
def wMod : D → D → (D → Prop) → Prop := fun x y Φ => match x, y with
  | .int a, .int b => 0 < b ∧ Φ (.int (a % b))
  | _, _ => False
def wDiv : D → D → (D → Prop) → Prop := fun x y Φ => match x, y with
  | .int a, .int b => CDiv a b ∧ Φ (.int (a / b))
  | _, _ => False
def wPow : D → D → (D → Prop) → Prop := fun x y Φ => match x, y with
  | .int a, .int b => CPow a b ∧ Φ (.int (a ^ b.toNat))
  | _, _ => False
def wCmp (p : Int → Int → Bool) : D → D → (D → Prop) → Prop := fun x y Φ => match x, y with
  | .int a, .int b => Φ (.bl (p a b))
  | _, _ => False
section
variable {K : Fg}
theorem ok_I0 {g : Int → Int → Int} {wr : D → D → (D → Prop) → Prop} (h : ∀ x y Φ, wr x y Φ → ∃ a b, x = .int a ∧ y = .int b ∧ Φ (.int (g a b))) : OpOk K (rI0 fun i j => .int (g i j)) wr := by
  intro S F H ρ σ x y dx dy Φ Q e ix iy hw hp
  obtain ⟨a, b, rfl, rfl, q⟩ := h _ _ _ hw
  cases ix
  cases iy
  exact ⟨a, b, rfl, rfl, hp _ _ S H q (Same.refl S) (.int _) e⟩
theorem ok_I {C : Int → Int → Prop} {g : Int → Int → Int} {wr : D → D → (D → Prop) → Prop} (h : ∀ x y Φ, wr x y Φ → ∃ a b, x = .int a ∧ y = .int b ∧ C a b ∧ Φ (.int (g a b))) : OpOk K (rI C fun i j => .int (g i j)) wr := by
  intro S F H ρ σ x y dx dy Φ Q e ix iy hw hp
  obtain ⟨a, b, rfl, rfl, hc, q⟩ := h _ _ _ hw
  cases ix
  cases iy
  exact ⟨a, b, rfl, rfl, hc, hp _ _ S H q (Same.refl S) (.int _) e⟩
theorem ok_B0 {p : Int → Int → Bool} : OpOk K (rI0 fun i j => .bl (p i j)) (wCmp p) := by
  intro S F H ρ σ x y dx dy Φ Q e ix iy hw hp
  unfold wCmp at hw
  split at hw
  · cases ix
    cases iy
    exact ⟨_, _, rfl, rfl, hp _ _ S H hw (Same.refl S) (.bl _) e⟩
  · exact hw.elim
theorem ok_sub : OpOk K (rI0 fun i j => .int (i - j)) wSub := ok_I0 fun x y Φ h => by
  unfold wSub at h
  split at h
  · exact ⟨_, _, rfl, rfl, h⟩
  · exact h.elim
theorem ok_mod : OpOk K (rI (fun _ j => 0 < j) fun i j => .int (i % j)) wMod := ok_I fun x y Φ h => by
  unfold wMod at h
  split at h
  · exact ⟨_, _, rfl, rfl, h.1, h.2⟩
  · exact h.elim
theorem ok_div : OpOk K (rI CDiv fun i j => .int (i / j)) wDiv := ok_I fun x y Φ h => by
  unfold wDiv at h
  split at h
  · exact ⟨_, _, rfl, rfl, h.1, h.2⟩
  · exact h.elim
theorem ok_pow : OpOk K (rI CPow fun i j => .int (i ^ j.toNat)) wPow := ok_I fun x y Φ h => by
  unfold wPow at h
  split at h
  · exact ⟨_, _, rfl, rfl, h.1, h.2⟩
  · exact h.elim
def rAddD (K : Fg) : R2 := fun x y H Q => rI0 (fun i j => .int (i + j)) x y H Q ∨ (∃ i j, x = .str i ∧ y = .str j ∧ i.length + j.length ≤ sizeLine ∧ Q (.str (i ++ j)) H) ∨ rCat x y H Q ∨ rCatA K x y H Q
theorem ok_add : OpOk K (rAddD K) wAdd := by
  intro S F H ρ σ x y dx dy Φ Q e ix iy hw hp
  unfold wAdd at hw
  split at hw
  · cases ix
    cases iy
    exact .inl ⟨_, _, rfl, rfl, hp _ _ S H hw (Same.refl S) (.int _) e⟩
  · cases ix
    cases iy
    exact .inr (.inl ⟨_, _, rfl, rfl, hw.1, hp _ _ S H hw.2 (Same.refl S) (.str _) e⟩)
  · cases ix with
    | lst a1 a2 =>
      cases iy with
      | lst b1 b2 =>
        refine .inr (.inr (.inl ⟨_, _, _, _, rfl, rfl, e.ex _ _ a1, e.ex _ _ b1, by rw [a2.length, b2.length]; exact hw.1, fun p hp1 => ?_⟩))
        exact hp _ _ _ _ hw.2 (e.sn hp1) (.lst upd_same ((a2.append b2).mono (e.sn hp1))) (e.new hp1)
  · cases ix with
    | tup a1 a2 =>
      cases iy with
      | tup b1 b2 =>
        refine .inr (.inr (.inr ⟨_, _, _, _, rfl, rfl, .inl (.inl (e.ex _ _ a1)), .inl (.inl (e.ex _ _ b1)), by rw [a2.length, b2.length]; exact hw.1, ?_⟩))
        refine ⟨fun z => ?_, fun z1 z2 => ?_, fun _ _ p hp1 => hp _ _ _ _ hw.2 (e.sn hp1) (.tup upd_same ((a2.append b2).mono (e.sn hp1))) (e.new hp1)⟩
        · subst z
          cases a2
          exact hp _ _ S H hw.2 (Same.refl S) (.tup b1 b2) e
        · subst z2
          cases b2
          exact hp _ _ S H (by rw [List.append_nil] at hw; exact hw.2) (Same.refl S) (.tup a1 a2) e
  · exact hw.elim
def rMulD : R2 := fun x y H Q => rI CMul (fun i j => .int (i * j)) x y H Q ∨ rRep x y H Q
theorem isAll_rep {S : Hp} {xs : List V} {ds : List D} (h : IsAll K S xs ds) : ∀ n : Nat, IsAll K S (List.replicate n xs).flatten (List.replicate n ds).flatten
  | 0 => .nil
  | n + 1 => by
    simp only [List.replicate_succ, List.flatten_cons]
    exact h.append (isAll_rep h n)
theorem ok_mul : OpOk K rMulD wMul := by
  intro S F H ρ σ x y dx dy Φ Q e ix iy hw hp
  unfold wMul at hw
  split at hw
  · cases ix
    cases iy
    exact .inl ⟨_, _, rfl, rfl, hw.1, hp _ _ S H hw.2 (Same.refl S) (.int _) e⟩
  · cases ix with
    | lst a1 a2 =>
      cases iy
      obtain ⟨h1, h2, h3, h4⟩ := hw
      exact .inr ⟨_, _, _, rfl, rfl, e.ex _ _ a1, h1, h2, by rw [a2.length]; exact h3, fun p hp1 => hp _ _ _ _ h4 (e.sn hp1) (.lst upd_same ((isAll_rep a2 _).mono (e.sn hp1))) (e.new hp1)⟩
  · exact hw.elim
end
theorem or_add {X : Cx} : OpR X (binaryOp .Add) (rAddD X.K) := op_add.or (op_add_str.or (op_cat.or op_catA))
theorem or_mul {X : Cx} : OpR X (binaryOp .Mult) rMulD := op_mul.or op_rep

/-! ### plain data as the model's -/
mutual
def pyOf : D → Option PyData
  | .non => some .none
  | .bl b => some (.bool b)
  | .int i => some (.int i)
  | .str s => some (.str s)
  | .lst xs => match pyOfL xs with
    | some ps => some (.list ps)
    | none => none
  | .tup xs => match pyOfL xs with
    | some ps => some (.tuple ps)
    | none => none
  | .obj _ _ _ => none
  | .dic _ _ => none
  | .scr _ => none
  | .raw _ => none
  | .exn _ _ _ _ => none
def pyOfL : List D → Option (List PyData)
  | [] => some []
  | x :: xs => match pyOf x, pyOfL xs with
    | some p, some ps => some (p :: ps)
    | _, _ => none
end
section
variable {K : Fg} {S H : Hp}
theorem both_dp (ex : Same S H) : (∀ v d, Is K S v d → ∀ p, pyOf d = some p → Dp K H v p) ∧ (∀ vs ds, IsAll K S vs ds → ∀ ps, pyOfL ds = some ps → DpAll K H vs ps) := by
  have h1 : ∀ {a : Addr} {vs : List V} {ds : List D}, S a = some (.lst vs) → IsAll K S vs ds → (∀ ps, pyOfL ds = some ps → DpAll K H vs ps) → ∀ p, pyOf (.lst ds) = some p → Dp K H (.ref a) p := fun {a vs ds} h _ ih p hp => by
    unfold pyOf at hp
    split at hp
    · rename_i ps hps
      cases hp
      exact .lst (.inl (.inl (ex _ _ h))) (ih _ hps)
    · cases hp
  have h2 : ∀ {a : Addr} {vs : List V} {ds : List D}, S a = some (.tup vs) → IsAll K S vs ds → (∀ ps, pyOfL ds = some ps → DpAll K H vs ps) → ∀ p, pyOf (.tup ds) = some p → Dp K H (.ref a) p := fun {a vs ds} h _ ih p hp => by
    unfold pyOf at hp
    split at hp
    · rename_i ps hps
      cases hp
      exact .tup (.inl (.inl (ex _ _ h))) (ih _ hps)
    · cases hp
  have h3 : ∀ ps, pyOfL [] = some ps → DpAll K H [] ps := fun ps h => by
    unfold pyOfL at h
    cases h
    exact .nil
  have h4 : ∀ {v : V} {vs : List V} {d : D} {ds : List D}, Is K S v d → IsAll K S vs ds → (∀ p, pyOf d = some p → Dp K H v p) → (∀ ps, pyOfL ds = some ps → DpAll K H vs ps) → ∀ ps, pyOfL (d :: ds) = some ps → DpAll K H (v :: vs) ps := fun {v vs d ds} _ _ a b ps h => by
    unfold pyOfL at h
    split at h
    · rename_i p ps' e1 e2
      cases h
      exact .cons (a _ e1) (b _ e2)
    · cases h
  refine ⟨fun v d h => ?_, fun vs ds h => ?_⟩
  · exact Is.rec (motive_1 := fun v d _ => ∀ p, pyOf d = some p → Dp K H v p) (motive_2 := fun vs ds _ => ∀ ps, pyOfL ds = some ps → DpAll K H vs ps)
      (fun p h => by unfold pyOf at h; cases h; exact .non) (fun b p h => by unfold pyOf at h; cases h; exact .bl b) (fun i p h => by unfold pyOf at h; cases h; exact .int i) (fun x p h => by unfold pyOf at h; cases h; exact .str x)
      h1 h2 (fun _ _ _ _ p h => by unfold pyOf at h; cases h) (fun _ _ _ _ p h => by unfold pyOf at h; cases h) (fun _ p h => by unfold pyOf at h; cases h) (fun _ p h => by unfold pyOf at h; cases h) (fun _ _ _ p h => by unfold pyOf at h; cases h) h3 h4 h
  · exact IsAll.rec (motive_1 := fun v d _ => ∀ p, pyOf d = some p → Dp K H v p) (motive_2 := fun vs ds _ => ∀ ps, pyOfL ds = some ps → DpAll K H vs ps)
      (fun p h => by unfold pyOf at h; cases h; exact .non) (fun b p h => by unfold pyOf at h; cases h; exact .bl b) (fun i p h => by unfold pyOf at h; cases h; exact .int i) (fun x p h => by unfold pyOf at h; cases h; exact .str x)
      h1 h2 (fun _ _ _ _ p h => by unfold pyOf at h; cases h) (fun _ _ _ _ p h => by unfold pyOf at h; cases h) (fun _ p h => by unfold pyOf at h; cases h) (fun _ p h => by unfold pyOf at h; cases h) (fun _ _ _ p h => by unfold pyOf at h; cases h) h3 h4 h
theorem Is.dp {v : V} {d : D} {p : PyData} (h : Is K S v d) (ex : Same S H) (hp : pyOf d = some p) : Dp K H v p := (both_dp ex).1 v d h p hp
end
def wEq (neg : Bool) : D → D → (D → Prop) → Prop := fun x y Φ => ∃ p q, pyOf x = some p ∧ pyOf y = some q ∧ SeqAt.shaped p = true ∧ SeqAt.shaped q = true ∧ Φ (.bl (if neg = true then !PyData.eqv p q else PyData.eqv p q))
theorem ok_eq {K : Fg} : OpOk K (rEqD K) (wEq false) := by
  intro S F H ρ σ x y dx dy Φ Q e ix iy ⟨p, q, h1, h2, h3, h4, h5⟩ hp
  exact ⟨p, q, ix.dp e.ex h1, iy.dp e.ex h2, h3, h4, hp _ _ S H h5 (Same.refl S) (.bl _) e⟩
theorem ok_ne {K : Fg} : OpOk K (rNeD K) (wEq true) := by
  intro S F H ρ σ x y dx dy Φ Q e ix iy ⟨p, q, h1, h2, h3, h4, h5⟩ hp
  exact ⟨p, q, ix.dp e.ex h1, iy.dp e.ex h2, h3, h4, hp _ _ S H h5 (Same.refl S) (.bl _) e⟩
/-- is None, is not None -/
def isNon : D → Option Bool
  | .non => some true
  | .raw _ => none
  | .exn _ _ _ _ => none
  | _ => some false
def wIsN (neg : Bool) : D → D → (D → Prop) → Prop := fun x y Φ => y = .non ∧ ∃ b, isNon x = some b ∧ Φ (.bl (if neg = true then !b else b))
theorem Is.isN {K : Fg} {S : Hp} {v : V} {d : D} {b : Bool} (h : Is K S v d) (hb : isNon d = some b) : decide (v = .non) = b := by
  cases h <;> (unfold isNon at hb; cases hb) <;> first | exact decide_eq_true rfl | exact decide_eq_false (fun z => nomatch z)
theorem ok_isN {K : Fg} : OpOk K (fun x y H Q => y = .non ∧ Q (.bl (decide (x = .non))) H) (wIsN false) := by
  rintro S F H ρ σ x y dx dy Φ Q e ix iy ⟨rfl, b, h1, h2⟩ hp
  cases iy
  refine ⟨rfl, hp _ _ S H h2 (Same.refl S) ?_ e⟩
  rw [ix.isN h1]
  exact .bl b
theorem ok_notN {K : Fg} : OpOk K (fun x y H Q => y = .non ∧ Q (.bl (!decide (x = .non))) H) (wIsN true) := by
  rintro S F H ρ σ x y dx dy Φ Q e ix iy ⟨rfl, b, h1, h2⟩ hp
  cases iy
  refine ⟨rfl, hp _ _ S H h2 (Same.refl S) ?_ e⟩
  rw [ix.isN h1]
  exact .bl (!b)

/-! ### items and slices -/
def wIx : D → D → (D → Prop) → Prop := fun x y Φ => match x, y with
  | .lst ds, .int i => ∃ d, atI ds i = some d ∧ Φ d
  | .tup ds, .int i => ∃ d, atI ds i = some d ∧ Φ d
  | .scr is, .int i => ∃ n, atI is i = some n ∧ Φ (.int n)
  | .str z, .int i => ∃ c, z.length ≤ sizeLine ∧ atI z.cps.toList i = some c ∧ Φ (.str ⟨#[c]⟩)
  | _, _ => False
theorem atI_all {K : Fg} {S : Hp} {vs : List V} {ds : List D} {i : Int} {d : D} (h : IsAll K S vs ds) (e : atI ds i = some d) : ∃ v, atI vs i = some v ∧ Is K S v d := by
  unfold atI at e ⊢
  rw [h.length]
  cases q : ixN ds.length i with
  | none => exact absurd (q ▸ e) (by intro z; cases z)
  | some j => rw [q] at e; exact h.get e
theorem ok_ix {K : Fg} : OpOk K (rIx K) wIx := by
  intro S F H ρ σ x y dx dy Φ Q e ix iy hw hp
  unfold wIx at hw
  split at hw
  · obtain ⟨d, h1, h2⟩ := hw
    cases ix with
    | lst a1 a2 =>
      cases iy
      obtain ⟨v, h3, h4⟩ := atI_all a2 h1
      exact .inl ⟨_, _, _, v, rfl, rfl, .inl (.inl (e.ex _ _ a1)), h3, hp _ _ S H h2 (Same.refl S) h4 e⟩
  · obtain ⟨d, h1, h2⟩ := hw
    cases ix with
    | tup a1 a2 =>
      cases iy
      obtain ⟨v, h3, h4⟩ := atI_all a2 h1
      exact .inr (.inl ⟨_, _, _, v, rfl, rfl, .inl (.inl (e.ex _ _ a1)), h3, hp _ _ S H h2 (Same.refl S) h4 e⟩)
  · obtain ⟨n, h1, h2⟩ := hw
    cases ix with
    | scr a1 =>
      cases iy
      refine .inl ⟨_, _, _, .int n, rfl, rfl, e.ex.seq a1, ?_, hp _ _ S H h2 (Same.refl S) (.int n) e⟩
      unfold atI at h1 ⊢
      rw [List.length_map]
      cases q : ixN _ _ with
      | none => rw [q] at h1; cases h1
      | some j =>
        rw [q] at h1
        rw [Option.bind_some] at h1 ⊢
        rw [List.getElem?_map, h1]
        rfl
  · obtain ⟨c, h1, h2, h3⟩ := hw
    cases ix
    cases iy
    exact .inr (.inr ⟨_, _, c, rfl, rfl, h1, h2, hp _ _ S H h3 (Same.refl S) (.str _) e⟩)
  · exact hw.elim
abbrev WO := Rho → XC → (Option Int → Rho → Prop) → Prop
def lO (K : Fg) (W : WX) (w : WO) : TO := fun σ H Q => ∃ ρ S F χ Φ, ER K S F H ρ σ ∧ w ρ χ Φ ∧ XOk K F W S χ ∧ ∀ o ρ' S' H', Φ o ρ' → Same S S' → ER K S' F H' ρ' σ → Q o H'
def woNone : WO := fun ρ _ Φ => Φ none ρ
def woSome (wa : WE) : WO := fun ρ χ Φ => wa ρ χ fun d ρ1 => match d with
  | .int i => Φ (some i) ρ1
  | _ => False
def cutD {α : Type} (xs : List α) (lo hi : Option Int) : List α := (xs.drop (HT.sIx xs.length 0 lo)).take (HT.sIx xs.length xs.length hi - HT.sIx xs.length 0 lo)
def wSl (wa : WE) (wl wh : WO) : WE := fun ρ χ Φ => wa ρ χ fun x ρ1 => wl ρ1 χ fun lo ρ2 => wh ρ2 χ fun hi ρ3 => match x with
  | .lst ds => Φ (.lst (cutD ds lo hi)) ρ3
  | .tup ds => Φ (.tup (cutD ds lo hi)) ρ3
  | _ => False
def rSlD (K : Fg) : V → Option Int → Option Int → Hp → VK → Prop := fun x lo hi H Q => rSlL K x lo hi H Q ∨ rSlA K x lo hi H Q
theorem SlR.or {X : Cx} {r r' : V → Option Int → Option Int → Hp → VK → Prop} (h : SlR X r) (h' : SlR X r') : SlR X (fun x lo hi H Q => r x lo hi H Q ∨ r' x lo hi H Q) := by
  intro _ _ _ _ _ _ _ _ _ _ _ _ I rx hs pl pu q
  exact q.elim (h _ _ _ _ _ _ _ _ _ _ _ _ I rx hs pl pu) (h' _ _ _ _ _ _ _ _ _ _ _ _ I rx hs pl pu)
theorem l_sl {K : Fg} {W : WX} {wa : WE} {wl wh : WO} : ∀ σ H Q, lE K W (wSl wa wl wh) σ H Q → tSl (rSlD K) (lE K W wa) (lO K W wl) (lO K W wh) σ H Q := by
  rintro σ H Q ⟨ρ, S, F, χ, Φ, e, hw, hx, hp⟩
  refine ⟨ρ, S, F, χ, _, e, hw, hx, fun x dx ρ1 S1 H1 h1 s1 i1 e1 => ?_⟩
  refine ⟨ρ1, S1, F, χ, _, e1, h1, hx.mono s1, fun lo ρ2 S2 H2 h2 s2 e2 => ?_⟩
  refine ⟨ρ2, S2, F, χ, _, e2, h2, hx.mono (s1.trans s2), fun hi ρ3 S3 H3 h3 s3 e3 => ?_⟩
  have i3 := i1.mono (s2.trans s3)
  have t3 := (s1.trans s2).trans s3
  cases i3 with
  | lst a1 a2 =>
    refine .inl ⟨_, _, rfl, .inl (.inl (e3.ex _ _ a1)), fun p hp1 => ?_⟩
    refine hp _ _ ρ3 _ _ h3 (t3.trans (e3.sn hp1)) (.lst upd_same ?_) (e3.new hp1)
    unfold cutV cutD
    rw [← a2.length]
    exact ((a2.drop _).take _).mono (e3.sn hp1)
  | tup a1 a2 =>
    refine .inr ⟨_, _, rfl, .inl (.inl (e3.ex _ _ a1)), fun z => ?_, fun _ p hp1 => ?_⟩
    · refine hp _ _ ρ3 S3 H3 h3 t3 ?_ e3
      unfold cutD
      rw [a2.length] at z
      rw [z.1, z.2, List.drop_zero, Nat.sub_zero, List.take_length]
      exact .tup a1 a2
    · refine hp _ _ ρ3 _ _ h3 (t3.trans (e3.sn hp1)) (.tup upd_same ?_) (e3.new hp1)
      unfold cutV cutD
      rw [← a2.length]
      exact ((a2.drop _).take _).mono (e3.sn hp1)
  | _ => exact False.elim h3
theorem o_none {K : Fg} {W : WX} : ∀ σ H Q, lO K W woNone σ H Q → tNoPart σ H Q := by
  rintro σ H Q ⟨ρ, S, F, χ, Φ, e, hw, hx, hp⟩
  exact hp none ρ S H hw (Same.refl S) e
theorem o_some {K : Fg} {W : WX} {wa : WE} : ∀ σ H Q, lO K W (woSome wa) σ H Q → tPart (lE K W wa) σ H Q := by
  rintro σ H Q ⟨ρ, S, F, χ, Φ, e, hw, hx, hp⟩
  refine ⟨ρ, S, F, χ, _, e, hw, hx, fun x dx ρ1 S1 H1 h1 s1 i1 e1 => ?_⟩
  cases i1 with
  | int i => exact ⟨i, rfl, hp _ ρ1 S1 H1 h1 s1 e1⟩
  | _ => exact False.elim h1
end DL
set_option Elab.async false
set_option autoImplicit false
set_option linter.all false
set_option maxRecDepth 100000
set_option maxHeartbeats 3900000
namespace DL
open L2 PyProof.Rows PySem PySem.Spec

theorem CallR.or {X : Cx} {f : Value} {r r' : List V → Hp → VK → Prop} (h : CallR X f r) (h' : CallR X f r') : CallR X f (fun xs H Q => r xs H Q ∨ r' xs H Q) := by
  intro _ _ _ _ _ _ _ I r q
  exact q.elim (h _ _ _ _ _ _ _ I r) (h' _ _ _ _ _ _ _ I r)
/-! ### built-ins by name -/
abbrev WCl := List D → (D → Prop) → Prop
def wLen : WCl := fun ds Φ => match ds with
  | [.lst xs] => Φ (.int xs.length)
  | [.tup xs] => Φ (.int xs.length)
  | [.scr is] => Φ (.int is.length)
  | [.str z] => z.length ≤ sizeLine ∧ Φ (.int z.length)
  | _ => False
def rLenD (K : Fg) : List V → Hp → VK → Prop := fun xs H Q => (∃ p ys, xs = [.ref p] ∧ (SqL K H p ys ∨ SqT K H p ys) ∧ Q (.int ys.length) H) ∨ ∃ z, xs = [.str z] ∧ z.length ≤ sizeLine ∧ Q (.int z.length) H
theorem cr_lenD {X : Cx} : CallR X (.builtin "len") (rLenD X.K) := CallR.or call_len_seq call_len_str
theorem isAll1 {K : Fg} {S : Hp} {vs : List V} {d : D} (h : IsAll K S vs [d]) : ∃ v, vs = [v] ∧ Is K S v d := by
  cases h with
  | cons a b => cases b; exact ⟨_, rfl, a⟩
theorem isAll2 {K : Fg} {S : Hp} {vs : List V} {d e : D} (h : IsAll K S vs [d, e]) : ∃ v u, vs = [v, u] ∧ Is K S v d ∧ Is K S u e := by
  cases h with
  | cons a b => cases b with
    | cons b c => cases c; exact ⟨_, _, rfl, a, b⟩
section
variable {K : Fg}
theorem ok_len : CallOk K (rLenD K) wLen := by
  intro S F H ρ σ vs ds Φ Q e hi hw hp
  unfold wLen at hw
  split at hw
  · obtain ⟨v, rfl, iv⟩ := isAll1 hi
    cases iv with
    | lst a1 a2 => exact .inl ⟨_, _, rfl, .inl (.inl (.inl (e.ex _ _ a1))), by rw [a2.length]; exact hp _ _ S H hw (Same.refl S) (.int _) e⟩
  · obtain ⟨v, rfl, iv⟩ := isAll1 hi
    cases iv with
    | tup a1 a2 => exact .inl ⟨_, _, rfl, .inr (.inl (.inl (e.ex _ _ a1))), by rw [a2.length]; exact hp _ _ S H hw (Same.refl S) (.int _) e⟩
  · obtain ⟨v, rfl, iv⟩ := isAll1 hi
    cases iv with
    | scr a1 => exact .inl ⟨_, _, rfl, .inl (e.ex.seq a1), by rw [List.length_map]; exact hp _ _ S H hw (Same.refl S) (.int _) e⟩
  · obtain ⟨v, rfl, iv⟩ := isAll1 hi
    cases iv
    exact .inr ⟨_, rfl, hw.1, hp _ _ S H hw.2 (Same.refl S) (.int _) e⟩
  · exact hw.elim
def wAbs : WCl := fun ds Φ => match ds with
  | [.int i] => Φ (.int (if i < 0 then -i else i))
  | _ => False
theorem ok_abs : CallOk K (fun xs H Q => ∃ i, xs = [.int i] ∧ Q (.int (if i < 0 then -i else i)) H) wAbs := by
  intro S F H ρ σ vs ds Φ Q e hi hw hp
  unfold wAbs at hw
  split at hw
  · obtain ⟨v, rfl, iv⟩ := isAll1 hi
    cases iv
    exact ⟨_, rfl, hp _ _ S H hw (Same.refl S) (.int _) e⟩
  · exact hw.elim
def wMin2 : WCl := fun ds Φ => match ds with
  | [.int i, .int j] => Φ (.int (if j < i then j else i))
  | _ => False
def wMax2 : WCl := fun ds Φ => match ds with
  | [.int i, .int j] => Φ (.int (if j > i then j else i))
  | _ => False
theorem ok_min2 : CallOk K (fun xs H Q => ∃ i j, xs = [.int i, .int j] ∧ Q (.int (if j < i then j else i)) H) wMin2 := by
  intro S F H ρ σ vs ds Φ Q e hi hw hp
  unfold wMin2 at hw
  split at hw
  · obtain ⟨v, u, rfl, iv, iu⟩ := isAll2 hi
    cases iv
    cases iu
    exact ⟨_, _, rfl, hp _ _ S H hw (Same.refl S) (.int _) e⟩
  · exact hw.elim
theorem ok_max2 : CallOk K (fun xs H Q => ∃ i j, xs = [.int i, .int j] ∧ Q (.int (if j > i then j else i)) H) wMax2 := by
  intro S F H ρ σ vs ds Φ Q e hi hw hp
  unfold wMax2 at hw
  split at hw
  · obtain ⟨v, u, rfl, iv, iu⟩ := isAll2 hi
    cases iv
    cases iu
    exact ⟨_, _, rfl, hp _ _ S H hw (Same.refl S) (.int _) e⟩
  · exact hw.elim
def wInt : WCl := fun ds Φ => match ds with
  | [.int i] => Φ (.int i)
  | [.bl k] => Φ (.int (if k then 1 else 0))
  | _ => False
theorem ok_int : CallOk K (fun xs H Q => (∃ i, xs = [.int i] ∧ Q (.int i) H) ∨ ∃ k, xs = [.bl k] ∧ Q (.int (if k then 1 else 0)) H) wInt := by
  intro S F H ρ σ vs ds Φ Q e hi hw hp
  unfold wInt at hw
  split at hw
  · obtain ⟨v, rfl, iv⟩ := isAll1 hi
    cases iv
    exact .inl ⟨_, rfl, hp _ _ S H hw (Same.refl S) (.int _) e⟩
  · obtain ⟨v, rfl, iv⟩ := isAll1 hi
    cases iv
    exact .inr ⟨_, rfl, hp _ _ S H hw (Same.refl S) (.int _) e⟩
  · exact hw.elim
def wStr : WCl := fun ds Φ => match ds with
  | [.int i] => i.natAbs.log2 < 1920 ∧ Φ (.str (toString i))
  | _ => False
theorem ok_str : CallOk K (fun xs H Q => ∃ i, xs = [.int i] ∧ i.natAbs.log2 < 1920 ∧ Q (.str (toString i)) H) wStr := by
  intro S F H ρ σ vs ds Φ Q e hi hw hp
  unfold wStr at hw
  split at hw
  · obtain ⟨v, rfl, iv⟩ := isAll1 hi
    cases iv
    exact ⟨_, rfl, hw.1, hp _ _ S H hw.2 (Same.refl S) (.str _) e⟩
  · exact hw.elim
def wTupOf : WCl := fun ds Φ => match ds with
  | [.lst xs] => Φ (.tup xs)
  | [.tup xs] => Φ (.tup xs)
  | _ => False
theorem ok_tupOf : CallOk K (fun xs H Q => ∃ p ys, xs = [.ref p] ∧ ((SqL K H p ys ∧ ∀ l, H l = none → Q (.ref l) (upd H l (.tup ys))) ∨ (SqT K H p ys ∧ Q (.ref p) H))) wTupOf := by
  intro S F H ρ σ vs ds Φ Q e hi hw hp
  unfold wTupOf at hw
  split at hw
  · obtain ⟨v, rfl, iv⟩ := isAll1 hi
    cases iv with
    | lst a1 a2 => exact ⟨_, _, rfl, .inl ⟨.inl (.inl (e.ex _ _ a1)), fun p hp1 => hp _ _ _ _ hw (e.sn hp1) (.tup upd_same (a2.mono (e.sn hp1))) (e.new hp1)⟩⟩
  · obtain ⟨v, rfl, iv⟩ := isAll1 hi
    cases iv with
    | tup a1 a2 => exact ⟨_, _, rfl, .inr ⟨.inl (.inl (e.ex _ _ a1)), hp _ _ S H hw (Same.refl S) (.tup a1 a2) e⟩⟩
  · exact hw.elim
def wLstOf : WCl := fun ds Φ => match ds with
  | [.lst xs] => Φ (.lst xs)
  | [.tup xs] => Φ (.lst xs)
  | _ => False
theorem ok_lstOf : CallOk K (fun xs H Q => ∃ p ys, xs = [.ref p] ∧ (SqL K H p ys ∨ SqT K H p ys) ∧ ∀ l, H l = none → Q (.ref l) (upd H l (.lst ys))) wLstOf := by
  intro S F H ρ σ vs ds Φ Q e hi hw hp
  unfold wLstOf at hw
  split at hw
  · obtain ⟨v, rfl, iv⟩ := isAll1 hi
    cases iv with
    | lst a1 a2 => exact ⟨_, _, rfl, .inl (.inl (.inl (e.ex _ _ a1))), fun p hp1 => hp _ _ _ _ hw (e.sn hp1) (.lst upd_same (a2.mono (e.sn hp1))) (e.new hp1)⟩
  · obtain ⟨v, rfl, iv⟩ := isAll1 hi
    cases iv with
    | tup a1 a2 => exact ⟨_, _, rfl, .inr (.inl (.inl (e.ex _ _ a1))), fun p hp1 => hp _ _ _ _ hw (e.sn hp1) (.lst upd_same (a2.mono (e.sn hp1))) (e.new hp1)⟩
  · exact hw.elim
end

/-! ### repr -/
mutual
theorem noDict_of : ∀ (d : D) (p : PyData), pyOf d = some p → p.hasDict = false
  | .non, p, h => by unfold pyOf at h; cases h; simp only [PyData.hasDict]
  | .bl _, p, h => by unfold pyOf at h; cases h; simp only [PyData.hasDict]
  | .int _, p, h => by unfold pyOf at h; cases h; simp only [PyData.hasDict]
  | .str _, p, h => by unfold pyOf at h; cases h; simp only [PyData.hasDict]
  | .lst xs, p, h => by
    unfold pyOf at h
    split at h
    · rename_i ps e
      cases h
      simp only [PyData.hasDict]
      exact noDict_ofL xs ps e
    · cases h
  | .tup xs, p, h => by
    unfold pyOf at h
    split at h
    · rename_i ps e
      cases h
      simp only [PyData.hasDict]
      exact noDict_ofL xs ps e
    · cases h
  | .obj _ _ _, p, h => by unfold pyOf at h; cases h
  | .dic _ _, p, h => by unfold pyOf at h; cases h
  | .scr _, p, h => by unfold pyOf at h; cases h
  | .raw _, p, h => by unfold pyOf at h; cases h
  | .exn _ _ _ _, p, h => by unfold pyOf at h; cases h
theorem noDict_ofL : ∀ (ds : List D) (ps : List PyData), pyOfL ds = some ps → PyData.hasDictAll ps = false
  | [], ps, h => by unfold pyOfL at h; cases h; simp only [PyData.hasDictAll]
  | d :: ds, ps, h => by
    unfold pyOfL at h
    split at h
    · rename_i p ps' e1 e2
      cases h
      simp only [PyData.hasDictAll]
      rw [noDict_of d p e1, noDict_ofL ds ps' e2]
      rfl
    · cases h
end
def wRepr : WCl := fun ds Φ => ∃ d p, ds = [d] ∧ pyOf d = some p ∧ p.showable = true ∧ p.depth ≤ 64 ∧ p.shown.length ≤ sizeLine ∧ Φ (.str p.shown)
def rRepr (K : Fg) : List V → Hp → VK → Prop := fun xs H Q => ∃ v p, xs = [v] ∧ Dp K H v p ∧ p.showable = true ∧ p.hasDict = false ∧ p.depth ≤ 64 ∧ p.shown.length ≤ sizeLine ∧ Q (.str p.shown) H
theorem ok_repr {K : Fg} : CallOk K (rRepr K) wRepr := by
  rintro S F H ρ σ vs ds Φ Q e hi ⟨d, p, rfl, h1, h2, h3, h4, h5⟩ hp
  obtain ⟨v, rfl, iv⟩ := isAll1 hi
  exact ⟨v, p, rfl, iv.dp e.ex h1, h2, noDict_of d p h1, h3, h4, hp _ _ S H h5 (Same.refl S) (.str _) e⟩
theorem cr_repr {X : Cx} {W : WX} {k : Nat} (c : Cok X W k) : CallR X (.builtin "repr") (rRepr X.K) := by
  rintro pins s σ H xs us Q I r ⟨v, p, rfl, dp, hs, hn, hd, hz, q⟩
  obtain ⟨u, rfl, ru⟩ := vals1 r; obtain ⟨as, rd⟩ := Dp.reads I p v u dp ru
  have hu := c.rm.un
  cases dp with
  | non => cases ru; exact PySem.P.repr_of_none ⟨.str _, H, I.tok _, ⟨_, rfl⟩, by simpa only [PyData.shown] using q⟩
  | bl b => cases ru; exact PySem.P.repr_of_bool ⟨.str _, H, I.tok _, ⟨_, rfl⟩, by simpa only [PyData.shown] using q⟩
  | int i =>
    obtain ⟨t, rfl⟩ := ru
    exact PySem.P.repr_of_int (by simpa [PyData.showable] using hs) ⟨.str _, H, I.tok _, ⟨_, rfl⟩, by simpa only [PyData.shown] using q⟩
  | str x =>
    obtain ⟨t, rfl⟩ := ru
    exact PySem.P.repr_of_str ⟨.str _, H, I.tok _, ⟨_, rfl⟩, by simpa only [PyData.shown] using q⟩ (by simpa only [PyData.shown] using hz)
  | lst a b =>
    cases ru
    exact repr_of_reads' (h₀ := s.heap) rd hs (fun e => by rw [hn] at e; cases e) c.gd (by omega) (fun _ _ e => e) (fun h' u tk hk => ⟨.str _, H, I.kept hk, ⟨_, rfl⟩, q⟩) hz
  | tup a b =>
    cases ru
    exact repr_of_reads' (h₀ := s.heap) rd hs (fun e => by rw [hn] at e; cases e) c.gd (by omega) (fun _ _ e => e) (fun h' u tk hk => ⟨.str _, H, I.kept hk, ⟨_, rfl⟩, q⟩) hz

/-! ### fields -/
def lookD : List Str → List D → Str → Option D
  | n :: ns, d :: ds, f => if n = f then some d else lookD ns ds f
  | _, _, _ => none
theorem look_fs {K : Fg} {S : Hp} {f : Str} : ∀ {vs : List (Str × V)} {ds : List D} {d : D}, IsAll K S (vs.map (·.2)) ds → lookD (vs.map (·.1)) ds f = some d → ∃ v, vs.lookup f = some v ∧ Is K S v d
  | [], ds, d, hi, h => by cases hi; cases h
  | (n, v) :: vs, ds, d, hi, h => by
    cases hi with
    | cons a b =>
      have h : (if n = f then some _ else lookD (vs.map (·.1)) _ f) = some d := h
      by_cases e : n = f
      · rw [if_pos e] at h
        cases h
        subst e
        exact ⟨v, by simp [List.lookup], a⟩
      · rw [if_neg e] at h
        obtain ⟨u, h1, h2⟩ := look_fs b h
        refine ⟨u, ?_, h2⟩
        have e' : (f == n) = false := by simpa using fun z => e z.symm
        simp [List.lookup, e', h1]
def wFld (C : Addr) (f : Str) (wa : WE) : WE := fun ρ χ Φ => wa ρ χ fun x ρ1 => match x with
  | .obj c ns ds => c = C ∧ ∃ d, lookD ns ds f = some d ∧ Φ d ρ1
  | _ => False
theorem l_fld {K : Fg} {W : WX} {C : Addr} {f : Str} {wa : WE} (hc : Cls K C) (hn : NoAttr K C f) : ∀ σ H Q, lE K W (wFld C f wa) σ H Q → tFld K (lE K W wa) f σ H Q := by
  rintro σ H Q ⟨ρ, S, F, χ, Φ, e, hw, hx, hp⟩
  refine ⟨ρ, S, F, χ, _, e, hw, hx, fun x dx ρ1 S1 H1 h1 s1 i1 e1 => ?_⟩
  cases i1 with
  | obj a1 a2 a3 =>
    obtain ⟨rfl, d, h2, h3⟩ := h1
    subst a2
    obtain ⟨v, h4, h5⟩ := look_fs a3 h2
    exact ⟨_, _, _, _, v, rfl, e1.ex _ _ a1, hc, hn, h4, hp v d ρ1 S1 H1 h3 s1 h5 e1⟩
  | _ => exact False.elim h1

/-! ### texts -/
def wM1 (wr : Str → D → (D → Prop) → Prop) (wa wb : WE) : WE := fun ρ χ Φ => wa ρ χ fun x ρ1 => match x with
  | .str a => wb ρ1 χ fun y ρ2 => wr a y fun z => Φ z ρ2
  | _ => False
def wM0 (wr : Str → (D → Prop) → Prop) (wa : WE) : WE := fun ρ χ Φ => wa ρ χ fun x ρ1 => match x with
  | .str a => wr a fun z => Φ z ρ1
  | _ => False
def wJoin : Str → D → (D → Prop) → Prop := fun a y Φ => match y with
  | .lst ds => ∃ ys : List Str, ds = ys.map D.str ∧ (ys.map (·.length)).sum + ys.length * a.length ≤ 16777216 ∧ Φ (.str (Txt.join a ys))
  | _ => False
def wSplit : Str → D → (D → Prop) → Prop := fun a y Φ => match y with
  | .str b => (b.length == 0) = false ∧ a.length + 2 ≤ sizeLine ∧ Φ (.lst ((Txt.split a b).map D.str))
  | _ => False
def MtOk (K : Fg) (r : V → List V → Hp → VK → Prop) (wr : Str → D → (D → Prop) → Prop) : Prop := ∀ (S F H : Hp) (ρ : Rho) (σ : L2.St) (a : Str) (y : V) (dy : D) (Φ : D → Prop) (Q : VK), ER K S F H ρ σ → Is K S y dy → wr a dy Φ →
  (∀ v d S' H', Φ d → Same S S' → Is K S' v d → ER K S' F H' ρ σ → Q v H') → r (.str a) [y] H Q
theorem l_m1 {K : Fg} {W : WX} {wa wb : WE} {r : V → List V → Hp → VK → Prop} {wr : Str → D → (D → Prop) → Prop} (hr : MtOk K r wr) : ∀ σ H Q, lE K W (wM1 wr wa wb) σ H Q → tM1 r (lE K W wa) (lE K W wb) σ H Q := by
  rintro σ H Q ⟨ρ, S, F, χ, Φ, e, hw, hx, hp⟩
  refine ⟨ρ, S, F, χ, _, e, hw, hx, fun x dx ρ1 S1 H1 h1 s1 i1 e1 => ?_⟩
  cases i1 with
  | str a => exact ⟨⟨a, rfl⟩, ρ1, S1, F, χ, _, e1, h1, hx.mono s1, fun y dy ρ2 S2 H2 h2 s2 i2 e2 => hr S2 F H2 ρ2 σ a y dy _ Q e2 i2 h2 fun v d S3 H3 h3 s3 i3 e3 => hp v d ρ2 S3 H3 h3 ((s1.trans s2).trans s3) i3 e3⟩
  | _ => exact False.elim h1
theorem isAll_str {K : Fg} {S : Hp} : ∀ {ys : List Str} {vs : List V}, IsAll K S vs (ys.map D.str) → vs = ys.map V.str
  | [], _, h => by cases h; rfl
  | y :: ys, _, h => by
    cases h with
    | cons a b =>
      cases a
      rw [isAll_str b]
      rfl
theorem isAll_of_str {K : Fg} {S : Hp} : ∀ ys : List Str, IsAll K S (ys.map V.str) (ys.map D.str)
  | [] => .nil
  | y :: ys => .cons (.str y) (isAll_of_str ys)
abbrev rJoin (K : Fg) : V → List V → Hp → VK → Prop := fun x xs H Q => ∃ a p, ∃ ys : List Str, x = .str a ∧ xs = [.ref p] ∧ (SqL K H p (ys.map V.str) ∨ SqT K H p (ys.map V.str)) ∧ (ys.map (·.length)).sum + ys.length * a.length ≤ 16777216 ∧ Q (.str (Txt.join a ys)) H
theorem ok_join {K : Fg} : MtOk K (rJoin K) wJoin := by
  intro S F H ρ σ a y dy Φ Q e iy hw hp
  unfold wJoin at hw
  split at hw
  · obtain ⟨ys, h1, h2, h3⟩ := hw
    subst h1
    cases iy with
    | lst a1 a2 =>
      rw [isAll_str a2] at a1
      exact ⟨a, _, ys, rfl, rfl, .inl (.inl (.inl (e.ex _ _ a1))), h2, hp _ _ S H h3 (Same.refl S) (.str _) e⟩
  · exact hw.elim
theorem ok_split {K : Fg} : MtOk K (fun x xs H Q => ∃ a b, x = .str a ∧ xs = [.str b] ∧ (b.length == 0) = false ∧ a.length + 2 ≤ sizeLine ∧ rNewStrs (Txt.split a b) H Q) wSplit := by
  intro S F H ρ σ a y dy Φ Q e iy hw hp
  unfold wSplit at hw
  split at hw
  · cases iy
    exact ⟨a, _, rfl, rfl, hw.1, hw.2.1, fun p hp1 => hp _ _ _ _ hw.2.2 (e.sn hp1) (.lst upd_same (isAll_of_str _)) (e.new hp1)⟩
  · exact hw.elim

/-! ### tuple(range(..)), list(range(..)) -/
def wRgT (wi : WL) : WE := fun ρ χ Φ => wi ρ χ fun ds ρ1 => match ds with
  | [.int n] => RgOk 0 n ∧ Φ (.tup (rgD 0 n.toNat)) ρ1
  | _ => False
def wRgL (wi : WL) : WE := fun ρ χ Φ => wi ρ χ fun ds ρ1 => match ds with
  | [.int n] => RgOk 0 n ∧ Φ (.lst (rgD 0 n.toNat)) ρ1
  | _ => False
theorem isAll_rg {K : Fg} {S : Hp} (a b : Int) : IsAll K S (rgV a b) (rgD a (b - a).toNat) := by
  unfold rgV rgD
  generalize (b - a).toNat = n
  have : ∀ l : List Nat, IsAll K S (l.map fun i => V.int (a + (i : Nat))) (l.map fun i => D.int (a + (i : Nat))) := fun l => by
    induction l with
    | nil => exact .nil
    | cons x l ih => exact .cons (.int _) ih
  exact this _
theorem l_rgT {K : Fg} {W : WX} {wa : WE} : ∀ σ H Q, lE K W (wRgT (wCons wa wNil)) σ H Q → tTupRg (tRg1 (lE K W wa)) σ H Q := by
  rintro σ H Q ⟨ρ, S, F, χ, Φ, e, hw, hx, hp⟩
  refine ⟨ρ, S, F, χ, _, e, hw, hx, fun x dx ρ1 S1 H1 h1 s1 i1 e1 => ?_⟩
  unfold wNil at h1
  cases i1 with
  | int n =>
    refine ⟨n, rfl, h1.1, fun p hp1 => hp _ _ ρ1 _ _ h1.2 (s1.trans (e1.sn hp1)) (.tup upd_same ?_) (e1.new hp1)⟩
    have z := isAll_rg (K := K) (S := upd S1 p (.tup (rgV 0 n))) 0 n
    rw [Int.sub_zero] at z
    exact z
  | _ => exact False.elim h1
theorem l_rgL {K : Fg} {W : WX} {wa : WE} : ∀ σ H Q, lE K W (wRgL (wCons wa wNil)) σ H Q → tLstRg (tRg1 (lE K W wa)) σ H Q := by
  rintro σ H Q ⟨ρ, S, F, χ, Φ, e, hw, hx, hp⟩
  refine ⟨ρ, S, F, χ, _, e, hw, hx, fun x dx ρ1 S1 H1 h1 s1 i1 e1 => ?_⟩
  unfold wNil at h1
  cases i1 with
  | int n =>
    refine ⟨n, rfl, h1.1, fun p hp1 => hp _ _ ρ1 _ _ h1.2 (s1.trans (e1.sn hp1)) (.lst upd_same ?_) (e1.new hp1)⟩
    have z := isAll_rg (K := K) (S := upd S1 p (.lst (rgV 0 n))) 0 n
    rw [Int.sub_zero] at z
    exact z
  | _ => exact False.elim h1
end DL
set_option Elab.async false
set_option autoImplicit false
set_option linter.all false
set_option maxRecDepth 100000
set_option maxHeartbeats 3900000
namespace DL
open L2 PyProof.Rows PySem PySem.Spec

/-! ### comprehensions -/
theorem wipe_set_out {σ : L2.St} {i : Nat} {x : Option V} : ∀ {vs : List Nat}, i ∉ vs → wipe (σ.set i x) vs = (wipe σ vs).set i x
  | [], _ => rfl
  | v :: vs, h => by
    have h1 : i ≠ v := fun z => h (by rw [z]; exact List.mem_cons_self)
    have h2 : i ∉ vs := fun z => h (List.mem_cons_of_mem _ z)
    unfold wipe
    rw [wipe_set_out h2, List.set_comm _ _ h1]
theorem wipe_set {σ : L2.St} {i : Nat} {x : Option V} : ∀ {vs : List Nat}, i ∈ vs → wipe (σ.set i x) vs = wipe σ vs
  | [], h => by cases h
  | v :: vs, h => by
    unfold wipe
    by_cases hi : i ∈ vs
    · rw [wipe_set hi]
    · have e : i = v := (List.mem_cons.mp h).resolve_right hi
      subst e
      rw [wipe_set_out hi, List.set_set]
theorem wipe_in {σ : L2.St} : ∀ {vs us : List Nat}, (∀ v ∈ us, v ∈ vs) → wipe (wipe σ us) vs = wipe σ vs
  | vs, [], _ => rfl
  | vs, u :: us, h => by
    show wipe ((wipe σ us).set u none) vs = _
    rw [wipe_set (h u List.mem_cons_self)]
    exact wipe_in fun v hv => h v (List.mem_cons_of_mem _ hv)
theorem wipe_wipe {σ : L2.St} {vs : List Nat} : wipe (wipe σ vs) vs = wipe σ vs := wipe_in fun _ h => h
def wipeR (ρ : Rho) : List Nat → Rho
  | [] => ρ
  | v :: vs => (wipeR ρ vs).set v .un
def backR (ρ0 ρ : Rho) : List Nat → Rho
  | [] => ρ
  | v :: vs => (backR ρ0 ρ vs).set v (match ρ0[v]? with
    | some (.val d) => .val d
    | _ => .un)
section
variable {K : Fg} {S F H : Hp} {ρ ρ0 : Rho} {σ : L2.St}
theorem wipeR_len : ∀ vs : List Nat, (wipeR ρ vs).length = ρ.length
  | [] => rfl
  | v :: vs => by unfold wipeR; rw [List.length_set]; exact wipeR_len vs
theorem backR_len : ∀ vs : List Nat, (backR ρ0 ρ vs).length = ρ.length
  | [] => rfl
  | v :: vs => by unfold backR; rw [List.length_set]; exact backR_len vs
theorem wipeR_at {i : Nat} {s : Sl} : ∀ {vs : List Nat}, (wipeR ρ vs)[i]? = some s → s = .un ∨ (i ∉ vs ∧ ρ[i]? = some s)
  | [], h => .inr ⟨by simp, h⟩
  | v :: vs, h => by
    unfold wipeR at h
    by_cases hi : v = i
    · subst hi
      have hv : v < (wipeR ρ vs).length := by
        have := (List.getElem?_eq_some_iff.mp h).1
        rwa [List.length_set] at this
      rw [List.getElem?_set_self hv] at h
      cases h
      exact .inl rfl
    · replace h := (List.getElem?_set_ne hi).symm.trans h
      rcases wipeR_at h with z | ⟨z1, z2⟩
      · exact .inl z
      · exact .inr ⟨by simp only [List.mem_cons, not_or]; exact ⟨fun e => hi e.symm, z1⟩, z2⟩
theorem backR_at {i : Nat} {s : Sl} : ∀ {vs : List Nat}, (backR ρ0 ρ vs)[i]? = some s → s = .un ∨ (i ∈ vs ∧ (∃ d, s = .val d) ∧ ρ0[i]? = some s) ∨ (i ∉ vs ∧ ρ[i]? = some s)
  | [], h => .inr (.inr ⟨by simp, h⟩)
  | v :: vs, h => by
    unfold backR at h
    by_cases hi : v = i
    · subst hi
      have hv : v < (backR ρ0 ρ vs).length := by
        have := (List.getElem?_eq_some_iff.mp h).1
        rwa [List.length_set] at this
      rw [List.getElem?_set_self hv] at h
      have h' := Option.some.inj h
      split at h'
      · rename_i d hd
        subst h'
        exact .inr (.inl ⟨List.mem_cons_self, ⟨d, rfl⟩, hd⟩)
      · exact .inl h'.symm
    · replace h := (List.getElem?_set_ne hi).symm.trans h
      rcases backR_at h with z | ⟨z1, z2⟩ | ⟨z1, z2⟩
      · exact .inl z
      · exact .inr (.inl ⟨List.mem_cons_of_mem _ z1, z2⟩)
      · exact .inr (.inr ⟨by simp only [List.mem_cons, not_or]; exact ⟨fun e => hi e.symm, z1⟩, z2⟩)
theorem wipe_get {i : Nat} {x : Option V} : ∀ {vs : List Nat}, i ∉ vs → (wipe σ vs)[i]? = σ[i]?
  | [], _ => rfl
  | v :: vs, h => by
    unfold wipe
    rw [List.getElem?_set_ne (fun z => h (by rw [z]; exact List.mem_cons_self))]
    exact wipe_get (x := x) fun z => h (List.mem_cons_of_mem _ z)
theorem ER.wipe (e : ER K S F H ρ σ) (vs : List Nat) : ER K S F H (wipeR ρ vs) (wipe σ vs) := by
  refine ⟨by rw [wipeR_len, wipe_length]; exact e.len, e.ex, e.fr, fun i d h => ?_, fun i l od h => ?_, fun i j l o o' h1 h2 => ?_⟩
  · rcases wipeR_at h with z | ⟨z1, z2⟩
    · cases z
    · rw [wipe_get (x := none) z1]; exact e.val i d z2
  · rcases wipeR_at h with z | ⟨z1, z2⟩
    · cases z
    · rw [wipe_get (x := none) z1]; exact e.own i l od z2
  · rcases wipeR_at h1 with z | ⟨_, z2⟩
    · cases z
    · rcases wipeR_at h2 with z | ⟨_, z4⟩
      · cases z
      · exact e.dis i j l o o' z2 z4
theorem ER.restore {S1 F1 H1 : Hp} {vs : List Nat} (e1 : ER K S1 F1 H1 ρ0 σ) (s : Same S1 S) (e : ER K S F H ρ (L2.wipe σ vs)) : ER K S F H (backR ρ0 ρ vs) σ := by
  refine ⟨by rw [backR_len, e.len, wipe_length], e.ex, e.fr, fun i d h => ?_, fun i l od h => ?_, fun i j l o o' h1 h2 => ?_⟩
  · rcases backR_at h with z | ⟨z1, _, z2⟩ | ⟨z1, z2⟩
    · cases z
    · obtain ⟨v, a, b⟩ := e1.val i d z2
      exact ⟨v, a, b.mono s⟩
    · obtain ⟨v, a, b⟩ := e.val i d z2
      rw [wipe_get (x := none) z1] at a
      exact ⟨v, a, b⟩
  · rcases backR_at h with z | ⟨_, ⟨d, z⟩, _⟩ | ⟨z1, z2⟩
    · cases z
    · cases z
    · have q := e.own i l od z2
      rw [wipe_get (x := none) z1] at q
      exact q
  · rcases backR_at h1 with z | ⟨_, ⟨d, z⟩, _⟩ | ⟨_, z2⟩
    · cases z
    · cases z
    · rcases backR_at h2 with z | ⟨_, ⟨d, z⟩, _⟩ | ⟨_, z4⟩
      · cases z
      · cases z
      · exact e.dis i j l o o' z2 z4
/-- a new object that others own -/
theorem ER.addF {p : Addr} {o : HO} (e : ER K S F H ρ σ) (hp : H p = none) : ER K S (upd F p o) (upd H p o) ρ σ := by
  have sp := e.sp hp
  refine ⟨e.len, fun b u h => by rw [upd_ne (ne_of_none h sp)]; exact e.ex b u h, fun a u h => ?_, e.val, fun i l od h => ?_, e.dis⟩
  · by_cases ha : a = p
    · subst ha; rw [upd_same] at h ⊢; exact ⟨h, sp⟩
    · rw [upd_ne ha] at h ⊢; exact e.fr a u h
  · obtain ⟨h1, h2, h3, ob, h4, h5⟩ := e.own i l od h
    have ne := ne_of_none h4 hp
    rw [upd_ne ne, upd_ne ne]
    exact ⟨h1, h2, h3, ob, h4, h5⟩
/-- it changes -/
theorem ER.chF {p : Addr} {o o' : HO} (e : ER K S (upd F p o) H ρ σ) : ER K S (upd F p o') (upd H p o') ρ σ := by
  obtain ⟨hp, sp⟩ := e.fr p o upd_same
  refine ⟨e.len, fun b u h => by rw [upd_ne (ne_of_none h sp)]; exact e.ex b u h, fun a u h => ?_, e.val, fun i l od h => ?_, e.dis⟩
  · by_cases ha : a = p
    · subst ha; rw [upd_same] at h ⊢; exact ⟨h, sp⟩
    · rw [upd_ne ha] at h ⊢; exact e.fr a u (by rw [upd_ne ha]; exact h)
  · obtain ⟨h1, h2, h3, ob, h4, h5⟩ := e.own i l od h
    have ne : l ≠ p := fun z => by rw [z, upd_same] at h3; cases h3
    rw [upd_ne ne] at h3
    rw [upd_ne ne, upd_ne ne]
    exact ⟨h1, h2, h3, ob, h4, h5⟩
/-- it is done: it never changes any more -/
theorem ER.doneF {p : Addr} {o : HO} (e : ER K S (upd F p o) H ρ σ) (fp : F p = none) : ER K (upd S p o) F H ρ σ ∧ Same S (upd S p o) := by
  obtain ⟨hp, sp⟩ := e.fr p o upd_same
  have sS : Same S (upd S p o) := fun b u h => by rw [upd_ne (ne_of_none h sp)]; exact h
  refine ⟨⟨e.len, fun b u h => ?_, fun a u h => ?_, fun i d h => ?_, fun i l od h => ?_, e.dis⟩, sS⟩
  · by_cases hb : b = p
    · subst hb; rw [upd_same] at h; cases h; exact hp
    · rw [upd_ne hb] at h; exact e.ex b u h
  · have ne := ne_of_none h fp
    obtain ⟨a1, a2⟩ := e.fr a u (by rw [upd_ne ne]; exact h)
    rw [upd_ne ne]; exact ⟨a1, a2⟩
  · obtain ⟨v, a1, a2⟩ := e.val i d h
    exact ⟨v, a1, a2.mono sS⟩
  · obtain ⟨h1, h2, h3, ob, h4, h5⟩ := e.own i l od h
    have ne : l ≠ p := fun z => by rw [z, upd_same] at h3; cases h3
    rw [upd_ne ne] at h3
    rw [upd_ne ne]
    exact ⟨h1, h2, h3, ob, h4, h5.mono sS⟩
end
/-- a target within a comprehension: its slots are the comprehension's own -/
def lGc (K : Fg) (vs : List Nat) (g : WG) : TG := fun x σ H Q => ∃ ρ S F d Φ, ER K S F H ρ σ ∧ Is K S x d ∧ g d ρ Φ ∧ ∀ ρ' S' σ' H', Φ ρ' → Same S S' → ER K S' F H' ρ' σ' → wipe σ' vs = wipe σ vs → Q σ' H'
def lGcs (K : Fg) (vs : List Nat) (g : WGs) : TGs := fun xs σ H Q => ∃ ρ S F ds Φ, ER K S F H ρ σ ∧ IsAll K S xs ds ∧ g ds ρ Φ ∧ ∀ ρ' S' σ' H', Φ ρ' → Same S S' → ER K S' F H' ρ' σ' → wipe σ' vs = wipe σ vs → Q σ' H'
section
variable {K : Fg} {vs : List Nat}
theorem gc_name {i : Nat} (hi : i ∈ vs) : ∀ x σ H Q, lGc K vs (wgName i) x σ H Q → gName i x σ H Q := by
  rintro x σ H Q ⟨ρ, S, F, d, Φ, e, hx, hg, hp⟩
  exact hp _ S _ H hg (Same.refl S) (e.set hx) (wipe_set hi)
theorem gc_nil : ∀ x σ H Q, lGcs K vs wgNil x σ H Q → gNil x σ H Q := by
  rintro x σ H Q ⟨ρ, S, F, d, Φ, e, hi, ⟨h1, hg⟩, hp⟩
  subst h1
  cases hi
  exact ⟨rfl, hp _ S _ H hg (Same.refl S) e rfl⟩
theorem gc_cons {g : WG} {gs : WGs} : ∀ x σ H Q, lGcs K vs (wgCons g gs) x σ H Q → gCons (lGc K vs g) (lGcs K vs gs) x σ H Q := by
  rintro x σ H Q ⟨ρ, S, F, ds, Φ, e, hi, hg, hp⟩
  cases hi with
  | nil => exact hg.elim
  | cons a b => exact ⟨_, _, rfl, ρ, S, F, _, _, e, a, hg, fun ρ' S' σ' H' q s' e' w' => ⟨ρ', S', F, _, _, e', b.mono s', q, fun ρ2 S2 σ2 H2 q2 s2 e2 w2 => hp ρ2 S2 σ2 H2 q2 (s'.trans s2) e2 (w2.trans w')⟩⟩
theorem gc_tup {n : Nat} {gs : WGs} : ∀ x σ H Q, lGc K vs (wgTup n gs) x σ H Q → gTup K n (lGcs K vs gs) x σ H Q := by
  rintro x σ H Q ⟨ρ, S, F, d, Φ, e, hi, hg, hp⟩
  cases hi with
  | tup h1 h2 => exact ⟨_, _, rfl, .inl (.inl (e.ex _ _ h1)), h2.length.trans hg.1, ρ, S, F, _, Φ, e, h2, hg.2, hp⟩
  | _ => exact False.elim hg
end
def wTrue : WT := fun ρ _ Φ => Φ true ρ
theorem l_yes {K : Fg} {W : WX} : ∀ σ H Q, lT K W wTrue σ H Q → tYes σ H Q := by
  rintro σ H Q ⟨ρ, S, F, χ, Φ, e, hw, hx, hp⟩
  exact hp true ρ S H hw (Same.refl S) e
def wLcL (g : WG) (wt : WT) (we : WE) (vs : List Nat) : List D → List D → Rho → (List D → Rho → Prop) → Prop
  | [], acc, ρ, Φ => Φ acc ρ
  | d :: ds, acc, ρ, Φ => g d ρ fun ρ1 => wt ρ1 χ0 fun b ρ2 => if b = true then we ρ2 χ0 fun y ρ3 => acc.length < sizeLine ∧ wLcL g wt we vs ds (acc ++ [y]) (wipeR ρ3 vs) Φ else wLcL g wt we vs ds acc (wipeR ρ2 vs) Φ
def wLc (wi : WL) (g : WG) (wt : WT) (we : WE) (vs : List Nat) : WE := fun ρ χ Φ => wi ρ χ fun ds ρ1 => wLcL g wt we vs ds [] (wipeR ρ1 vs) fun ys ρ2 => Φ (.lst ys) (backR ρ1 ρ2 vs)
theorem l_lc {K : Fg} {W : WX} {wi : WL} {g : WG} {wt : WT} {we : WE} {vs : List Nat} : ∀ σ H Q, lE K W (wLc wi g wt we vs) σ H Q → tLc (lI K W wi) (lGc K vs g) (lT K W0 wt) (lE K W0 we) vs σ H Q := by
  rintro σ H Q ⟨ρ, S, F, χ, Φ, e, hw, hx, hp⟩
  refine ⟨ρ, S, F, χ, _, e, hw, hx, fun J ds ρ1 S1 H1 q1 s1 e1 wk => fun L hL => ?_⟩
  have fL := e1.fp hL
  refine ⟨fun i m H' => m = ds.length - i ∧ i ≤ ds.length ∧ ∃ ρ' S' us acc, Same S1 S' ∧ ER K S' (upd F L (.lst us)) H' ρ' (wipe σ vs) ∧ IsAll K S' us acc ∧ wLcL g wt we vs (ds.drop i) acc ρ' (fun ys ρ2 => Φ (.lst ys) (backR ρ1 ρ2 vs)),
    ⟨_, rfl, Nat.zero_le _, wipeR ρ1 vs, S1, [], [], Same.refl S1, (e1.wipe vs).addF hL, .nil, q1⟩, ?_⟩
  rintro i m H' ⟨rfl, hi, ρ', S', us, acc, s', e', iu, q⟩
  by_cases hlt : i < ds.length
  · refine .inr ⟨wk.go i H' hlt (s'.trans e'.ex), fun H2 => ∃ ρ2 S2 us2 acc2, Same S1 S2 ∧ ER K S2 (upd F L (.lst us2)) H2 ρ2 (wipe σ vs) ∧ IsAll K S2 us2 acc2 ∧ wLcL g wt we vs (ds.drop (i + 1)) acc2 ρ2 (fun ys ρ3 => Φ (.lst ys) (backR ρ1 ρ3 vs)), fun H2 n2 => ⟨ds.length - (i + 1), by omega, rfl, hlt, n2⟩, fun x H2 y => ?_⟩
    obtain ⟨d, hd, y2⟩ := wk.yld i H' x H2 hlt (s'.trans e'.ex) y
    obtain ⟨S2, s2, i2, e2⟩ := y2 S' _ ρ' _ s' e'
    have ed : ds.drop i = d :: ds.drop (i + 1) := by
      rw [(List.drop_eq_getElem_cons hlt)]
      rw [List.getElem?_eq_getElem hlt] at hd
      rw [Option.some.inj hd]
    rw [ed] at q
    refine ⟨ρ', S2, _, d, _, e2, i2, q, fun ρ3 S3 σ3 H3 q3 s3 e3 w3 => ⟨w3.trans wipe_wipe, ?_⟩⟩
    have w3' : wipe σ3 vs = wipe σ vs := w3.trans wipe_wipe
    refine ⟨ρ3, S3, _, χ0, _, e3, q3, XOk.none, fun b ρ4 S4 H4 q4 s4 e4 => ?_⟩
    cases b with
    | false =>
      rw [if_neg Bool.false_ne_true] at q4 ⊢
      have e5 := e4.wipe vs
      rw [w3'] at e5
      exact ⟨_, S4, us, acc, ((s'.trans s2).trans s3).trans s4, e5, iu.mono ((s2.trans s3).trans s4), q4⟩
    | true =>
      rw [if_pos rfl] at q4 ⊢
      refine ⟨ρ4, S4, _, χ0, _, e4, q4, XOk.none, fun v dv ρ5 S5 H5 q5 s5 i5 e5 => ?_⟩
      obtain ⟨hl, q5⟩ := q5
      obtain ⟨h5, _⟩ := e5.fr L _ upd_same
      have iu5 := iu.mono (((s2.trans s3).trans s4).trans s5)
      refine ⟨us, h5, by rw [iu.length]; exact hl, ?_⟩
      have e6 := (e5.wipe vs).chF (o' := .lst (us ++ [v]))
      rw [w3'] at e6
      exact ⟨_, S5, us ++ [v], acc ++ [dv], (((s'.trans s2).trans s3).trans s4).trans s5, e6, iu5.append (.cons i5 .nil), q5⟩
  · have ei : i = ds.length := by omega
    subst ei
    rw [List.drop_length] at q
    refine .inl ⟨wk.stop H' (s'.trans e'.ex), ?_⟩
    obtain ⟨e7, s7⟩ := e'.doneF fL
    exact hp _ _ _ _ H' q ((s1.trans s').trans s7) (.lst upd_same (iu.mono s7)) (e1.restore (s'.trans s7) e7)
end DL
set_option Elab.async false
set_option autoImplicit false
set_option linter.all false
set_option maxRecDepth 100000
set_option maxHeartbeats 3900000
namespace DL
open L2 PyProof.Rows PySem PySem.Spec

/-! ### objects of one's own -/
section
variable {K : Fg} {S F H : Hp} {ρ : Rho} {σ : L2.St}
theorem ER.addH {p : Addr} {o : HO} (e : ER K S F H ρ σ) (hp : H p = none) : ER K S F (upd H p o) ρ σ := by
  have sp := e.sp hp
  refine ⟨e.len, fun b u h => by rw [upd_ne (ne_of_none h sp)]; exact e.ex b u h, fun a u h => ?_, e.val, fun i l od h => ?_, e.dis⟩
  · obtain ⟨a1, a2⟩ := e.fr a u h
    rw [upd_ne (ne_of_none a1 hp)]; exact ⟨a1, a2⟩
  · obtain ⟨h1, h2, h3, ob, h4, h5⟩ := e.own i l od h
    have ne := ne_of_none h4 hp
    rw [upd_ne ne]
    exact ⟨h1, h2, h3, ob, h4, h5⟩
theorem ER.notOwn {p : Addr} (e : ER K S F H ρ σ) (hp : H p = none) : ∀ (j : Nat) (o2 : OD), ρ[j]? ≠ some (Sl.own p o2) := fun j o2 h => by
  obtain ⟨_, _, _, ob, h4, _⟩ := e.own j p o2 h
  rw [hp] at h4; cases h4
end
abbrev WEO := Rho → XC → (Addr → OD → Rho → Prop) → Prop
def lEO (K : Fg) (W : WX) (w : WEO) : TE := fun σ H Q => ∃ ρ S F χ Φ, ER K S F H ρ σ ∧ w ρ χ Φ ∧ XOk K F W S χ ∧ ∀ l od o ρ' S' H', Φ l od ρ' → Same S S' → H' l = some o → OIs K S' o od → S' l = none → F l = none → (∀ (j : Nat) (o2 : OD), ρ'[j]? ≠ some (Sl.own l o2)) → ER K S' F H' ρ' σ → Q (.ref l) H'
def woLst (wl : WL) : WEO := fun ρ χ Φ => wl ρ χ fun xs ρ1 => xs.length ≤ sizeLine ∧ ∀ l, Φ l (.l xs) ρ1
def woLstOf (wa : WL) : WEO := fun ρ χ Φ => wa ρ χ fun ds ρ1 => match ds with
  | [.lst xs] => ∀ l, Φ l (.l xs) ρ1
  | [.tup xs] => ∀ l, Φ l (.l xs) ρ1
  | _ => False
def woDic : WEO := fun ρ _ Φ => ∀ l, Φ l (.k [] []) ρ
def woLc (wi : WL) (g : WG) (wt : WT) (we : WE) (vs : List Nat) : WEO := fun ρ χ Φ => wi ρ χ fun ds ρ1 => wLcL g wt we vs ds [] (wipeR ρ1 vs) fun ys ρ2 => ∀ l, Φ l (.l ys) (backR ρ1 ρ2 vs)
section
variable {K : Fg} {W : WX} {wl : WL}
theorem lo_lst : ∀ σ H Q, lEO K W (woLst wl) σ H Q → tLst (lL K W wl) σ H Q := by
  rintro σ H Q ⟨ρ, S, F, χ, Φ, e, hw, hx, hp⟩
  refine ⟨ρ, S, F, χ, _, e, hw, hx, fun xs ds ρ1 S1 H1 h1 s1 i1 e1 => ⟨by rw [i1.length]; exact h1.1, fun p hp1 => ?_⟩⟩
  exact hp p _ _ ρ1 S1 _ (h1.2 p) s1 upd_same (.l i1) (e1.sp hp1) (e1.fp hp1) (e1.notOwn hp1) (e1.addH hp1)
theorem lo_lstOf : ∀ σ H Q, lEO K W (woLstOf wl) σ H Q → tCB (fun xs H Q => ∃ p ys, xs = [.ref p] ∧ (SqL K H p ys ∨ SqT K H p ys) ∧ ∀ l, H l = none → Q (.ref l) (upd H l (.lst ys))) (lL K W wl) σ H Q := by
  rintro σ H Q ⟨ρ, S, F, χ, Φ, e, hw, hx, hp⟩
  refine ⟨ρ, S, F, χ, _, e, hw, hx, fun xs ds ρ1 S1 H1 h1 s1 i1 e1 => ?_⟩
  split at h1
  · obtain ⟨v, rfl, iv⟩ := isAll1 i1
    cases iv with
    | lst a1 a2 => exact ⟨_, _, rfl, .inl (.inl (.inl (e1.ex _ _ a1))), fun p hp1 => hp p _ _ ρ1 S1 _ (h1 p) s1 upd_same (.l a2) (e1.sp hp1) (e1.fp hp1) (e1.notOwn hp1) (e1.addH hp1)⟩
  · obtain ⟨v, rfl, iv⟩ := isAll1 i1
    cases iv with
    | tup a1 a2 => exact ⟨_, _, rfl, .inr (.inl (.inl (e1.ex _ _ a1))), fun p hp1 => hp p _ _ ρ1 S1 _ (h1 p) s1 upd_same (.l a2) (e1.sp hp1) (e1.fp hp1) (e1.notOwn hp1) (e1.addH hp1)⟩
  · exact h1.elim
theorem lo_dic : ∀ σ H Q, lEO K W woDic σ H Q → tDNewK σ H Q := by
  rintro σ H Q ⟨ρ, S, F, χ, Φ, e, hw, hx, hp⟩
  intro p hp1
  exact hp p _ _ ρ S _ (hw p) (Same.refl S) upd_same (.k rfl .nil) (e.sp hp1) (e.fp hp1) (e.notOwn hp1) (e.addH hp1)
theorem lo_lc {wi : WL} {g : WG} {wt : WT} {we : WE} {vs : List Nat} : ∀ σ H Q, lEO K W (woLc wi g wt we vs) σ H Q → tLc (lI K W wi) (lGc K vs g) (lT K W0 wt) (lE K W0 we) vs σ H Q := by
  rintro σ H Q ⟨ρ, S, F, χ, Φ, e, hw, hx, hp⟩
  refine ⟨ρ, S, F, χ, _, e, hw, hx, fun J ds ρ1 S1 H1 q1 s1 e1 wk => fun L hL => ?_⟩
  have fL := e1.fp hL
  refine ⟨fun i m H' => m = ds.length - i ∧ i ≤ ds.length ∧ ∃ ρ' S' us acc, Same S1 S' ∧ ER K S' (upd F L (.lst us)) H' ρ' (wipe σ vs) ∧ IsAll K S' us acc ∧ wLcL g wt we vs (ds.drop i) acc ρ' (fun ys ρ2 => ∀ l, Φ l (.l ys) (backR ρ1 ρ2 vs)),
    ⟨_, rfl, Nat.zero_le _, wipeR ρ1 vs, S1, [], [], Same.refl S1, (e1.wipe vs).addF hL, .nil, q1⟩, ?_⟩
  rintro i m H' ⟨rfl, hi, ρ', S', us, acc, s', e', iu, q⟩
  by_cases hlt : i < ds.length
  · refine .inr ⟨wk.go i H' hlt (s'.trans e'.ex), fun H2 => ∃ ρ2 S2 us2 acc2, Same S1 S2 ∧ ER K S2 (upd F L (.lst us2)) H2 ρ2 (wipe σ vs) ∧ IsAll K S2 us2 acc2 ∧ wLcL g wt we vs (ds.drop (i + 1)) acc2 ρ2 (fun ys ρ3 => ∀ l, Φ l (.l ys) (backR ρ1 ρ3 vs)), fun H2 n2 => ⟨ds.length - (i + 1), by omega, rfl, hlt, n2⟩, fun x H2 y => ?_⟩
    obtain ⟨d, hd, y2⟩ := wk.yld i H' x H2 hlt (s'.trans e'.ex) y
    obtain ⟨S2, s2, i2, e2⟩ := y2 S' _ ρ' _ s' e'
    have ed : ds.drop i = d :: ds.drop (i + 1) := by
      rw [(List.drop_eq_getElem_cons hlt)]
      rw [List.getElem?_eq_getElem hlt] at hd
      rw [Option.some.inj hd]
    rw [ed] at q
    refine ⟨ρ', S2, _, d, _, e2, i2, q, fun ρ3 S3 σ3 H3 q3 s3 e3 w3 => ⟨w3.trans wipe_wipe, ?_⟩⟩
    have w3' : wipe σ3 vs = wipe σ vs := w3.trans wipe_wipe
    refine ⟨ρ3, S3, _, χ0, _, e3, q3, XOk.none, fun b ρ4 S4 H4 q4 s4 e4 => ?_⟩
    cases b with
    | false =>
      rw [if_neg Bool.false_ne_true] at q4 ⊢
      have e5 := e4.wipe vs
      rw [w3'] at e5
      exact ⟨_, S4, us, acc, ((s'.trans s2).trans s3).trans s4, e5, iu.mono ((s2.trans s3).trans s4), q4⟩
    | true =>
      rw [if_pos rfl] at q4 ⊢
      refine ⟨ρ4, S4, _, χ0, _, e4, q4, XOk.none, fun v dv ρ5 S5 H5 q5 s5 i5 e5 => ?_⟩
      obtain ⟨hl, q5⟩ := q5
      obtain ⟨h5, _⟩ := e5.fr L _ upd_same
      have iu5 := iu.mono (((s2.trans s3).trans s4).trans s5)
      refine ⟨us, h5, by rw [iu.length]; exact hl, ?_⟩
      have e6 := (e5.wipe vs).chF (o' := .lst (us ++ [v]))
      rw [w3'] at e6
      exact ⟨_, S5, us ++ [v], acc ++ [dv], (((s'.trans s2).trans s3).trans s4).trans s5, e6, iu5.append (.cons i5 .nil), q5⟩
  · have ei : i = ds.length := by omega
    subst ei
    rw [List.drop_length] at q
    refine .inl ⟨wk.stop H' (s'.trans e'.ex), ?_⟩
    obtain ⟨hL2, sL2⟩ := e'.fr L _ upd_same
    have e8 : ER K S' F H' ρ' (wipe σ vs) := by
      refine ⟨e'.len, e'.ex, fun a o h => e'.fr a o (by rw [upd_ne (ne_of_none h fL)]; exact h), e'.val, fun i l od h => ?_, e'.dis⟩
      obtain ⟨a1, a2, a3, a4⟩ := e'.own i l od h
      have ne : l ≠ L := fun z => by rw [z, upd_same] at a3; cases a3
      rw [upd_ne ne] at a3
      exact ⟨a1, a2, a3, a4⟩
    refine hp L _ _ _ S' H' (q L) (s1.trans s') hL2 (.l iu) sL2 fL (fun j o2 h => ?_) (e1.restore s' e8)
    rcases backR_at h with z | ⟨_, ⟨d, z⟩, _⟩ | ⟨_, z2⟩
    · cases z
    · cases z
    · have a3 := (e'.own j L o2 z2).2.2.1
      rw [upd_same] at a3
      cases a3
end
def wAsgO (i : Nat) (wo : WEO) : WS := fun ρ Δ => wo ρ Δ.xc fun l od ρ1 => Δ.nx (ρ1.set i (.own l od))
theorem l_asgO {K : Fg} {W : WX} {wo : WEO} {i : Nat} : ∀ D σ H, lS K W (wAsgO i wo) D σ H → tAsg (lEO K W wo) (gName i) D σ H := by
  rintro D σ H ⟨ρ, S, F, Δ, e, hw, hx, h1, h2, h3, h4, h5⟩
  exact ⟨ρ, S, F, _, _, e, hw, hx, fun l od o ρ' S' H' q s' a1 a2 a3 a4 a5 e' => h1 _ S' _ H' q s' (e'.setOwn a1 a3 a4 a2 a5)⟩
theorem l_retO {K : Fg} {W : WX} {wo : WEO} : ∀ D σ H, lS K W (wRetO wo) D σ H → tRet (lEO K W wo) D σ H := by
  rintro D σ H ⟨ρ, S, F, Δ, e, hw, hx, h1, h2, h3, h4, h5⟩
  exact ⟨ρ, S, F, _, _, e, hw, hx, fun l od o ρ' S' H' q s' a1 a2 a3 a4 a5 e' => h5 l od o ρ' S' _ H' q s' a1 a2 a3 a4 e'⟩
/-- x[e] of one's own list -/
def wIxO (i : Nat) (wi : WE) : WE := fun ρ χ Φ => (∃ l xs, ρ[i]? = some (Sl.own l (.l xs))) ∧ wi ρ χ fun k ρ1 => match k, ρ1[i]? with
  | .int j, some (.own _ (.l xs)) => ∃ d, atI xs j = some d ∧ Φ d ρ1
  | _, _ => False
/-- len(x) of one's own list -/
def wLenO (i : Nat) : WE := fun ρ _ Φ => match ρ[i]? with
  | some (.own _ (.l xs)) => Φ (.int xs.length) ρ
  | _ => False
/-- x.append(e) -/
def wApp (i : Nat) (wa : WE) : WS := fun ρ Δ => (∃ l xs, ρ[i]? = some (Sl.own l (.l xs))) ∧ wa ρ Δ.xc fun d ρ1 => match ρ1[i]? with
  | some (.own l (.l xs)) => xs.length < sizeLine ∧ Δ.nx (ρ1.set i (.own l (.l (xs ++ [d]))))
  | _ => False
/-- x[k] = e -/
def wSetO (i : Nat) (wk wa : WE) : WS := fun ρ Δ => wa ρ Δ.xc fun d ρ1 => (∃ l xs, ρ1[i]? = some (Sl.own l (.l xs))) ∧ wk ρ1 Δ.xc fun k ρ2 => match k, ρ2[i]? with
  | .int z, some (.own l (.l xs)) => ∃ j, ixN xs.length z = some j ∧ Δ.nx (ρ2.set i (.own l (.l (xs.set j d))))
  | _, _ => False
section
variable {K : Fg} {W : WX} {wa wk : WE} {i : Nat}
theorem l_ixO : ∀ σ H Q, lE K W (wIxO i wk) σ H Q → tOp (rIx K) (tVar i) (lE K W wk) σ H Q := by
  rintro σ H Q ⟨ρ, S, F, χ, Φ, e, ⟨⟨l, xs, hl⟩, hw⟩, hx, hp⟩
  obtain ⟨hσ, _⟩ := e.own i l _ hl
  refine ⟨.ref l, hσ, ρ, S, F, χ, _, e, hw, hx, fun x dx ρ1 S1 H1 h1 s1 i1 e1 => ?_⟩
  split at h1
  · rename_i j l' ys hl'
    obtain ⟨b1, b2, b3, ob, b4, b5⟩ := e1.own i l' _ hl'
    rw [hσ] at b1
    cases b1
    cases i1
    cases b5 with
    | l b6 =>
      obtain ⟨d, h2, h3⟩ := h1
      obtain ⟨v, h4, h5⟩ := atI_all b6 h2
      exact .inl ⟨_, _, _, v, rfl, rfl, .inl (.inl b4), h4, hp v d ρ1 S1 H1 h3 s1 h5 e1⟩
  · exact h1.elim
theorem l_lenO : ∀ σ H Q, lE K W (wLenO i) σ H Q → tCB (rLenD K) (tCons (tVar i) tNil) σ H Q := by
  rintro σ H Q ⟨ρ, S, F, χ, Φ, e, hw, hx, hp⟩
  unfold wLenO at hw
  split at hw
  · rename_i l xs hl
    obtain ⟨b1, b2, b3, ob, b4, b5⟩ := e.own i l _ hl
    cases b5 with
    | l b6 => exact ⟨.ref l, b1, .inl ⟨l, _, rfl, .inl (.inl (.inl b4)), by rw [b6.length]; exact hp _ _ ρ S H hw (Same.refl S) (.int _) e⟩⟩
  · exact hw.elim
theorem l_app : ∀ D σ H, lS K W (wApp i wa) D σ H → tDrop (tBM K "list" rAppend (tVar i) (tCons (lE K W wa) tNil)) D σ H := by
  rintro D σ H ⟨ρ, S, F, Δ, e, ⟨⟨l, xs, hl⟩, hw⟩, hx, h1, h2, h3, h4, h5⟩
  obtain ⟨hσ, a2, a3, ob, a4, a5⟩ := e.own i l _ hl
  cases a5 with
  | l a6 =>
    refine ⟨.ref l, hσ, .inl ⟨rfl, _, .inl (.inl a4)⟩, ρ, S, F, _, _, e, hw, hx, fun x dx ρ1 S1 H1 q1 s1 i1 e1 => ?_⟩
    split at q1
    · rename_i l' ys hl'
      obtain ⟨b1, b2, b3, ob, b4, b5⟩ := e1.own i l' _ hl'
      rw [hσ] at b1
      cases b1
      cases b5 with
      | l b6 => exact ⟨l, _, x, rfl, rfl, b4, by rw [b6.length]; exact q1.1, h1 _ S1 _ _ q1.2 s1 (e1.wr hl' (.l (b6.append (.cons i1 .nil))))⟩
    · exact q1.elim
theorem l_setO : ∀ D σ H, lS K W (wSetO i wk wa) D σ H → tAsg (lE K W wa) (gSub (tVar i) (lE K W wk) rSetL) D σ H := by
  rintro D σ H ⟨ρ, S, F, Δ, e, hw, hx, h1, h2, h3, h4, h5⟩
  refine ⟨ρ, S, F, _, _, e, hw, hx, fun x dx ρ1 S1 H1 q1 s1 i1 e1 => ?_⟩
  obtain ⟨⟨l, xs, hl⟩, q1⟩ := q1
  obtain ⟨hσ, _⟩ := e1.own i l _ hl
  refine ⟨.ref l, hσ, ρ1, S1, F, _, _, e1, q1, hx.mono s1, fun y dy ρ2 S2 H2 q2 s2 i2 e2 => ?_⟩
  split at q2
  · rename_i z l' ys hl'
    obtain ⟨b1, b2, b3, ob, b4, b5⟩ := e2.own i l' _ hl'
    rw [hσ] at b1
    cases b1
    cases i2
    cases b5 with
    | l b6 =>
      obtain ⟨j, q3, q4⟩ := q2
      exact ⟨l, _, z, j, rfl, rfl, b4, by rw [b6.length]; exact q3, h1 _ S2 _ _ q4 (s1.trans s2) (e2.wr hl' (.l (IsAll.set (i1.mono s2) j b6)))⟩
  · exact q2.elim
end

/-! ### dicts -/
def keyD : D → Option Key
  | .int i => some (.inl i)
  | .str s => some (.inr s)
  | _ => none
def valD : List Key → List D → Key → Option D
  | k :: ks, d :: ds, x => if k = x then some d else valD ks ds x
  | _, _, _ => none
theorem keyD_is {K : Fg} {S : Hp} {v : V} {d : D} {k : Key} (h : Is K S v d) (e : keyD d = some k) : v = kV k := by
  cases h <;> unfold keyD at e <;> cases e <;> rfl
theorem valD_is {K : Fg} {S : Hp} {x : Key} : ∀ {kvs : List (Key × V)} {ds : List D}, IsAll K S (kvs.map (·.2)) ds → (valD (kvs.map (·.1)) ds x = none ∧ valV kvs x = none) ∨ ∃ d v, valD (kvs.map (·.1)) ds x = some d ∧ valV kvs x = some v ∧ Is K S v d
  | [], ds, hi => by
    cases hi
    exact .inl ⟨rfl, rfl⟩
  | (k, v) :: kvs, ds, hi => by
    cases hi with
    | @cons _ _ d ds' a b =>
      by_cases e : k = x
      · exact .inr ⟨d, v, by show (if k = x then some d else _) = _; rw [if_pos e], valV_pos e, a⟩
      · have q := valD_is (x := x) b
        have e1 : valD (((k, v) :: kvs).map (·.1)) (d :: ds') x = valD (kvs.map (·.1)) ds' x := by show (if k = x then some d else _) = _; rw [if_neg e]
        rw [e1, valV_neg (p := (k, v)) e]
        exact q
def wDGet (wa wk : WE) : WE := fun ρ χ Φ => wa ρ χ fun x ρ1 => wk ρ1 χ fun y ρ2 => match x with
  | .dic ks ds => ∃ k d, keyD y = some k ∧ valD ks ds k = some d ∧ Φ d ρ2
  | _ => False
def wDGet2 (wa wk wz : WE) : WE := fun ρ χ Φ => wa ρ χ fun x ρ1 => match x with
  | .dic ks ds => wk ρ1 χ fun y ρ2 => wz ρ2 χ fun z ρ3 => ∃ k, keyD y = some k ∧ Φ ((valD ks ds k).getD z) ρ3
  | _ => False
def wDIn (neg : Bool) (wk wa : WE) : WE := fun ρ χ Φ => wk ρ χ fun y ρ1 => wa ρ1 χ fun x ρ2 => match x with
  | .dic ks ds => ∃ k, keyD y = some k ∧ Φ (.bl (if neg = true then !(valD ks ds k).isSome else (valD ks ds k).isSome)) ρ2
  | _ => False
section
variable {K : Fg} {W : WX} {wa wk wz : WE}
theorem l_dget : ∀ σ H Q, lE K W (wDGet wa wk) σ H Q → tDGet (lE K W wa) (lE K W wk) σ H Q := by
  rintro σ H Q ⟨ρ, S, F, χ, Φ, e, hw, hx, hp⟩
  refine ⟨ρ, S, F, χ, _, e, hw, hx, fun x dx ρ1 S1 H1 h1 s1 i1 e1 => ?_⟩
  refine ⟨ρ1, S1, F, χ, _, e1, h1, hx.mono s1, fun y dy ρ2 S2 H2 h2 s2 i2 e2 => ?_⟩
  cases i1.mono s2 with
  | dic a1 a2 a3 =>
    obtain ⟨k, d, h3, h4, h5⟩ := h2
    subst a2
    rw [keyD_is i2 h3]
    rcases valD_is (x := k) a3 with ⟨z, _⟩ | ⟨d', v, z1, z2, z3⟩
    · rw [h4] at z; cases z
    · rw [h4] at z1
      cases z1
      refine ⟨_, v, rfl, ?_, hp v d ρ2 S2 H2 h5 (s1.trans s2) z3 e2⟩
      rw [← z2]
      exact DGet.k (e2.ex _ _ a1)
  | _ => exact False.elim h2
theorem l_dget2 : ∀ σ H Q, lE K W (wDGet2 wa wk wz) σ H Q → tDGet2 (lE K W wa) (lE K W wk) (lE K W wz) σ H Q := by
  rintro σ H Q ⟨ρ, S, F, χ, Φ, e, hw, hx, hp⟩
  refine ⟨ρ, S, F, χ, _, e, hw, hx, fun x dx ρ1 S1 H1 h1 s1 i1 e1 => ?_⟩
  cases i1 with
  | dic a1 a2 a3 =>
    refine ⟨_, rfl, .inl ⟨_, .inl (e1.ex _ _ a1)⟩, ρ1, S1, F, χ, _, e1, h1, hx.mono s1, fun y dy ρ2 S2 H2 h2 s2 i2 e2 => ?_⟩
    refine ⟨ρ2, S2, F, χ, _, e2, h2, hx.mono (s1.trans s2), fun z dz ρ3 S3 H3 h3 s3 i3 e3 => ?_⟩
    obtain ⟨k, h4, h5⟩ := h3
    subst a2
    rw [keyD_is i2 h4]
    refine ⟨_, DGet.k (e3.ex _ _ (s3 _ _ (s2 _ _ a1))), ?_⟩
    rcases valD_is (x := k) a3 with ⟨z1, z2⟩ | ⟨d', v, z1, z2, z3⟩
    · rw [z1] at h5
      rw [z2]
      exact hp _ _ ρ3 S3 H3 h5 ((s1.trans s2).trans s3) i3 e3
    · rw [z1] at h5
      rw [z2]
      exact hp _ _ ρ3 S3 H3 h5 ((s1.trans s2).trans s3) (z3.mono (s2.trans s3)) e3
  | _ => exact False.elim h1
theorem l_din : ∀ σ H Q, lE K W (wDIn false wk wa) σ H Q → tDIn (lE K W wk) (lE K W wa) σ H Q := by
  rintro σ H Q ⟨ρ, S, F, χ, Φ, e, hw, hx, hp⟩
  refine ⟨ρ, S, F, χ, _, e, hw, hx, fun y dy ρ1 S1 H1 h1 s1 i1 e1 => ?_⟩
  refine ⟨ρ1, S1, F, χ, _, e1, h1, hx.mono s1, fun x dx ρ2 S2 H2 h2 s2 i2 e2 => ?_⟩
  cases i2 with
  | dic a1 a2 a3 =>
    obtain ⟨k, h3, h4⟩ := h2
    subst a2
    rw [keyD_is i1 h3]
    refine ⟨_, _, rfl, DGet.k (e2.ex _ _ a1), ?_⟩
    rcases valD_is (x := k) a3 with ⟨z1, z2⟩ | ⟨d', v, z1, z2, z3⟩
    · rw [z1] at h4
      rw [z2]
      exact hp _ _ ρ2 S2 H2 h4 (s1.trans s2) (.bl _) e2
    · rw [z1] at h4
      rw [z2]
      exact hp _ _ ρ2 S2 H2 h4 (s1.trans s2) (.bl _) e2
  | _ => exact False.elim h2
theorem l_dnin : ∀ σ H Q, lE K W (wDIn true wk wa) σ H Q → tDNotIn (lE K W wk) (lE K W wa) σ H Q := by
  rintro σ H Q ⟨ρ, S, F, χ, Φ, e, hw, hx, hp⟩
  refine ⟨ρ, S, F, χ, _, e, hw, hx, fun y dy ρ1 S1 H1 h1 s1 i1 e1 => ?_⟩
  refine ⟨ρ1, S1, F, χ, _, e1, h1, hx.mono s1, fun x dx ρ2 S2 H2 h2 s2 i2 e2 => ?_⟩
  cases i2 with
  | dic a1 a2 a3 =>
    obtain ⟨k, h3, h4⟩ := h2
    subst a2
    rw [keyD_is i1 h3]
    refine ⟨_, _, rfl, DGet.k (e2.ex _ _ a1), ?_⟩
    rcases valD_is (x := k) a3 with ⟨z1, z2⟩ | ⟨d', v, z1, z2, z3⟩
    · rw [z1] at h4
      rw [z2]
      exact hp _ _ ρ2 S2 H2 h4 (s1.trans s2) (.bl _) e2
    · rw [z1] at h4
      rw [z2]
      exact hp _ _ ρ2 S2 H2 h4 (s1.trans s2) (.bl _) e2
  | _ => exact False.elim h2
end
end DL
set_option Elab.async false
set_option autoImplicit false
set_option linter.all false
set_option maxRecDepth 100000
set_option maxHeartbeats 3900000
namespace DL
open L2 PyProof.Rows PySem PySem.Spec

/-! ### f-strings -/
def wJs : List WE → Str → Rho → XC → (Str → Rho → Prop) → Prop
  | [], acc, ρ, _, Φ => Φ acc ρ
  | w :: ws, acc, ρ, χ, Φ => w ρ χ fun x ρ1 => match x with
    | .str y => (acc ++ y).length ≤ sizeLine ∧ wJs ws (acc ++ y) ρ1 χ Φ
    | _ => False
def wFmt (wa : WE) : WE := fun ρ χ Φ => wa ρ χ fun x ρ1 => match x with
  | .str y => y.length ≤ sizeLine ∧ Φ (.str y) ρ1
  | .int i => i.natAbs.log2 < 1920 ∧ Φ (.str (toString i)) ρ1
  | _ => False
def wFs (ws : List WE) : WE := fun ρ χ Φ => wJs ws Str.empty ρ χ fun z ρ1 => Φ (.str z) ρ1
section
variable {K : Fg} {W : WX}
theorem l_fmt {wa : WE} : ∀ σ H Q, lE K W (wFmt wa) σ H Q → tFmt (lE K W wa) σ H Q := by
  rintro σ H Q ⟨ρ, S, F, χ, Φ, e, hw, hx, hp⟩
  refine ⟨ρ, S, F, χ, _, e, hw, hx, fun x dx ρ1 S1 H1 h1 s1 i1 e1 => ?_⟩
  cases i1 with
  | str y => exact .inl ⟨y, rfl, h1.1, hp _ _ ρ1 S1 H1 h1.2 s1 (.str _) e1⟩
  | int i => exact .inr ⟨i, rfl, h1.1, hp _ _ ρ1 S1 H1 h1.2 s1 (.str _) e1⟩
  | _ => exact False.elim h1
theorem l_js : ∀ (ws : List WE) (acc : Str) σ H (Q : Str → Hp → Prop) ρ S F χ Φ, ER K S F H ρ σ → wJs ws acc ρ χ Φ → XOk K F W S χ → (∀ z ρ' S' H', Φ z ρ' → Same S S' → ER K S' F H' ρ' σ → Q z H') → tJs (ws.map (lE K W)) acc σ H Q
  | [], acc, σ, H, Q, ρ, S, F, χ, Φ, e, hw, hx, hp => hp acc ρ S H hw (Same.refl S) e
  | w :: ws, acc, σ, H, Q, ρ, S, F, χ, Φ, e, hw, hx, hp => by
    refine ⟨ρ, S, F, χ, _, e, hw, hx, fun x dx ρ1 S1 H1 h1 s1 i1 e1 => ?_⟩
    cases i1 with
    | str y => exact ⟨y, rfl, h1.1, l_js ws _ σ H1 Q ρ1 S1 F χ Φ e1 h1.2 (hx.mono s1) fun z ρ' S' H' q s' e' => hp z ρ' S' H' q (s1.trans s') e'⟩
    | _ => exact False.elim h1
theorem l_fs {ws : List WE} : ∀ σ H Q, lE K W (wFs ws) σ H Q → tJs (ws.map (lE K W)) Str.empty σ H fun out H1 => Q (.str out) H1 := by
  rintro σ H Q ⟨ρ, S, F, χ, Φ, e, hw, hx, hp⟩
  exact l_js ws _ σ H _ ρ S F χ _ e hw hx fun z ρ' S' H' q s' e' => hp _ _ ρ' S' H' q s' (.str z) e'
end

/-! ### two names at once -/
def wPar (i j : Nat) (wl : WL) : WS := fun ρ Δ => wl ρ Δ.xc fun ds ρ1 => match ds with
  | [d, d'] => Δ.nx ((ρ1.set i (.val d)).set j (.val d'))
  | _ => False
def wParO (i j : Nat) (wa : WE) (wo : WEO) : WS := fun ρ Δ => wa ρ Δ.xc fun d ρ1 => wo ρ1 Δ.xc fun l od ρ2 => Δ.nx ((ρ2.set i (.val d)).set j (.own l od))
def wPar3 (i j k : Nat) (wl : WL) : WS := fun ρ Δ => wl ρ Δ.xc fun ds ρ1 => match ds with
  | [d, d', d''] => Δ.nx (((ρ1.set i (.val d)).set j (.val d')).set k (.val d''))
  | _ => False
section
variable {K : Fg} {W : WX}
theorem l_par {i j : Nat} {wl : WL} : ∀ D σ H, lS K W (wPar i j wl) D σ H → tPar i j (lL K W wl) D σ H := by
  rintro D σ H ⟨ρ, S, F, Δ, e, hw, hx, h1, h2, h3, h4, h5⟩
  refine ⟨ρ, S, F, _, _, e, hw, hx, fun vs ds ρ1 S1 H1 q1 s1 i1 e1 => ?_⟩
  split at q1
  · obtain ⟨v, u, rfl, iv, iu⟩ := isAll2 i1
    exact ⟨v, u, rfl, h1 _ S1 _ _ q1 s1 ((e1.set iv).set iu)⟩
  · exact q1.elim
theorem l_par3 {i j k : Nat} {wl : WL} : ∀ D σ H, lS K W (wPar3 i j k wl) D σ H → tPar3 i j k (lL K W wl) D σ H := by
  rintro D σ H ⟨ρ, S, F, Δ, e, hw, hx, h1, h2, h3, h4, h5⟩
  refine ⟨ρ, S, F, _, _, e, hw, hx, fun vs ds ρ1 S1 H1 q1 s1 i1 e1 => ?_⟩
  split at q1
  · cases i1 with
    | cons iv i1 => cases i1 with
      | cons iu i1 => cases i1 with
        | cons it i1 => cases i1; exact ⟨_, _, _, rfl, h1 _ S1 _ _ q1 s1 (((e1.set iv).set iu).set it)⟩
  · exact q1.elim
theorem notOwn_set {ρ : Rho} {i : Nat} {d : D} {l : Addr} (h : ∀ (j : Nat) (o2 : OD), ρ[j]? ≠ some (Sl.own l o2)) : ∀ (j : Nat) (o2 : OD), (ρ.set i (.val d))[j]? ≠ some (Sl.own l o2) := fun j o2 q => by
  by_cases hj : j = i
  · subst hj
    have hi : j < ρ.length := by
      have := (List.getElem?_eq_some_iff.mp q).1
      rwa [List.length_set] at this
    rw [List.getElem?_set_self hi] at q; cases q
  · rw [List.getElem?_set_ne (Ne.symm hj)] at q; exact h j o2 q
theorem l_parO {i j : Nat} {wa : WE} {wo : WEO} : ∀ D σ H, lS K W (wParO i j wa wo) D σ H → tPar i j (tCons (lE K W wa) (tCons (lEO K W wo) tNil)) D σ H := by
  rintro D σ H ⟨ρ, S, F, Δ, e, hw, hx, h1, h2, h3, h4, h5⟩
  refine ⟨ρ, S, F, _, _, e, hw, hx, fun v d ρ1 S1 H1 q1 s1 i1 e1 => ?_⟩
  refine ⟨ρ1, S1, F, _, _, e1, q1, hx.mono s1, fun l od o ρ2 S2 H2 q2 s2 a1 a2 a3 a4 a5 e2 => ?_⟩
  exact ⟨v, _, rfl, h1 _ S2 _ _ q2 (s1.trans s2) ((e2.set (i1.mono s2)).setOwn a1 a3 a4 a2 (notOwn_set a5))⟩
end

/-! ### a def as a whole -/
theorem er_more {K : Fg} {S F H : Hp} {ρ : Rho} {σ : L2.St} (e : ER K S F H ρ σ) (k : Nat) : ER K S F H (ρ ++ List.replicate k .un) (σ ++ List.replicate k none) := by
  have at_ : ∀ {i : Nat} {s : Sl}, (ρ ++ List.replicate k Sl.un)[i]? = some s → s = .un ∨ ρ[i]? = some s := fun {i s} h => by
    by_cases hi : i < ρ.length
    · rw [List.getElem?_append_left hi] at h; exact .inr h
    · rw [List.getElem?_append_right (by omega)] at h
      have h2 := List.mem_of_getElem? h
      exact .inl (List.eq_of_mem_replicate h2)
  have go : ∀ {i : Nat} {s : Sl}, ρ[i]? = some s → (σ ++ List.replicate k none)[i]? = σ[i]? := fun {i s} h => by
    have hi := (List.getElem?_eq_some_iff.mp h).1
    rw [List.getElem?_append_left (by rw [← e.len]; exact hi)]
  refine ⟨by rw [List.length_append, List.length_append, e.len, List.length_replicate, List.length_replicate], e.ex, e.fr, fun i d h => ?_, fun i l od h => ?_, fun i j l o o' h1 h2 => ?_⟩
  · rcases at_ h with z | z
    · cases z
    · rw [go z]; exact e.val i d z
  · rcases at_ h with z | z
    · cases z
    · rw [go z]; exact e.own i l od z
  · rcases at_ h1 with z | z
    · cases z
    · rcases at_ h2 with z2 | z2
      · cases z2
      · exact e.dis i j l o o' z z2
theorem isAll_of_er {K : Fg} {S F H : Hp} : ∀ {ds : List D} {vs : List V}, ER K S F H (args none ds) (vs.map some) → IsAll K S vs ds := by
  intro ds vs e
  have hl : ds.length = vs.length := by have := e.len; rw [args_none, List.length_map, List.length_map] at this; exact this
  have hv : ∀ i d, ds[i]? = some d → ∃ v, vs[i]? = some v ∧ Is K S v d := fun i d h => by
    obtain ⟨v, h1, h2⟩ := e.val i d (by rw [args_none, List.getElem?_map, h]; rfl)
    rw [List.getElem?_map] at h1
    cases q : vs[i]? with
    | none => rw [q] at h1; cases h1
    | some u => rw [q] at h1; cases h1; exact ⟨v, q, h2⟩
  clear e
  induction ds generalizing vs with
  | nil => cases vs with
    | nil => exact .nil
    | cons v vs => cases hl
  | cons d ds ih => cases vs with
    | nil => cases hl
    | cons v vs =>
      obtain ⟨u, h1, h2⟩ := hv 0 d rfl
      cases h1
      exact .cons h2 (ih (by simpa using hl) fun i d h => hv (i + 1) d h)
theorem isAll_of_erO {K : Fg} {S F H : Hp} {ds : List D} {l : Addr} {o : OD} {vs : List V} (e : ER K S F H (args (some (l, o)) ds) (vs.map some)) : ∃ us, vs = .ref l :: us ∧ IsAll K S us ds := by
  cases vs with
  | nil => have := e.len; cases this
  | cons v us =>
    obtain ⟨h1, _⟩ := e.own 0 l o rfl
    have h1' : some (some v) = some (some (V.ref l)) := h1
    cases h1'
    refine ⟨us, rfl, ?_⟩
    have hl : ds.length = us.length := by have := e.len; simpa [args] using this
    have hv : ∀ i d, ds[i]? = some d → ∃ v, us[i]? = some v ∧ Is K S v d := fun i d h => by
      obtain ⟨v, h1, h2⟩ := e.val (i + 1) d (by show (ds.map Sl.val)[i]? = _; rw [List.getElem?_map, h]; rfl)
      have h1 : (us.map some)[i]? = some (some v) := h1
      rw [List.getElem?_map] at h1
      cases q : us[i]? with
      | none => rw [q] at h1; cases h1
      | some u => rw [q] at h1; cases h1; exact ⟨v, q, h2⟩
    clear e
    induction ds generalizing us with
    | nil => cases us with
      | nil => exact .nil
      | cons v vs => cases hl
    | cons d ds ih => cases us with
      | nil => cases hl
      | cons v vs =>
        obtain ⟨u, h1, h2⟩ := hv 0 d rfl
        cases h1
        exact .cons h2 (ih vs rfl (by simpa using hl) fun i d h => hv (i + 1) d h)
def outs (hl : Option (Addr × OD)) (ρ : Rho) (P : Option OD → Prop) : Prop := match hl with
  | none => P none
  | some p => ∃ o, ρ[0]? = some (Sl.own p.1 o) ∧ P (some o)
def dEnds (hl : Option (Addr × OD)) (Ψ : D → Option OD → Prop) (Ξ : Addr → Str → D → Prop) : DE where
  nx := fun ρ => outs hl ρ (Ψ .non)
  rt := fun d ρ => outs hl ρ (Ψ d)
  bk := fun _ => False
  ct := fun _ => False
  xc := fun C f d _ => Ξ C f d
section
variable {P : Program} {w : World} {K : Fg} {mg : Str → Option Value} {base : Heap} {x qual : Str} {params : Arguments} {body : List Stmt} {scope : Scope} {dvs : List V} {kws : List (Str × V)} {f : Addr} {fd : FuncData} {N ps : List Str} {k n : Nat}
abbrev wishOf (E : XK) : WX := fun cls d _ H' => E cls d H'
theorem defG {sp : Spc} {ws : WS} (F : FunD K x qual params body scope dvs kws f fd) (Sc : FnScope N ps scope) (hps : ps.length = n)
    (hd : ∀ (cdv : Value) (A : Around) (outer : List Env) (s : Shared) (H : Hp) (E : XK), Cok (cxOf (L2.CX P w) P w K mg base N qual scope f cdv A outer s H E) (wishOf E) k → PSs (cxOf (L2.CX P w) P w K mg base N qual scope f cdv A outer s H E) body (lS K (wishOf E) ws))
    (hm : ∀ hl ds Ψ Ξ, (args hl ds).length = n → sp (hl.map (·.2)) ds Ψ Ξ → ws (args hl ds ++ List.replicate (N.length - n) .un) (dEnds hl Ψ Ξ)) : FnG P w K mg base (k + 1) f fd ps (lSp K n sp) := by
  refine fnG_of F Sc (fun vs H Q E h => ?_) fun cdv A outer s H vs Q E c h => ⟨_, hd cdv A outer s H E c, ?_⟩
  · obtain ⟨_, _, _, _, _, _, h, _⟩ := h
    rw [h, hps]
  · obtain ⟨S, Fr, hl, ds, Ψ, Ξ, hn, e, hs, hq, hx⟩ := h
    have la : (args hl ds).length = n := by rw [e.len, List.length_map, hn]
    have ee := er_more e (N.length - n)
    have es : L2.start N vs = vs.map some ++ List.replicate (N.length - n) none := by unfold L2.start; rw [hn]
    -- the arguments behind any steps
    have back : ∀ {d : D} {v : V} {ρ' S' σ' H'}, outs hl ρ' (Ψ d) → Same S S' → Is K S' v d → ER K S' Fr H' ρ' σ' → Q v H' := by
      intro d v ρ' S' σ' H' q s' iv e'
      cases hl with
      | none => exact hq d v none S' H' q rfl s' iv (er_args ((isAll_of_er e).mono s') e'.ex e'.fr)
      | some p =>
        obtain ⟨l, o⟩ := p
        obtain ⟨o', h1, h2⟩ := q
        obtain ⟨us, rfl, iu⟩ := isAll_of_erO e
        obtain ⟨_, b2, b3, ob, b4, b5⟩ := e'.own 0 l o' h1
        exact hq d v (some o') S' H' h2 rfl s' iv (er_argsO (iu.mono s') e'.ex e'.fr b4 b2 b3 b5)
    rw [es]
    refine ⟨_, S, Fr, _, ee, hm hl ds Ψ Ξ la hs, ?_, fun ρ' S' σ' H' q s' e' => back q s' .non e', fun d v ρ' S' σ' H' q s' iv e' => back q s' iv e', fun ρ' S' σ' H' q => q.elim, fun ρ' S' σ' H' q => q.elim, fun l od o ρ' S' σ' H' q => q.elim⟩
    exact fun C f d v dd ρ' S' σ' H' q s' e' hd' iv => hx C f d v dd S' H' q s' e'.ex e'.fr hd' iv
/-- a def that hands back a new object, its caller's own -/
abbrev SpcO := List D → (OD → Prop) → Prop
def lSpO (K : Fg) (n : Nat) (sp : SpcO) : Sp := fun vs H Q _ => ∃ S F ds Ψ, vs.length = n ∧ ER K S F H (args none ds) (vs.map some) ∧ sp ds Ψ ∧
  ∀ od l o S' H', Ψ od → Same S S' → H' l = some o → OIs K S' o od → S' l = none → F l = none → ER K S' F H' (args none ds) (vs.map some) → Q (.ref l) H'
theorem defO {sp : SpcO} {ws : WS} (F : FunD K x qual params body scope dvs kws f fd) (Sc : FnScope N ps scope) (hps : ps.length = n)
    (hd : ∀ (cdv : Value) (A : Around) (outer : List Env) (s : Shared) (H : Hp) (E : XK), Cok (cxOf (L2.CX P w) P w K mg base N qual scope f cdv A outer s H E) (wishOf E) k → PSs (cxOf (L2.CX P w) P w K mg base N qual scope f cdv A outer s H E) body (lS K (wishOf E) ws))
    (hm : ∀ ds Ψ, ds.length = n → sp ds Ψ → ws (args none ds ++ List.replicate (N.length - n) .un) { nx := fun _ => False, rt := fun _ _ => False, bk := fun _ => False, ct := fun _ => False, xc := χ0, ro := fun _ od _ => Ψ od }) : FnG P w K mg base (k + 1) f fd ps (lSpO K n sp) := by
  refine fnG_of F Sc (fun vs H Q E h => ?_) fun cdv A outer s H vs Q E c h => ⟨_, hd cdv A outer s H E c, ?_⟩
  · obtain ⟨_, _, _, _, h, _⟩ := h
    rw [h, hps]
  · obtain ⟨S, Fr, ds, Ψ, hn, e, hs, hq⟩ := h
    have ee := er_more e (N.length - n)
    have es : L2.start N vs = vs.map some ++ List.replicate (N.length - n) none := by unfold L2.start; rw [hn]
    have iu := isAll_of_er e
    rw [es]
    refine ⟨_, S, Fr, _, ee, hm ds Ψ (by rw [← iu.length]; exact hn) hs, XOk.none, fun ρ' S' σ' H' q => q.elim, fun d v ρ' S' σ' H' q => q.elim, fun ρ' S' σ' H' q => q.elim, fun ρ' S' σ' H' q => q.elim, fun l od o ρ' S' σ' H' q s' a1 a2 a3 a4 e' => ?_⟩
    exact hq od l o S' H' q s' a1 a2 a3 a4 (er_args (iu.mono s') e'.ex e'.fr)
end

/-! ### calls of such defs; a first argument that was just made -/
def woCall (n : Nat) (sp : SpcO) (wa : WL) : WEO := fun ρ χ Φ => wa ρ χ fun ds ρ1 => ds.length = n ∧ sp ds fun od => ∀ l, Φ l od ρ1
def wCallT (n : Nat) (sp : Spc) (wo : WEO) (wa : WL) : WE := fun ρ χ Φ => wo ρ χ fun _ od ρ1 => wa ρ1 χ fun ds ρ2 => ds.length = n ∧ sp (some od) ds (fun d _ => Φ d ρ2) fun _ _ _ => False
section
variable {K : Fg} {W : WX} {n : Nat} {gV : List V → List V → List V}
theorem lo_call {sp : SpcO} {wa : WL} (hg : ∀ vs, gV vs [] = vs) : ∀ σ H Q, lEO K W (woCall n sp wa) σ H Q → tCallG W n 0 (lSpO K n sp) gV (lL K W wa) tNil σ H Q := by
  rintro σ H Q ⟨ρ, S, F, χ, Φ, e, hw, hx, hp⟩
  refine ⟨ρ, S, F, χ, _, e, hw, hx, fun vs ds ρ1 S1 H1 h1 s1 i1 e1 => ?_⟩
  obtain ⟨l1, h2⟩ := h1
  have l1' : vs.length = n := by rw [i1.length]; exact l1
  have fr : ∀ a o, others S1 H1 (fun _ => False) a = some o → H1 a = some o ∧ S1 a = none := fun a o h => by
    obtain ⟨_, a1, a2⟩ := others_inv h
    exact ⟨a2, a1⟩
  refine ⟨l1', rfl, S1, others S1 H1 fun _ => False, ds, _, by rw [hg, l1'], by rw [hg]; exact er_args i1 e1.ex fr, h2, fun od l o S' H' q s' a1 a2 a3 a4 er => ?_⟩
  have hl : H1 l = none := by
    have s1l : S1 l = none := by
      cases h : S1 l with
      | none => rfl
      | some u => rw [s' l u h] at a3; cases a3
    cases h : H1 l with
    | none => rfl
    | some u => rw [others_of (p := fun _ => False) (fun z => z) s1l h] at a4; cases a4
  exact hp l od o ρ1 S' H' (q l) (s1.trans s') a1 a2 a3 (e1.fp hl) (e1.notOwn hl) (e1.back s' er.ex (fun a o a1 a2 => others_of (fun z => z) a1 a2) er.fr)
theorem ER.lessF {S F H : Hp} {ρ : Rho} {σ : L2.St} {p : Addr} {o : HO} (e : ER K S (upd F p o) H ρ σ) (fp : F p = none) : ER K S F H ρ σ := by
  refine ⟨e.len, e.ex, fun a u h => e.fr a u (by rw [upd_ne (ne_of_none h fp)]; exact h), e.val, fun i l od h => ?_, e.dis⟩
  obtain ⟨a1, a2, a3, a4⟩ := e.own i l od h
  have ne : l ≠ p := fun z => by rw [z, upd_same] at a3; cases a3
  rw [upd_ne ne] at a3
  exact ⟨a1, a2, a3, a4⟩
theorem l_callT {sp : Spc} {wo : WEO} {wa : WL} (hg : ∀ vs, gV vs [] = vs) : ∀ σ H Q, lE K W (wCallT n sp wo wa) σ H Q → tCallG W (n + 1) 0 (lSp K (n + 1) sp) gV (tCons (lEO K W wo) (lL K W wa)) tNil σ H Q := by
  rintro σ H Q ⟨ρ, S, F, χ, Φ, e, hw, hx, hp⟩
  refine ⟨ρ, S, F, χ, _, e, hw, hx, fun l od o ρ1 S1 H1 h1 s1 a1 a2 a3 a4 a5 e1 => ?_⟩
  have eF : ER K S1 (upd F l o) H1 ρ1 σ := by
    refine ⟨e1.len, e1.ex, fun a u h => ?_, e1.val, fun i m od2 h => ?_, e1.dis⟩
    · by_cases ha : a = l
      · subst ha; rw [upd_same] at h; cases h; exact ⟨a1, a3⟩
      · rw [upd_ne ha] at h; exact e1.fr a u h
    · obtain ⟨b1, b2, b3, b4⟩ := e1.own i m od2 h
      have ne : m ≠ l := fun z => by subst z; exact a5 i od2 h
      exact ⟨b1, b2, by rw [upd_ne ne]; exact b3, b4⟩
  have hx' : XOk K (upd F l o) W S1 χ := fun C f d v dd ρ' S' σ' H' b1 b2 b3 b4 b5 => hx C f d v dd ρ' S' σ' H' b1 (s1.trans b2) (b3.lessF a4) b4 b5
  refine ⟨ρ1, S1, upd F l o, χ, _, eF, h1, hx', fun vs ds ρ2 S2 H2 h2 s2 i2 e2 => ?_⟩
  obtain ⟨l1, h2⟩ := h2
  have l1' : vs.length = n := by rw [i2.length]; exact l1
  obtain ⟨hl, sl⟩ := e2.fr l o upd_same
  refine ⟨by rw [List.length_cons, l1'], rfl, S2, others S2 H2 (fun a => a = l), some (l, od), ds, _, _, by rw [hg, List.length_cons, l1'], ?_, h2, fun d v o2 S' H' q hs s' iv er => ?_, fun C f d v dd S' H' q => q.elim⟩
  · rw [hg]
    exact er_argsO i2 e2.ex (fun a o h => by obtain ⟨_, a1, a2⟩ := others_inv h; exact ⟨a2, a1⟩) hl sl (by unfold others; rw [if_pos rfl]) (a2.mono s2)
  · have e3 : ER K S2 F H2 ρ2 σ := e2.lessF a4
    have no : ∀ (j : Nat) (o2 : OD), ρ2[j]? ≠ some (Sl.own l o2) := fun j o2 h => by
      have b3 := (e2.own j l o2 h).2.2.1
      rw [upd_same] at b3; cases b3
    -- back to the caller: all but l is kept
    have e4 : ER K S' F H' ρ2 σ := by
      have keep : ∀ a u, a ≠ l → S2 a = none → H2 a = some u → H' a = some u ∧ S' a = none := fun a u b0 b1 b2 => er.fr a u (others_of (p := fun a => a = l) b0 b1 b2)
      refine ⟨e3.len, er.ex, fun a u h => ?_, fun i d h => ?_, fun i m od2 h => ?_, e3.dis⟩
      · obtain ⟨b1, b2⟩ := e3.fr a u h
        exact keep a u (fun z => by rw [z, a4] at h; cases h) b2 b1
      · obtain ⟨v, b1, b2⟩ := e3.val i d h
        exact ⟨v, b1, b2.mono s'⟩
      · obtain ⟨b1, b2, b3, ob, b4, b5⟩ := e3.own i m od2 h
        have ne : m ≠ l := fun z => by subst z; exact no i od2 h
        obtain ⟨b6, b7⟩ := keep m ob ne b2 b4
        exact ⟨b1, b7, b3, ob, b6, b5.mono s'⟩
    exact hp v d ρ2 S' H' q ((s1.trans s2).trans s') iv e4
end
end DL
set_option Elab.async false
set_option autoImplicit false
set_option linter.all false
set_option maxRecDepth 100000
set_option maxHeartbeats 3900000
namespace DL
open L2 PyProof.Rows PySem PySem.Spec
/-! ### errors: raised, caught, looked at -/
section
variable {K : Fg} {S F H : Hp} {ρ : Rho} {σ : L2.St}
/-- a slot is emptied -/
theorem ER.unset (e : ER K S F H ρ σ) (i : Nat) : ER K S F H (ρ.set i .un) (σ.set i none) := by
  have nu : ∀ {j : Nat} {s : Sl}, s ≠ .un → (ρ.set i .un)[j]? = some s → ρ[j]? = some s ∧ j ≠ i := fun {j s} hs q => by
    by_cases hj : j = i
    · subst hj
      have hl : j < ρ.length := by
        have := (List.getElem?_eq_some_iff.mp q).1
        rwa [List.length_set] at this
      rw [List.getElem?_set_self hl] at q
      exact absurd (Option.some.inj q).symm hs
    · rw [List.getElem?_set_ne (Ne.symm hj)] at q
      exact ⟨q, hj⟩
  refine ⟨by rw [List.length_set, List.length_set]; exact e.len, e.ex, e.fr, fun j d q => ?_, fun j m o q => ?_, fun j k m o1 o2 q1 q2 => ?_⟩
  · obtain ⟨q, hj⟩ := nu (by intro z; cases z) q
    rw [List.getElem?_set_ne (Ne.symm hj)]; exact e.val j d q
  · obtain ⟨q, hj⟩ := nu (by intro z; cases z) q
    rw [List.getElem?_set_ne (Ne.symm hj)]; exact e.own j m o q
  · exact e.dis _ _ _ _ _ (nu (by intro z; cases z) q1).1 (nu (by intro z; cases z) q2).1
end

/-- __init__ of an error that keeps one thing: self.f = y -/
def spIni (K : Fg) (f : Str) : Sp := fun vs H Q _ => ∃ (a C : Addr) (y : V), vs = [.ref a, y] ∧ H a = some (exo a C none) ∧ OexC K C ∧ PySem.W.findIn K (.ref C) f = some none ∧
  ∀ d, H d = none → d ≠ a → Q .non (upd (upd H d (exd d [(f, y)])) a (exo a C (some d)))
section
variable {P : Program} {w : World} {K : Fg} {mg : Str → Option Value} {base : Heap} {x qual : Str} {params : Arguments} {scope : Scope} {dvs : List V} {kws : List (Str × V)} {fa : Addr} {fd : FuncData} {f s : Str} {k : Nat}
theorem ini_ok {p1 p2 p3 p4 : Pos} (F : FunD K x qual params [.Assign [.Attribute (.Name s p1) f p2] (.Name f p3) p4] scope dvs kws fa fd) (S : FnScope [s, f] [s, f] scope)
    (h0 : Vis scope s) (h1 : Vis scope f) (d0 : ((s == ("__debug__" : Str)) || (s == ("__classdict__" : Str))) = false := by decide) (d1 : ((f == ("__debug__" : Str)) || (f == ("__classdict__" : Str))) = false := by decide) :
    FnOk P w K mg base (L2.CX P w) (k + 1) fa fd [s, f] (spIni K f) := by
  obtain ⟨a0, b0⟩ := Bool.or_eq_false_iff.mp d0
  obtain ⟨a1, b1⟩ := Bool.or_eq_false_iff.mp d1
  refine F.ok S (fun vs H Q E ⟨a, C, y, e, _⟩ => by subst e; rfl) fun cdv A outer s0 H vs Q E hr ⟨a, C, y, e, ea, T, hno, q⟩ => ⟨_, pss_one (ps_ost (pe_var (i := 0) rfl h0 a0 b0) (pe_var (i := 1) rfl h1 a1 b1)), ?_⟩
  subst e
  exact ⟨y, rfl, .ref a, rfl, a, C, rfl, T, hno, .inl ⟨ea, q⟩⟩
end

/-- raise C(e) -/
def wRaise (C : Addr) (f : Str) (wa : WL) : WS := fun ρ Δ => wa ρ Δ.xc fun ds ρ1 => match ds with
  | [d] => Δ.xc C f d ρ1
  | _ => False
structure ErrC (K : Fg) (C fI : Addr) (f : Str) : Prop where
  T : OexC K C
  iC : PySem.W.findIn K (.ref C) "__init__" = some (some (.ref fI))
  tI : PySem.W.typeIn K (.ref fI) = some (.type "function")
  no : PySem.W.findIn K (.ref C) f = some none
section
variable {X : Cx} {W : WX} {k : Nat} {C fI : Addr} {fd : FuncData} {f s x : Str} {e : Expr} {p p2 pos : Pos} {wa : WL}
theorem l_raise (hC : ErrC X.K C fI f) : ∀ D σ H, lS X.K W (wRaise C f wa) D σ H → (fun (_ : Ends) σ H => tMkO C (spIni X.K f) [] (lL X.K W wa) σ H fun cls d H' => W cls d σ H') D σ H := by
  rintro D σ H ⟨ρ, S, F, Δ, e, hw, hx, -⟩
  refine ⟨ρ, S, F, _, _, e, hw, hx, fun vs ds ρ' S' H' q s' iv e' => ?_⟩
  match ds, q, iv with
  | [d], q, .cons (v := y) r .nil =>
    refine ⟨by simp, fun a ha => ⟨a, C, y, rfl, upd_same, hC.T, hC.no, fun dd h1 h2 => ⟨rfl, dd, _, upd_same, by rw [upd_ne h2]; exact upd_same, ?_, ?_⟩⟩⟩
    · rw [upd_ne h2] at h1; exact h1
    · rw [upd_ne h2] at h1
      have hz : upd (del (upd (upd (upd H' a (exo a C none)) dd (exd dd [(f, y)])) a (exo a C (some dd))) a) dd (.xd [(f, y)]) = upd H' dd (.xd [(f, y)]) := by
        funext b
        by_cases hb : b = dd
        · subst hb; rw [upd_same, upd_same]
        · rw [upd_ne hb, upd_ne hb]
          by_cases hba : b = a
          · subst hba; rw [del_same, ha]
          · rw [del_ne hba, upd_ne hba, upd_ne hb, upd_ne hba]
      rw [hz]
      exact hx C f d y dd ρ' (upd S' dd (.xd [(f, y)])) σ _ q (s'.trans (e'.sn h1)) (e'.new h1) upd_same (r.mono (e'.sn h1))
theorem ps_rs (hc : X.calm = true) (c : Cok X W (k + 1)) (hC : ErrC X.K C fI f) (F1 : FnOk X.prog X.w X.K X.mg X.base (L2.CX X.prog X.w) k fI fd [s, f] (spIni X.K f)) (hb : Binds X.K fd [s, f] []) (hx : Passes (L2.CX X.prog X.w) X (fun _ _ _ => False))
    (hg : Gl X x) (hm : X.mg x = some (.ref C)) (ha : PA X [e] (lL X.K W wa)) (hdb : (x == ("__debug__" : Str)) = false := by decide) (he : starEach [e] X.env = [(false, eval e X.env)] := by rfl) :
    PS X (.Raise (some (.Call (.Name x p) [e] [] pos)) none p2) (lS X.K W (wRaise C f wa)) :=
  PS.imp (ps_raise hc c.tk (pmk_oex (k := k) hC.T hC.iC hC.tI F1 c.rm hb .nil hx hg hm ha hdb he rfl)) (l_raise hC)
end

/-! ### try .. except C as n -/
def exmD (K : Fg) (C : Addr) (c : Value) : Option Bool := PySem.W.exmOne K (.ref C) c
def wTry (K : Fg) (c : Value) (i : Nat) (wb : WS) (ws : Addr → Value → Option Addr → WS) : WS := fun ρ Δ => wb ρ { Δ with
  xc := fun C f d ρ1 => ∃ b, exmD K C c = some b ∧
    (b = true → ∀ a dd, ws a (.ref C) (some dd) (ρ1.set i (.val (.exn (.ref a) dd f d))) { Δ with nx := fun ρ2 => Δ.nx (ρ2.set i .un), bk := fun ρ2 => Δ.bk (ρ2.set i .un), ct := fun ρ2 => Δ.ct (ρ2.set i .un) }) ∧
    (b = false → Δ.xc C f d ρ1) }
section
variable {K : Fg} {W : WX} {c : Value} {i : Nat} {wb : WS} {ws : Addr → Value → Option Addr → WS}
theorem l_try : ∀ D σ H, lS K W (wTry K c i wb ws) D σ H → (fun D σ H => lS K (wAs K c i (fun a cls d => lS K W (ws a cls d)) W D) wb D σ H) D σ H := by
  rintro D σ H ⟨ρ, S, F, Δ, e, hw, hx, h1, h2, h3, h4, h5⟩
  refine ⟨ρ, S, F, _, e, hw, fun C f d v dd ρ' S' σ' H' q s' e' hd hv => ?_, h1, h2, h3, h4, h5⟩
  obtain ⟨b, hb, yes, no⟩ := q
  refine ⟨b, hb, fun hy a ha => ?_, fun hn => hx C f d v dd ρ' S' σ' H' (no hn) s' e' hd hv⟩
  refine ⟨_, S', F, _, e'.set (v := .ref a) (i := i) (.exn (v := .ref a) hd hv), yes hy a dd, hx.mono s', fun ρ2 S2 σ2 H2 a b c => h1 _ S2 _ H2 a (s'.trans b) (c.unset i), fun d v ρ2 S2 σ2 H2 a b c f => h2 d v ρ2 S2 σ2 H2 a (s'.trans b) c f,
    fun ρ2 S2 σ2 H2 a b c => h3 _ S2 _ H2 a (s'.trans b) (c.unset i), fun ρ2 S2 σ2 H2 a b c => h4 _ S2 _ H2 a (s'.trans b) (c.unset i), fun l od o ρ2 S2 σ2 H2 a b => h5 l od o ρ2 S2 σ2 H2 a (s'.trans b)⟩
end
theorem Cok.tr {X : Cx} {W W' : WX} {k : Nat} (c : Cok X W k) (pn : List (Addr × Obj)) (xe : Value → Shared → Prop) (t : Takes (X.tr pn xe) W') : Cok (X.tr pn xe) W' k := ⟨t, c.gd, c.rm⟩

/-- e.f in the suite -/
def wXf (a : Addr) (cls : Value) (dO : Option Addr) (C : Addr) (f : Str) (wa : WE) : WE := fun ρ χ Φ => wa ρ χ fun x ρ1 => match x with
  | .exn v dd f' d => v = .ref a ∧ cls = .ref C ∧ dO = some dd ∧ f' = f ∧ Φ d ρ1
  | _ => False
theorem l_xf {K : Fg} {W : WX} {a C : Addr} {cls : Value} {dO : Option Addr} {f : Str} {wa : WE} : ∀ σ H Q, lE K W (wXf a cls dO C f wa) σ H Q → tXf a cls dO C f (lE K W wa) σ H Q := by
  rintro σ H Q ⟨ρ, S, F, χ, Φ, e, hw, hx, hp⟩
  refine ⟨ρ, S, F, χ, _, e, hw, hx, fun v d ρ' S' H' q s' iv e' => ?_⟩
  cases iv with
  | exn h1 h2 =>
    obtain ⟨rfl, hc, rfl, rfl, q⟩ := q
    exact ⟨rfl, hc, _, _, _, rfl, e'.ex _ _ h1, by simp [List.lookup], hp _ _ ρ' S' H' q s' h2 e'⟩
  | _ => exact False.elim q
/-- isinstance(e, D): e the caught error -/
def rIsX (K : Fg) (cls : Value) (dO : Option Addr) (a : Addr) : List V → Hp → VK → Prop := fun xs H Q => ∃ (C : Addr) (c : V) (cv : Value) (dd : Addr) (fs : List (Str × V)) (b : Bool), xs = [.ref a, c] ∧ cls = .ref C ∧ dO = some dd ∧ H dd = some (.xd fs) ∧ ClsV c cv ∧ ExcC K C ∧
  PySem.W.kitOne K (.ref C) cv = some b ∧ Q (.bl b) H
theorem call_isX {X : Cx} {a : Addr} {cls : Value} {dO : Option Addr} {oe : Obj} {pn : List (Addr × Obj)} (hz : Zc cls dO oe) (hf : ∃ vs, oe.data = .fields vs) : CallR (X.suite a ((a, oe) :: pn)) (.builtin "isinstance") (rIsX X.K cls dO a) := by
  rintro pins s σ H xs us Q I r ⟨C, c, cv, dd, fs, b, rfl, rfl, rfl, ea, hcv, C0, e, q⟩
  cases r with
  | cons rx rr =>
    cases rr with
    | cons rt rr =>
      cases rr; cases rx; cases hcv.eq rt
      have hget := (I.pin (a, oe) (List.mem_append_left pins List.mem_cons_self)).1
      obtain ⟨vs, hv⟩ := hf
      obtain ⟨mA, hns, hr⟩ := (show ObjOk X.prog X.w H s.heap dd (.xd fs) from I.hok dd _ ea)
      obtain ⟨od, ho, -⟩ := lookIn_ns hns
      have J : PySem.W.InstAt s.heap a oe C (some od) := ⟨hget, hz.1, by unfold PySem.W.notCls; rw [hv] <;> rfl, by rw [hz.2]; exact ho⟩
      exact PySem.W.kia_one (PySem.W.kitx_exc (by obtain ⟨cd, hc, _⟩ := PySem.W.any_some C0.hd; rw [hc]; rfl) C0.hg C0.hk C0.hs C0.ha C0.hn C0.ht C0.hm) I.kIn J e (fun z => nomatch z) fun tk => ⟨.bl b, H, I.kept (t' := tk) fun _ _ z => z, rfl, q⟩
def rIsXD (K : Fg) (cls : Value) (dO : Option Addr) (a : Addr) : List D → (D → Prop) → Prop := fun ds Φ => match ds with
  | [.exn v dd _ _, .raw c] => v = .ref a ∧ dO = some dd ∧ ∃ (C : Addr) (cv : Value) (b : Bool), cls = .ref C ∧ ClsV c cv ∧ ExcC K C ∧ PySem.W.kitOne K (.ref C) cv = some b ∧ Φ (.bl b)
  | _ => False
theorem ok_isX {K : Fg} {cls : Value} {dO : Option Addr} {a : Addr} : CallOk K (rIsX K cls dO a) (rIsXD K cls dO a) := by
  intro S F H ρ σ vs ds Φ Q e hi hw hp
  unfold rIsXD at hw
  split at hw
  · cases hi with
    | cons r1 hi => cases hi with
      | cons r2 hi =>
        cases hi; cases r1 with
        | exn h1 h2 =>
          cases r2
          obtain ⟨rfl, rfl, C, cv, b, rfl, hc, hC, hk, q⟩ := hw
          exact ⟨C, _, cv, _, _, b, rfl, rfl, rfl, e.ex _ _ h1, hc, hC, hk, hp _ _ S H q (Same.refl S) (.bl b) e⟩
  · exact hw.elim
end DL
set_option Elab.async false
set_option autoImplicit false
set_option linter.all false
set_option maxRecDepth 100000
set_option maxHeartbeats 3900000
namespace DL
open L2 PyProof.Rows PySem PySem.Spec
/-! ### isinstance(x, C), isinstance(x, (C1, C2)) -/
structure InsC (K : Fg) (C : Addr) : Prop where
  cl : Cls K C
  ha : some (some (.builtin "object.__class__")) = PySem.W.findIn K (.ref C) "__class__"
  hn : some (some (.builtin "getset_descriptor.__get__")) = PySem.W.specialIn K (.builtin "object.__class__") "__get__"
  ht : some true = PySem.W.takesIn K (.builtin "object.__class__")
  hm : some true = PySem.W.mroIn K C (.type "object")
inductive DTy (K : Fg) : D → Value → Prop
  | non : DTy K .non (.type "NoneType")
  | bl (b : Bool) : DTy K (.bl b) (.type "bool")
  | int (i : Int) : DTy K (.int i) (.type "int")
  | str (s : Str) : DTy K (.str s) (.type "str")
  | lst (ds : List D) : DTy K (.lst ds) (.type "list")
  | tup (ds : List D) : DTy K (.tup ds) (.type "tuple")
  | dic (ks : List Key) (ds : List D) : DTy K (.dic ks ds) (.type "dict")
  | obj {C : Addr} (ns : List Str) (ds : List D) (h : InsC K C) : DTy K (.obj C ns ds) (.ref C)
theorem DTy.of {K : Fg} {S H : Hp} {v : V} {d : D} {t : Value} (h : DTy K d t) (iv : Is K S v d) (ex : Same S H) : TyX K H v t := by
  refine .base ?_
  cases h with
  | obj ns ds h => cases iv with
    | obj h1 h2 h3 => exact .ins (ex _ _ h1) h.cl h.ha.symm h.hn.symm h.ht.symm h.hm.symm
  | lst ds => cases iv with
    | lst h1 h2 => exact .lst (ex _ _ h1)
  | tup ds => cases iv with
    | tup h1 h2 => exact .tup (ex _ _ h1)
  | dic ks ds => cases iv with
    | dic h1 h2 h3 => exact .dK (ex _ _ h1)
  | non => cases iv; exact .non
  | bl b => cases iv; exact .bl b
  | int i => cases iv; exact .int i
  | str s => cases iv; exact .str s
def wIsI (K : Fg) : WCl := fun ds Φ => match ds with
  | [x, .raw c] => ∃ (u t : Value) (b : Bool), ClsV c u ∧ DTy K x t ∧ PySem.W.kitOne K t u = some b ∧ Φ (.bl b)
  | _ => False
theorem ok_isI {K : Fg} : CallOk K (rIsi K) (wIsI K) := by
  intro S F H ρ σ vs ds Φ Q e hi hw hp
  unfold wIsI at hw
  split at hw
  · obtain ⟨u, t, b, hc, ht, hk, q⟩ := hw
    cases hi with
    | cons r1 hi => cases hi with
      | cons r2 hi =>
        cases hi; cases r2
        exact ⟨_, _, t, u, b, rfl, hc, ht.of r1 e.ex, hk, hp _ _ S H q (Same.refl S) (.bl b) e⟩
  · exact hw.elim
inductive RawAll : List D → List V → Prop
  | nil : RawAll [] []
  | cons (v : V) {ds vs} : RawAll ds vs → RawAll (.raw v :: ds) (v :: vs)
theorem RawAll.of {K : Fg} {S : Hp} : ∀ {ds : List D} {vs ws : List V}, RawAll ds vs → IsAll K S ws ds → ws = vs
  | _, _, _, .nil, .nil => rfl
  | _, _, _, .cons v h, .cons r t => by cases r; rw [h.of t]
def wIsT (K : Fg) : WCl := fun ds Φ => match ds with
  | [x, .tup cs] => ∃ (vs : List V) (us : List Value) (t : Value) (b : Bool), RawAll cs vs ∧ Paired ClsV vs us ∧ DTy K x t ∧ PySem.W.kitAny K t us = some b ∧ Φ (.bl b)
  | _ => False
theorem ok_isT {K : Fg} : CallOk K (rIsiT K) (wIsT K) := by
  intro S F H ρ σ vs ds Φ Q e hi hw hp
  unfold wIsT at hw
  split at hw
  · obtain ⟨vs, us, t, b, hr, hc, ht, hk, q⟩ := hw
    cases hi with
    | cons r1 hi => cases hi with
      | cons r2 hi =>
        cases hi; cases r2 with
        | tup h1 h2 =>
          cases hr.of h2
          exact ⟨_, _, _, t, us, b, rfl, e.ex _ _ h1, hc, ht.of r1 e.ex, hk, hp _ _ S H q (Same.refl S) (.bl b) e⟩
  · exact hw.elim

/-! ### enumerate of a tuple -/
theorem enum_new {v : Value} {o : Obj} {J : Heap → Prop} (B : PySem.Begins v o J) :
    Meets (Builtin.«enumerate.__new__» ⟨[.type "enumerate", v], []⟩) (fun _ R s => J s.heap ∧
      R (.ok (.ret (.ref (s.heap.objs.size + 1)))) { s with heap := (s.heap.push o).push { cls := .type "enumerate", data := .fields #[.none, .bool false, .ref s.heap.objs.size, rawInt 0, .none, .none] } }) :=
  .of_wp fun prog w A R s j0 => by
    rcases s with ⟨hp, gs, dr, tks, os⟩
    obtain ⟨j, h⟩ := j0
    have hsub := sub_enumerate
    have z : (hp.push o).objs.size = hp.objs.size + 1 := Heap.size_push ..
    have it0 : ∀ {A' : Around} {E Q : Value → Shared → Prop}, Q (.ref hp.objs.size) ⟨hp.push o, gs, dr, tks, os⟩ → wpAny (model prog w) A' (pyIter v) Q E ⟨hp, gs, dr, tks, os⟩ := fun q => B.iter _ _ _ _ _ _ j q
    have fin : R (.ok (.ret (.ref (hp.push o).objs.size))) ⟨(hp.push o).push { cls := .type "enumerate", data := .fields #[.none, .bool false, .ref hp.objs.size, rawInt 0, .none, .none] }, gs, dr, tks, os⟩ := by rw [z]; exact h
    wp_walk using it0
    refine wpAny_stack_any fun _ => wpAny_pure ?_; split
    · rename_i c _ _ _ _ _
      cases (c == Value.type "enumerate") <;> (wp_walk using it0; exact ⟨_, rfl, fin⟩)
    · wp_walk using it0
      exact ⟨_, rfl, fin⟩
theorem call_enum {prog : Program} {w : World} {A : Around} {E Q : Value → Shared → Prop} {s : Shared} {v : Value} {o : Obj} {J : Heap → Prop} (B : PySem.Begins v o J) (j : J s.heap)
    (h : ∀ h', IsEnum h' (s.heap.objs.size + 1) s.heap.objs.size 0 .none → h'.get? s.heap.objs.size = some o → (∀ b o, s.heap.get? b = some o → h'.get? b = some o) → Q (.ref (s.heap.objs.size + 1)) { s with heap := h' }) :
    wpAny (model prog w) A (call (.type "enumerate") [v]) Q E s := by
  have z : (s.heap.push o).objs.size = s.heap.objs.size + 1 := Heap.size_push ..
  have he : IsEnum ((s.heap.push o).push { cls := .type "enumerate", data := .fields #[.none, .bool false, .ref s.heap.objs.size, rawInt 0, .none, .none] }) (s.heap.objs.size + 1) s.heap.objs.size 0 .none := by
    rw [← z]; exact Heap.get?_push_size _ rfl
  exact callType_new F.called_enumerate (by decide) (F.typeCall_enumerate_1 _) (F.newCall_enumerate_1 _) (fun ob => F.args_object_init_2 ob _) F.entry_enumerate_new (enum_new B)
    ⟨j, ⟨_, he, rfl⟩, h _ he (Heap.get?_push_of_some _ (Heap.get?_push_size _ B.free)) fun b o x => Heap.get?_push_of_some _ (Heap.get?_push_of_some _ x)⟩

/-- the tuple at a, each item in a new pair with its place -/
def Iet (K : Fg) (a : Addr) : It :=
  ⟨fun i H => ∃ (xs : List V) (x : V), SqT K H a xs ∧ xs[i]? = some x, fun i H v H' => ∃ T x, v = .ref T ∧ H T = none ∧ H' = upd H T (.tup [.int (i : Nat), x]) ∧ ∀ xs, SqT K H a xs → xs[i]? = some x, fun i H => ∃ xs : List V, SqT K H a xs ∧ xs.length = i⟩
theorem turn_enumT {P : Program} {w : World} {K : Fg} {elts : List Expr} {kk : Nat} {tpos : Pos} (a e it : Addr) :
    Turn P w K (.Tuple elts kk tpos) (Iet K a) [e, it] e (fun i h => (∃ old, IsEnum h e it ((i : Nat) : Int) old) ∧ h.IsTupleIter it a i ∧ e ≠ it ∧ a ≠ it ∧ e ≠ a) where
  mem := List.mem_cons_self
  obj := by
    rintro i h ⟨⟨old, he⟩, ⟨o, ho, hc, hd⟩, -⟩ b hb
    obtain rfl | hb := List.mem_cons.mp hb
    · exact ⟨_, he, fun v q => nomatch q⟩
    · cases List.mem_singleton.mp hb
      exact ⟨o, ho, fun v q => nomatch hd.symm.trans q⟩
  keep := by
    rintro i h h' ⟨⟨old, he⟩, hi, hne⟩ k
    exact ⟨⟨old, k e List.mem_cons_self _ he⟩, hi.at fun o q => k it (List.mem_cons_of_mem _ List.mem_cons_self) o q, hne⟩
  item := by
    rintro X rfl rfl rfl hc i pins s σ H E I hf ⟨⟨old, he⟩, hit, hne, hai, hea⟩ ⟨xs, x, hq, hx⟩
    obtain ⟨its, rv, p, -⟩ := I.tuple hq
    have ⟨u, hu, ru⟩ := rv.get hx
    have hlt : i < its.toArray.size := by
      have := (List.getElem?_eq_some_iff.mp hu).1
      simpa using this
    have hel := Heap.lt_size he
    have hil : it < s.heap.objs.size := let ⟨_, q, _⟩ := hit; Heap.lt_size q
    refine wpAny_pyNext_enum_itemD (Draws.tuple (show X.A.in1.handled = none from I.ok.hd hc) it a hai its.toArray) he ⟨hit, p⟩ hlt hne (by simp [hne, hea]) fun y h' tk hy ho st' hT hsz hk => ?_
    have ey : y = u := by
      have : its.toArray[i]? = some u := by simpa using hu
      rw [this] at hy; exact (Option.some.inj hy).symm
    subst ey
    refine ⟨_, rfl, wpAny_letOwnedTupleGo_enum (s := { s with heap := h', toks := tk + 1 }) ho fun h'' he' sb => ?_⟩
    have hT2 : h''.get? s.heap.objs.size = some { cls := .type "tuple", data := .seq #[.int i tk, y] } := (sb.2 _ (Nat.ne_of_gt hel)).trans hT
    have new : ObjOk X.prog X.w (upd H s.heap.objs.size (.tup [.int (i : Nat), x])) h'' _ (.tup [.int (i : Nat), x]) :=
      ⟨show 2 ≤ sizeLine by decide, [.int i tk, y], .cons ⟨tk, rfl⟩ (.cons ru .nil), ⟨_, hT2, rfl, _, rfl⟩⟩
    have J : Inv X pins σ (upd H s.heap.objs.size (.tup [.int (i : Nat), x])) { s with heap := h'', toks := tk + 1 } := by
      refine I.turnedNew (ch := [e, it]) (fun b ob hb q => ?_) hf (Nat.le_refl _) new
      obtain ⟨n1, n2⟩ : b ≠ e ∧ b ≠ it := by simpa using hb
      exact (sb.2 b n1).trans (hk b ob n1 n2 q)
    refine ⟨.ref s.heap.objs.size, _, J, rfl, ⟨_, x, rfl, I.hok.fresh (Nat.le_refl _), rfl, fun ys hy => by rw [I.tuple_inj hy hq]; exact hx⟩, ⟨⟨y, ?_⟩, st'.1.at fun o q => (sb.2 it (Ne.symm hne)).trans q, hne, hai, hea⟩, fun b hb => ?_⟩
    · rw [show ((i + 1 : Nat) : Int) = (i : Int) + 1 by omega]; exact he'
    · rw [upd_ne (Nat.ne_of_lt (by rcases List.mem_cons.mp hb with rfl | hb; exact hel; cases List.mem_singleton.mp hb; exact hil))]
      exact (hf b hb).1
  done := by
    rintro X rfl rfl rfl hc i pins s σ H E I hf ⟨⟨old, he⟩, hit, hne, hai, hea⟩ ⟨xs, hq, hx⟩
    obtain ⟨its, rv, p, -⟩ := I.tuple hq
    obtain ⟨f0, f1, f2, f3, f4, f5⟩ := hf it (List.mem_cons_of_mem _ List.mem_cons_self)
    have hn : i = its.toArray.size := by have := rv.length; simp; omega
    subst hn
    exact wpAny_pyNext_enum_endD (Draws.tuple (show X.A.in1.handled = none from I.ok.hd hc) it a hai its.toArray) he ⟨hit, p⟩ fun h' eb => ⟨rfl, I.turned (t' := s.toks) (fun b o hb q => eb b o hb q) f0 f1 f3 f4 f5⟩
  self := by
    rintro A i s Q E ⟨⟨_, he⟩, -⟩ h
    exact wpAny_pyIter_enum he h
def enD (ds : List D) : List D := ds.zipIdx.map fun p => .tup [.int (p.2 : Nat), p.1]
/-- enumerate(e), e a list or a tuple, whichever it is -/
def wiEnum (wa : WL) : WL := fun ρ χ Φ => wa ρ χ fun as ρ1 => match as with
  | [.lst ds] => Φ (enD ds) ρ1
  | [.tup ds] => Φ (enD ds) ρ1
  | _ => False
theorem enD_at {ds : List D} {i : Nat} (h : i < ds.length) : (enD ds)[i]? = some (.tup [.int (i : Nat), ds[i]]) := by
  unfold enD
  rw [List.getElem?_map, List.getElem?_zipIdx, List.getElem?_eq_getElem h]
  simp
theorem enD_len {ds : List D} : (enD ds).length = ds.length := by unfold enD; simp
theorem new_pair {K : Fg} {S1 F H : Hp} {ρ : Rho} {σ : L2.St} {T : Addr} {x : V} {d : D} {i : Nat} (e : ER K S1 F H ρ σ) (hT : H T = none) (r : Is K S1 x d) :
    ∃ S2, Same S1 S2 ∧ Is K S2 (.ref T) (.tup [.int (i : Nat), d]) ∧ ER K S2 F (upd H T (.tup [.int (i : Nat), x])) ρ σ :=
  ⟨_, e.sn hT, .tup upd_same (.cons (.int _) (.cons (r.mono (e.sn hT)) .nil)), e.new hT⟩
theorem dwk_enL {K : Fg} {S : Hp} {a : Addr} {vs : List V} {ds : List D} (h : S a = some (.lst vs)) (hi : IsAll K S vs ds) : DWk K S (Ite K a) (enD ds) := by
  have hl := hi.length
  refine ⟨fun i H h1 s => ?_, fun H s => ⟨vs, .inl (.inl (s _ _ h)), by rw [enD_len]; omega⟩, fun i H x H' h1 s y => ?_⟩
  · rw [enD_len] at h1
    exact ⟨vs, vs[i]'(by omega), .inl (.inl (s _ _ h)), by simp⟩
  · rw [enD_len] at h1
    obtain ⟨T, v, rfl, hT, rfl, hv⟩ := y
    obtain ⟨v', q1, q2⟩ := hi.get (i := i) (d := ds[i]) (by simp [h1])
    cases q1.symm.trans (hv vs (.inl (.inl (s _ _ h))))
    exact ⟨_, enD_at h1, fun S1 F ρ σ s1 e => new_pair e hT (q2.mono s1)⟩
theorem dwk_enT {K : Fg} {S : Hp} {a : Addr} {vs : List V} {ds : List D} (h : S a = some (.tup vs)) (hi : IsAll K S vs ds) : DWk K S (Iet K a) (enD ds) := by
  have hl := hi.length
  refine ⟨fun i H h1 s => ?_, fun H s => ⟨vs, .inl (.inl (s _ _ h)), by rw [enD_len]; omega⟩, fun i H x H' h1 s y => ?_⟩
  · rw [enD_len] at h1
    exact ⟨vs, vs[i]'(by omega), .inl (.inl (s _ _ h)), by simp⟩
  · rw [enD_len] at h1
    obtain ⟨T, v, rfl, hT, rfl, hv⟩ := y
    obtain ⟨v', q1, q2⟩ := hi.get (i := i) (d := ds[i]) (by simp [h1])
    cases q1.symm.trans (hv vs (.inl (.inl (s _ _ h))))
    exact ⟨_, enD_at h1, fun S1 F ρ σ s1 e => new_pair e hT (q2.mono s1)⟩
theorem d_enum {X : Cx} {W : WX} {wa : WL} {e : Expr} {p pos tpos : Pos} {elts : List Expr} {kk : Nat} (hg : Gl X "enumerate") (hm : X.mg "enumerate" = none) (ha : PA X [e] (lL X.K W wa)) (hs : starEach [e] X.env = [(false, eval e X.env)] := by rfl) :
    PI X (.Tuple elts kk tpos) (.Call (.Name "enumerate" p) [e] [] pos) (lI X.K W (wiEnum wa)) := by
  constructor; rintro pins s σ H R I ⟨ρ, S, F, χ, Φ, e0, hw, hx, hp⟩
  have h' : lL X.K W wa σ H (fun vs H1 => ∃ a, vs = [.ref a] ∧ ((∃ xs, SqL X.K H1 a xs ∧ R (Ite X.K a) H1) ∨ ∃ xs, SqT X.K H1 a xs ∧ R (Iet X.K a) H1)) := by
    refine ⟨ρ, S, F, χ, _, e0, hw, hx, fun vs as ρ' S' H' q s' iv e' => ?_⟩
    split at q
    · cases iv with
      | cons r rr => cases rr; cases r with
        | lst h1 h2 => exact ⟨_, rfl, .inl ⟨_, .inl (.inl (e'.ex _ _ h1)), hp _ _ ρ' S' H' q s' e' (dwk_enL h1 h2)⟩⟩
    · cases iv with
      | cons r rr => cases rr; cases r with
        | tup h1 h2 => exact ⟨_, rfl, .inr ⟨_, .inl (.inl (e'.ex _ _ h1)), hp _ _ ρ' S' H' q s' e' (dwk_enT h1 h2)⟩⟩
    · exact q.elim
  refine Call_ (ld_blt I hg hm boot_enumerate (PyProof.Rows.callWith_type1 (thn (ha.run pos pins s σ H _ I h') fun us s1 ⟨vs, H1, I1, r1, a, ex, q1⟩ => ?_) hs rfl))
  subst ex
  rcases r1 with _ | ⟨r, rr⟩
  cases rr; cases r
  have fresh : ∀ b ∈ [s1.heap.objs.size + 1, s1.heap.objs.size], FpOk X pins H1 b := fun b hb => by
    have old : s1.heap.objs.size ≤ b := by
      obtain rfl | hb := List.mem_cons.mp hb
      · exact Nat.le_succ _
      · cases List.mem_singleton.mp hb; exact Nat.le_refl _
    exact I1.fpOk old (I1.hok.fresh old)
  rcases q1 with ⟨xs, hq, q⟩ | ⟨xs, hq, q⟩
  · obtain ⟨its, -, p', -⟩ := I1.list hq
    exact call_enum (PySem.begins_list a its.toArray) p'.isList fun h' he hit hk => wpAny_pyIter_enum he ⟨_, _, _, _, H1, rfl, I1.kept (t' := s1.toks) hk, turn_enum a _ s1.heap.objs.size, ⟨⟨.none, he⟩, ⟨_, hit, rfl, rfl⟩, Nat.succ_ne_self _⟩, fresh, q⟩
  · obtain ⟨its, -, p', -⟩ := I1.tuple hq
    have hlt : a < s1.heap.objs.size := by obtain ⟨_, z, _⟩ := p'; exact Heap.lt_size z
    exact call_enum (PySem.begins_tuple a its.toArray) p' fun h' he hit hk => wpAny_pyIter_enum he ⟨_, _, _, _, H1, rfl, I1.kept (t' := s1.toks) hk, turn_enumT a _ s1.heap.objs.size,
      ⟨⟨.none, he⟩, ⟨_, hit, rfl, rfl⟩, Nat.succ_ne_self _, Nat.ne_of_lt hlt, Nat.ne_of_gt (Nat.lt_succ_of_lt hlt)⟩, fresh, q⟩
end DL
set_option Elab.async false
set_option autoImplicit false
set_option linter.all false
set_option maxRecDepth 100000
set_option maxHeartbeats 3900000
namespace DL
open L2 PyProof.Rows PySem PySem.Spec
/-! ### an instance that is being made: its fields -/
theorem putF_new {f : Str} {y : V} : ∀ {vs : List (Str × V)}, f ∉ vs.map (·.1) → putF f y vs = vs ++ [(f, y)]
  | [], _ => rfl
  | (g, z) :: r, h => by
    have hg : ¬ g = f := fun q => h (by rw [← q]; exact List.mem_cons_self)
    have hr : f ∉ r.map (·.1) := fun q => h (List.mem_cons_of_mem _ q)
    show (if g = f then _ else _) = _
    rw [if_neg hg, putF_new hr]
    rfl
/-- self.f = e, self the slot i, not yet there -/
def wFset (C : Addr) (f : Str) (i : Nat) (wa : WE) : WS := fun ρ Δ => (∃ l o, ρ[i]? = some (Sl.own l o)) ∧ wa ρ Δ.xc fun d ρ1 => match ρ1[i]? with
  | some (.own l (.i c ns ds)) => c = C ∧ f ∉ ns ∧ ns.length < 900 ∧ Δ.nx (ρ1.set i (.own l (.i c (ns ++ [f]) (ds ++ [d]))))
  | _ => False
/-- self.f -/
def wFldO (C : Addr) (f : Str) (i : Nat) : WE := fun ρ χ Φ => match ρ[i]? with
  | some (.own l (.i c ns ds)) => c = C ∧ ∃ d, lookD ns ds f = some d ∧ Φ d ρ
  | _ => False
section
variable {K : Fg} {W : WX} {C : Addr} {f : Str} {i : Nat} {wa : WE}
theorem l_fset (hc : Cls K C) (hn : NoAttr K C f) : ∀ D σ H, lS K W (wFset C f i wa) D σ H → sFld K (tVar i) (lE K W wa) f D σ H := by
  rintro D σ H ⟨ρ, S, F, Δ, e, ⟨⟨l0, o0, hl0⟩, hw⟩, hx, h1, -⟩
  obtain ⟨hσ, -⟩ := e.own i l0 o0 hl0
  refine ⟨ρ, S, F, _, _, e, hw, hx, fun y d ρ' S' H' q s' iv e' => ⟨.ref l0, hσ, ?_⟩⟩
  split at q
  · rename_i l c ns ds hl
    obtain ⟨rfl, hf, hz, q⟩ := q
    obtain ⟨b1, b2, b3, ob, b4, b5⟩ := e'.own i l _ hl
    cases b1.symm.trans hσ
    cases b5 with
    | i hns hi =>
      rename_i dx vs
      subst hns
      have hz' : vs.length < 1000 := by rw [List.length_map] at hz; omega
      refine ⟨_, _, dx, vs, rfl, b4, hc, hn, hz', h1 _ S' σ _ q s' (e'.wr hl ?_)⟩
      rw [putF_new hf]
      exact .i (by simp) (by rw [List.map_append]; exact hi.append (.cons iv .nil))
  · exact q.elim
theorem l_fldO (hc : Cls K C) (hn : NoAttr K C f) : ∀ σ H Q, lE K W (wFldO C f i) σ H Q → tFld K (tVar i) f σ H Q := by
  rintro σ H Q ⟨ρ, S, F, χ, Φ, e, hw, hx, hp⟩
  unfold wFldO at hw
  split at hw
  · rename_i l c ns ds hl
    obtain ⟨rfl, d, hd, q⟩ := hw
    obtain ⟨b1, b2, b3, ob, b4, b5⟩ := e.own i l _ hl
    cases b5 with
    | i hns hi =>
      subst hns
      obtain ⟨v, h1, h2⟩ := look_fs hi hd
      exact ⟨.ref _, b1, _, _, _, _, v, rfl, b4, hc, hn, h1, hp v d ρ S H q (Same.refl S) h2 e⟩
  · exact hw.elim
end

/-! ### C(..): the made object is data from then on -/
theorem ER.addS {K : Fg} {S F H : Hp} {ρ : Rho} {σ : L2.St} {p : Addr} {o : HO} (e : ER K S F H ρ σ) (h1 : H p = some o) (h2 : S p = none) (h3 : F p = none) (h4 : ∀ (j : Nat) (o2 : OD), ρ[j]? ≠ some (Sl.own p o2)) : ER K (upd S p o) F H ρ σ ∧ Same S (upd S p o) := by
  have sS : Same S (upd S p o) := fun b u q => by rw [upd_ne (ne_of_none q h2)]; exact q
  refine ⟨⟨e.len, fun b u q => ?_, fun a u q => ?_, fun j d q => ?_, fun j m od q => ?_, e.dis⟩, sS⟩
  · by_cases hb : b = p
    · subst hb; rw [upd_same] at q; cases q; exact h1
    · rw [upd_ne hb] at q; exact e.ex b u q
  · obtain ⟨a1, a2⟩ := e.fr a u q
    rw [upd_ne (ne_of_none q h3)]; exact ⟨a1, a2⟩
  · obtain ⟨v, a1, a2⟩ := e.val j d q
    exact ⟨v, a1, a2.mono sS⟩
  · obtain ⟨a1, a2, a3, ob, a4, a5⟩ := e.own j m od q
    have ne : m ≠ p := fun z => by subst z; exact h4 j od q
    exact ⟨a1, by rw [upd_ne ne]; exact a2, a3, ob, a4, a5.mono sS⟩
def wMake (C : Addr) (n m : Nat) (sp : Spc) (gD : List D → List D → List D) (wa wk : WL) : WE := fun ρ χ Φ => wa ρ χ fun ds ρ1 => wk ρ1 χ fun zs ρ2 => ds.length = n ∧ zs.length = m ∧
  sp (some (.i C [] [])) (gD ds zs) (fun d o' => d = .non ∧ ∃ ns es, o' = some (.i C ns es) ∧ Φ (.obj C ns es) ρ2) fun C f d => χ C f d ρ2
section
variable {K : Fg} {W : WX} {C : Addr} {sp : Spc} {n m N : Nat} {gV gW : List V → List V → List V} {gD : List D → List D → List D} {wa wk : WL}
theorem l_make (hg : GRel n m N gW gD) (hgv : ∀ v vs zs, gV (v :: vs) zs = v :: gW vs zs) : ∀ σ H Q, lE K W (wMake C n m sp gD wa wk) σ H Q → tMakeG W C n m (lSp K (N + 1) sp) gV (lL K W wa) (lL K W wk) σ H Q := by
  rintro σ H Q ⟨ρ, S, F, χ, Φ, e, hw, hx, hp⟩
  refine ⟨ρ, S, F, χ, _, e, hw, hx, fun vs ds ρ1 S1 H1 h1 s1 i1 e1 => ?_⟩
  refine ⟨ρ1, S1, F, χ, _, e1, h1, hx.mono s1, fun us es ρ2 S2 H2 h2 s2 i2 e2 => ?_⟩
  obtain ⟨l1, l2, h3⟩ := h2
  have l1' : vs.length = n := by rw [i1.length]; exact l1
  have l2' : us.length = m := by rw [i2.length]; exact l2
  obtain ⟨ig, lg⟩ := hg K S2 vs ds us es (i1.mono s2) i2 l1' l2'
  refine ⟨l1', l2', fun x dx hx0 hdx hne => ?_⟩
  have sH : Same S2 (upd (upd H2 dx (.own x)) x (.ins C dx [])) := fun b u q => by
    have hb := e2.ex b u q
    rw [upd_ne (ne_of_none hb hx0), upd_ne (ne_of_none hb hdx)]; exact hb
  have fc : ∀ a o, S2 a = none → H2 a = some o → others S2 (upd (upd H2 dx (.own x)) x (.ins C dx [])) (fun a => a = x) a = some o := fun a o a1 a2 =>
    others_of (p := fun a => a = x) (ne_of_none a2 hx0) a1 (by rw [upd_ne (ne_of_none a2 hx0), upd_ne (ne_of_none a2 hdx)]; exact a2)
  rw [hgv]
  refine ⟨S2, others S2 (upd (upd H2 dx (.own x)) x (.ins C dx [])) (fun a => a = x), some (x, .i C [] []), gD ds es, _, _, by rw [List.length_cons, lg],
    er_argsO ig sH (fun a o h => by obtain ⟨_, a1, a2⟩ := others_inv h; exact ⟨a2, a1⟩) upd_same (e2.sp hx0) (by unfold others; rw [if_pos rfl]) (.i rfl .nil), h3,
    fun d v o2 S' H' q _ s' iv er => ?_, fun C f d v dd S' H' q s' ex fr hd iv => ?_⟩
  · obtain ⟨rfl, ns, ys, rfl, q⟩ := q
    cases iv
    obtain ⟨_, c2, _, o3, c4, c5⟩ := er.own 0 x _ rfl
    obtain ⟨e4, s4⟩ := (e2.back s' er.ex fc er.fr).addS c4 c2 (e2.fp hx0) (e2.notOwn hx0)
    refine ⟨rfl, hp (.ref x) _ ρ2 _ H' q (((s1.trans s2).trans s').trans s4) ?_ e4⟩
    cases c5 with
    | i hns hi => exact .obj upd_same hns (hi.mono s4)
  · exact hx C f d v dd ρ2 S' σ H' q ((s1.trans s2).trans s') (e2.back s' ex fc fr) hd iv
end

/-! ### x != y of two instances of a class that has its own __eq__ alone -/
structure EqC (K : Fg) (C f : Addr) : Prop where
  cls : ∃ nm q N bs hdct sn sub ab col dd k0 k1 k2 k3 k5 ni, K.lookup C = some (excClassObj nm q C N bs [.type "object"] hdct sn sub ab col dd k0 k1 k2 k3 k5 ni) ∧ PySem.W.nsOkIn K N = true ∧ PySem.W.nsIn K N "__eq__" = some (some (.ref f)) ∧ PySem.W.nsIn K N "__ne__" = some none
  fn : true = PySem.W.isFn K (.ref f)
def rNeO (C : Addr) (sp : Sp) : R2 := fun x y H Q => ∃ a b dx dy fs gs, x = .ref a ∧ y = .ref b ∧ H a = some (.ins C dx fs) ∧ H b = some (.ins C dy gs) ∧ sp [x, y] H (fun v H' => ∃ t, v = .bl t ∧ Q (.bl !t) H') fun _ _ _ => False
theorem ns_some_of {K : Fg} {h : Heap} {N : Addr} {mg : Str → Option Value} {n : Str} {v : Value} (X : K.In h) (G : h.Ns N mg) (e : PySem.W.nsIn K N n = some (some v)) : mg n = some v := by
  obtain ⟨_, es, _, ho, hd, -, hf⟩ := G; unfold PySem.W.nsIn at e
  split at e
  · rename_i c d es' n' sl q
    cases ho.symm.trans (X _ _ q)
    cases hd
    rw [← hf]
    unfold nsFind findBy
    rw [← Array.find?_toList]
    split at e
    · rename_i en he
      cases e
      rw [he]; rfl
    · split at e <;> cases e
  · cases e
theorem op_neO {X : Cx} {W : WX} {k : Nat} {C f : Addr} {fd : FuncData} {ps : List Str} {sp : Sp} {g : List Value → List Value → List Value} {gV : List V → List V → List V} (T : EqC X.K C f) (F : FnG X.prog X.w X.K X.mg X.base k f fd ps sp) (c : Cok X W (k + 1)) (hb : KBn X.K fd ps 2 [] g gV)
    (hg : ∀ us, g us [] = us) (hgV : ∀ us, gV us [] = us) : OpR X (compareOp .NotEq) (rNeO C sp) := by
  rintro pins s σ H x y v u Q I rx ry ⟨a, b, dx, dy, fs, gs, rfl, rfl, ha, hb', hsp⟩
  cases rx; cases ry
  obtain ⟨nm, q, N, bs, hdct, sn, sub, ab, col, dd, k0, k1, k2, k3, k5, ni, hC, hN, hE, hNe⟩ := T.cls
  obtain ⟨mA, ⟨O1, -, -⟩, -⟩ := ins_get I.hok ha
  obtain ⟨mB, ⟨O2, -, -⟩, -⟩ := ins_get I.hok hb'
  obtain ⟨hp, gs', dr, tk, os⟩ := s
  have G : Heap.Ns hp N (hp.nsMap N) := Heap.Ns.of_isNs (PySem.W.isNs_of_in I.kIn hN)
  obtain ⟨of, hof, hofc⟩ : ∃ of, hp.get? f = some of ∧ of.cls = .type "function" := by
    have ht : PySem.W.typeIn X.K (.ref f) = some (.type "function") := beq_iff_eq.mp T.fn.symm
    replace ht : (X.K.lookup f).map (·.cls) = some (.type "function") := ht
    cases ho : X.K.lookup f with
    | none => rw [ho] at ht; cases ht
    | some of => rw [ho] at ht; exact ⟨of, I.kIn _ _ ho, Option.some.inj ht⟩
  have own : hp.OwnEqNoNe a C f "object" [.type "object"] := by
    refine ⟨_, of, nm, q, N, bs, hdct, sn, sub, ab, col, dd, k0, k1, k2, k3, k5, ni, hp.nsMap N, _, O1, rfl, I.kIn _ _ hC, G, ns_some_of I.kIn G hE, hof, hofc, PySem.F.cmp_object.mro, PySem.F.cmp_object.eq.lookup, PySem.W.ns_none_of I.kIn G hNe⟩
  refine compareOp_ne_ownEq PySem.F.cmp_object own O2 rfl c.hu ?_
  have e0 : Env0 X.prog X.w X.K X.mg X.base X.A.in1 X.stack ⟨hp, gs', dr, tk, os⟩ H := by
    have z := I.env0
    exact ⟨z.frames, z.mod, z.bs, z.bsz, z.funs, z.frf, z.hok, z.bare⟩
  have r2 : Vals [.ref a, .ref b] [.ref a, .ref b] := .cons rfl (.cons rfl .nil)
  have bt := hb.to ⟨hp, gs', dr, tk, os⟩ [Value.ref a, Value.ref b] [] I.kIn rfl rfl
  rw [hg] at bt
  refine wpAny_call (codeAny_mono (F.run X.A.in1 X.stack ⟨hp, gs', dr, tk, os⟩ H ⟨[.ref a, .ref b], []⟩ _ _ _ _ c.rm.in1 c.gd e0 bt r2 hsp) fun r s' hq => ?_)
  cases r with
  | error er => exact c.tk er s' (XE.of_call I (fun _ _ _ z => z.elim) hq)
  | ok fl =>
    cases fl with
    | ret w =>
      obtain ⟨z, H', I', rz, t, ez, q⟩ := I.after hq
      subst ez
      cases rz
      exact ⟨t, rfl, .bl !t, H', I', rfl, q⟩
    | next => cases hq
    | brk => cases hq
    | cont => cases hq
def wNeO (C : Addr) (sp : Spc) (x y : D) (Φ : D → Prop) : Prop := (∃ ns ds ms es, x = .obj C ns ds ∧ y = .obj C ms es) ∧ sp none [x, y] (fun d _ => ∃ t, d = .bl t ∧ Φ (.bl !t)) fun _ _ _ => False
theorem ok_neO {K : Fg} {C : Addr} {sp : Spc} : OpOk K (rNeO C (lSp K 2 sp)) (wNeO C sp) := by
  rintro S F H ρ σ x y dx dy Φ Q e ix iy ⟨⟨ns, ds, ms, es, rfl, rfl⟩, hs⟩ hp
  have ixy : IsAll K S [x, y] [.obj C ns ds, .obj C ms es] := .cons ix (.cons iy .nil)
  cases ix with
  | obj h1 h2 h3 =>
    cases iy with
    | obj h4 h5 h6 =>
      refine ⟨_, _, _, _, _, _, rfl, rfl, e.ex _ _ h1, e.ex _ _ h4, S, others S H fun _ => False, none, _, _, _, rfl, er_args ixy e.ex fun a o h => ?_, hs, fun d v o' S' H' q _ s' iv er => ?_, fun C f d v dd S' H' q => q.elim⟩
      · obtain ⟨_, a1, a2⟩ := others_inv h
        exact ⟨a2, a1⟩
      · obtain ⟨t, rfl, q⟩ := q
        cases iv
        exact ⟨t, rfl, hp _ _ S' H' q s' (.bl _) (e.back s' er.ex (fun a o a1 a2 => others_of (fun z => z) a1 a2) er.fr)⟩
end DL
set_option Elab.async false
set_option autoImplicit false
set_option linter.all false
set_option maxRecDepth 100000
set_option maxHeartbeats 3900000
namespace DL
open L2 PyProof.Rows PySem PySem.Spec
/-! ### {k: v for ..}, the keys all unlike -/
theorem putK_new {k : Key} {v : V} {kvs : List (Key × V)} (h : k ∉ kvs.map (·.1)) : putK kvs k v = kvs ++ [(k, v)] := by
  refine if_neg fun q => ?_
  obtain ⟨p, hp, e⟩ := List.any_eq_true.1 q
  exact h (List.mem_map.2 ⟨p, hp, of_decide_eq_true e⟩)
def wDcL (g : WG) (wt : WT) (wk wv : WE) (vs : List Nat) : List D → List Key → List D → Rho → (List Key → List D → Rho → Prop) → Prop
  | [], ks, acc, ρ, Φ => Φ ks acc ρ
  | d :: ds, ks, acc, ρ, Φ => g d ρ fun ρ1 => wt ρ1 χ0 fun b ρ2 => if b = true then wk ρ2 χ0 fun y ρ3 => wv ρ3 χ0 fun z ρ4 => ∃ k, keyD y = some k ∧ k ∉ ks ∧ ks.length < sizeLine ∧ wDcL g wt wk wv vs ds (ks ++ [k]) (acc ++ [z]) (wipeR ρ4 vs) Φ
      else wDcL g wt wk wv vs ds ks acc (wipeR ρ2 vs) Φ
def wDc (wi : WL) (g : WG) (wt : WT) (wk wv : WE) (vs : List Nat) : WE := fun ρ χ Φ => wi ρ χ fun ds ρ1 => wDcL g wt wk wv vs ds [] [] (wipeR ρ1 vs) fun ks ys ρ2 => Φ (.dic ks ys) (backR ρ1 ρ2 vs)
theorem l_dc {K : Fg} {W : WX} {wi : WL} {g : WG} {wt : WT} {wk wv : WE} {vs : List Nat} : ∀ σ H Q, lE K W (wDc wi g wt wk wv vs) σ H Q → tDc (lI K W wi) (lGc K vs g) (lT K W0 wt) (lE K W0 wk) (lE K W0 wv) vs σ H Q := by
  rintro σ H Q ⟨ρ, S, F, χ, Φ, e, hw, hx, hp⟩
  refine ⟨ρ, S, F, χ, _, e, hw, hx, fun J ds ρ1 S1 H1 q1 s1 e1 wk0 => fun L hL => ?_⟩
  have fL := e1.fp hL
  refine ⟨fun i m H' => m = ds.length - i ∧ i ≤ ds.length ∧ ∃ ρ' S' kvs ks acc, Same S1 S' ∧ ER K S' (upd F L (.dK kvs)) H' ρ' (wipe σ vs) ∧ kvs.map (·.1) = ks ∧ IsAll K S' (kvs.map (·.2)) acc ∧ wDcL g wt wk wv vs (ds.drop i) ks acc ρ' (fun zs ys ρ2 => Φ (.dic zs ys) (backR ρ1 ρ2 vs)),
    ⟨_, rfl, Nat.zero_le _, wipeR ρ1 vs, S1, [], [], [], Same.refl S1, (e1.wipe vs).addF hL, rfl, .nil, q1⟩, ?_⟩
  rintro i m H' ⟨rfl, hi, ρ', S', kvs, ks, acc, s', e', hk, iu, q⟩
  subst hk
  by_cases hlt : i < ds.length
  · refine .inr ⟨wk0.go i H' hlt (s'.trans e'.ex), fun H2 => ∃ ρ2 S2 kvs2 acc2, Same S1 S2 ∧ ER K S2 (upd F L (.dK kvs2)) H2 ρ2 (wipe σ vs) ∧ IsAll K S2 (kvs2.map (·.2)) acc2 ∧ wDcL g wt wk wv vs (ds.drop (i + 1)) (kvs2.map (·.1)) acc2 ρ2 (fun zs ys ρ3 => Φ (.dic zs ys) (backR ρ1 ρ3 vs)),
      fun H2 ⟨ρ2, S2, kvs2, acc2, z1, z2, z3, z4⟩ => ⟨ds.length - (i + 1), by omega, rfl, hlt, ρ2, S2, kvs2, _, acc2, z1, z2, rfl, z3, z4⟩, fun x H2 y => ?_⟩
    obtain ⟨d, hd, y2⟩ := wk0.yld i H' x H2 hlt (s'.trans e'.ex) y
    obtain ⟨S2, s2, i2, e2⟩ := y2 S' _ ρ' _ s' e'
    have ed : ds.drop i = d :: ds.drop (i + 1) := by
      rw [(List.drop_eq_getElem_cons hlt)]
      rw [List.getElem?_eq_getElem hlt] at hd
      rw [Option.some.inj hd]
    rw [ed] at q
    refine ⟨ρ', S2, _, d, _, e2, i2, q, fun ρ3 S3 σ3 H3 q3 s3 e3 w3 => ⟨w3.trans wipe_wipe, ?_⟩⟩
    have w3' : wipe σ3 vs = wipe σ vs := w3.trans wipe_wipe
    refine ⟨ρ3, S3, _, χ0, _, e3, q3, XOk.none, fun b ρ4 S4 H4 q4 s4 e4 => ?_⟩
    cases b with
    | false =>
      rw [if_neg Bool.false_ne_true] at q4 ⊢
      have e5 := e4.wipe vs
      rw [w3'] at e5
      exact ⟨_, S4, kvs, acc, ((s'.trans s2).trans s3).trans s4, e5, iu.mono ((s2.trans s3).trans s4), q4⟩
    | true =>
      rw [if_pos rfl] at q4 ⊢
      refine ⟨ρ4, S4, _, χ0, _, e4, q4, XOk.none, fun v dv ρ5 S5 H5 q5 s5 i5 e5 => ?_⟩
      refine ⟨ρ5, S5, _, χ0, _, e5, q5, XOk.none, fun u du ρ6 S6 H6 q6 s6 i6 e6 => ?_⟩
      obtain ⟨k, hk, hn, hl, q6⟩ := q6
      obtain ⟨h6, _⟩ := e6.fr L _ upd_same
      have t6 := (((s2.trans s3).trans s4).trans s5).trans s6
      refine ⟨kvs, k, keyD_is i5 hk, h6, by rw [List.length_map] at hl; exact hl, ?_⟩
      rw [putK_new hn]
      have e7 := (e6.wipe vs).chF (o' := .dK (kvs ++ [(k, u)]))
      rw [w3'] at e7
      exact ⟨_, S6, kvs ++ [(k, u)], acc ++ [du], s'.trans t6, e7, by rw [List.map_append]; exact (iu.mono t6).append (.cons i6 .nil), by rw [List.map_append]; exact q6⟩
  · have ei : i = ds.length := by omega
    subst ei
    rw [List.drop_length] at q
    refine .inl ⟨wk0.stop H' (s'.trans e'.ex), ?_⟩
    obtain ⟨hL2, -⟩ := e'.fr L _ upd_same
    obtain ⟨e8, s8⟩ := e'.doneF fL
    exact hp _ _ _ _ H' q ((s1.trans s').trans s8) (.dic upd_same rfl (iu.mono s8)) (e1.restore (s'.trans s8) e8)
end DL
set_option Elab.async false
set_option autoImplicit false
set_option linter.all false
set_option maxRecDepth 100000
set_option maxHeartbeats 3900000
namespace DL
open L2 PyProof.Rows PySem PySem.Spec
open PySem.Builtin PySem.Builtin.Str
/-! ### x.replace(y, z, n), y and z written, within a list whose first item has written a text -/
def repN (x y z : PySem.Str) (n : Int) : PySem.Str :=
  if ((occurrences x y 0 x.length (limitOf x n)).isEmpty || (y.length == 0 && z.length == 0)) = true then x else glued z (partsBetween x (occurrences x y 0 x.length (limitOf x n)) y.length)
theorem gives_repN (x y z : PySem.Str) (n : Int) (t u v w : Tok) (hn : (decide (n < -(2 ^ 63 : Int)) || decide (n ≥ 2 ^ 63)) = false) (h0 : (u == 0 || v == 0) = false) (huv : (u == v) = false) (hyz : (y == z) = false)
    (hl : tooLong (x.length + (occurrences x y 0 x.length (limitOf x n)).length * z.length) = false) :
    Gives («str.replace» ⟨[.str x t, .str y u, .str z v, .int n w], []⟩) (if ((occurrences x y 0 x.length (limitOf x n)).isEmpty || (y.length == 0 && z.length == 0)) = true then .val (.str x t) else .str (glued z (partsBetween x (occurrences x y 0 x.length (limitOf x n)) y.length))) := by
  show Gives (do let limit ← countLimit "str.replace" (some (.int n w)) (x.length + 1); _) _
  rw [countLimit_int "str.replace" n w (x.length + 1) hn]
  show Gives (if ((occurrences x y 0 x.length (limitOf x n)).isEmpty || (y.length == 0 && z.length == 0)) = true then (do rule "str.replace.nothing"; ret (.str x t)) else
          (do let one ← isSame (.str y u) (.str z v); if one = true then (do rule "str.replace.old-is-new"; ret (.str x t)) else
              if tooLong (x.length + (occurrences x y 0 x.length (limitOf x n)).length * z.length) = true then unsupported "str.replace:memory" else
              retStr (glued z (partsBetween x (occurrences x y 0 x.length (limitOf x n)) y.length)))) _
  split
  · exact .rule (.of_eq rfl)
  · rw [hl, isSame_str_other y z u v h0 huv hyz]; exact .of_eq rfl
theorem gluedN_len (x y z : PySem.Str) (n : Int) : (glued z (partsBetween x (occurrences x y 0 x.length (limitOf x n)) y.length)).length ≤ x.length + (occurrences x y 0 x.length (limitOf x n)).length * z.length := by
  have h : (glued y (partsBetween x (occurrences x y 0 x.length (limitOf x n)) y.length)).length = x.length := congrArg PySem.Str.length (StrLaws.glued_between_self x y (limitOf x n))
  rw [PySem.size_glued, PySem.length_partsBetween] at h ⊢
  rw [Nat.add_sub_cancel] at h ⊢
  omega
theorem repN_len (x y z : PySem.Str) (n : Int) : (repN x y z n).length ≤ x.length + (occurrences x y 0 x.length (limitOf x n)).length * z.length := by
  unfold repN
  split
  · exact Nat.le_add_right _ _
  · exact gluedN_len x y z n
theorem mem_glFold (sep : PySem.Str) (c : Nat) : ∀ (ps : List PySem.Str) (acc : Array Nat), c ∈ ps.foldl (fun acc p => acc ++ sep.cps ++ p.cps) acc ↔ c ∈ acc ∨ (ps ≠ [] ∧ c ∈ sep.cps) ∨ ∃ p ∈ ps, c ∈ p.cps
  | [], acc => by simp
  | p :: ps, acc => by
    rw [List.foldl_cons, mem_glFold sep c ps]
    simp only [Array.mem_append, List.mem_cons]
    constructor
    · rintro (((h | h) | h) | ⟨_, h⟩ | ⟨q, h1, h2⟩)
      · exact .inl h
      · exact .inr (.inl ⟨by simp, h⟩)
      · exact .inr (.inr ⟨p, .inl rfl, h⟩)
      · exact .inr (.inl ⟨by simp, h⟩)
      · exact .inr (.inr ⟨q, .inr h1, h2⟩)
    · rintro (h | ⟨_, h⟩ | ⟨q, rfl | h1, h2⟩)
      · exact .inl (.inl (.inl h))
      · exact .inl (.inl (.inr h))
      · exact .inl (.inr h2)
      · exact .inr (.inr ⟨q, h1, h2⟩)
theorem repN_mem {x y z : PySem.Str} {n : Int} {c : Nat} (h : c ∈ (repN x y z n).cps) : c ∈ x.cps ∨ c ∈ z.cps := by
  unfold repN at h
  split at h
  · exact .inl h
  · have hx := StrLaws.glued_between_self x y (limitOf x n)
    cases hp : partsBetween x (occurrences x y 0 x.length (limitOf x n)) y.length with
    | nil =>
      rw [hp] at h
      cases (show c ∈ (#[] : Array Nat) from h)
      all_goals simp_all
    | cons p ps =>
      rw [hp] at h hx
      have h' : c ∈ ps.foldl (fun acc p => acc ++ z.cps ++ p.cps) p.cps := h
      have hx' : x.cps = ps.foldl (fun acc p => acc ++ y.cps ++ p.cps) p.cps := (congrArg PySem.Str.cps hx).symm
      rw [hx']
      rcases (mem_glFold z c ps p.cps).mp h' with h | ⟨_, h⟩ | h
      · exact .inl ((mem_glFold y c ps p.cps).mpr (.inl h))
      · exact .inr h
      · exact .inl ((mem_glFold y c ps p.cps).mpr (.inr (.inr h)))
/-- an expression behind which a token is out -/
def PE1 (X : Cx) (e : Expr) (t : TE) : Prop := ∀ (pins : List (Addr × Obj)) (s : Shared) (σ : L2.St) (H : Hp) (Q : VK), Inv X pins σ H s → t σ H Q → wpAny (model X.prog X.w) X.A (eval e X.env) (fun v s1 => 1 ≤ s1.toks ∧ EP X pins σ Q v s1) X.xe s
section
variable {X : Cx} {a b e o : Expr} {es : List Expr} {ta tb te to : TE} {tl : TA} {op : Operator} {r : R2} {pos cpos apos c1 c2 c3 : Pos} {c y z : PySem.Str} {j j1 j2 j3 : Nat} {n : Int}
theorem petOf (h : PE X e te) : PET X e te := fun _ _ _ _ _ _ I q => h.run _ _ _ _ _ I q
theorem pe1_bin (ho : OpR X (binaryOp op) r) (ha : PE X a ta) : PE1 X (.BinOp a op (.Constant (.str c) j cpos) pos) (tOp r ta (tC (.str c))) := by
  intro pins s σ H Q I h
  refine wpAny_BinOp (thn (ha.run pins s σ H _ I h) fun v s1 ⟨x, H1, I1, r1, q1⟩ => Calls.Constant_str ?_)
  refine wpAny_mono (wpAny_toks_of (n := 1) (Nat.succ_le_succ (Nat.zero_le _)) (ho pins _ σ H1 x (.str c) v _ Q (I1.tok (s1.toks + 1)) r1 ⟨_, rfl⟩ q1)) (fun _ _ q => q) fun _ _ q => q.2
theorem pa_cons1 (ha : PE1 X e te) (hr : PAT X es tl) (hs : starEach (e :: es) X.env = (false, eval e X.env) :: starEach es X.env := by rfl) : PA X (e :: es) (tCons te tl) := by
  constructor; intro pos pins s σ H Q I h
  rw [hs]
  exact Calls.spliced_cons (thn (ha pins s σ H _ I h) fun v s1 ⟨h1, x, H1, I1, r1, q1⟩ => thn (hr pos pins s1 σ H1 _ h1 I1 q1) fun us s2 ⟨xs, H2, I2, r2, q2⟩ => ⟨x :: xs, H2, I2, .cons r1 r2, q2⟩)
theorem pet_op (ho : OpR X (binaryOp op) r) (ha : PET X a ta) (hb : PE X b tb) : PET X (.BinOp a op b pos) (tOp r ta tb) := fun pins s σ H Q h0 I h =>
  wpAny_BinOp (thn (ha pins s σ H _ h0 I h) fun v s1 ⟨x, H1, I1, r1, q1⟩ => thn (hb.run pins s1 σ H1 _ I1 q1) fun u s2 ⟨w, H2, I2, r2, q2⟩ => ho pins s2 σ H2 x w v u Q I2 r1 r2 q2)
def tRepN (y z : PySem.Str) (n : Int) (to : TE) : TE := fun σ H Q => to σ H fun x H1 => ∃ s, x = .str s ∧ s.length + (occurrences s y 0 s.length (limitOf s n)).length * z.length ≤ 16777216 ∧ Q (.str (repN s y z n)) H1
theorem pet_repN (ho : PE X o to) (hn : (decide (n < -(2 ^ 63 : Int)) || decide (n ≥ 2 ^ 63)) = false) (hyz : (y == z) = false) (hbase : attributeBase o "replace" X.env (eval o X.env) = eval o X.env := by rfl)
    (hfew : ((backTo cpos (starEach [.Constant (.str y) j1 c1, .Constant (.str z) j2 c2, .Constant (.int n) j3 c3] X.env)).all (fun x => !x.1) && (backToKw cpos (keywordEach [] X.env)).all (fun x => x.1.isSome)
      && decide ([.Constant (.str y) j1 c1, .Constant (.str z) j2 c2, Expr.Constant (.int n) j3 c3].length + ([] : List Keyword).length + (if ([] : List Keyword).isEmpty then 0 else 1) < 30)) = true := by rfl)
    (hline : (apos.endLine == cpos.line) = true := by rfl) :
    PET X (.Call (.Attribute o "replace" apos) [.Constant (.str y) j1 c1, .Constant (.str z) j2 c2, .Constant (.int n) j3 c3] [] cpos) (tRepN y z n to) := by
  intro pins s σ H Q h0 I h
  refine wpAny_Call_method_late hbase hfew hline rfl (wpAny_mono (wpAny_toks_of h0 (ho.run pins s σ H _ I h)) (fun v s1 ⟨h1, x, H1, I1, r1, a, ex, hz, q⟩ => ?_) fun _ _ q => q.2)
  subst ex
  obtain ⟨t, rfl⟩ := (show ∃ t, v = Value.str a t from r1)
  refine ⟨"str", _, F.plainAttrs_str, F.slot_str_replace, F.type_str_replace, typeIs_str _ _ _, (fun _ e => nomatch e), Calls.callWith_builtin rfl (Calls.evalArgs_plain ?_)⟩
  show wpAny _ _ (spliced [(false, eval (.Constant (.str y) j1 c1) X.env), (false, eval (.Constant (.str z) j2 c2) X.env), (false, eval (.Constant (.int n) j3 c3) X.env)]) _ _ _
  refine Calls.spliced_cons (Calls.Constant_str (Calls.spliced_cons (Calls.Constant_str (Calls.spliced_cons (wpAny_Constant_int (Calls.spliced_nil ?_))))))
  refine call_gives F.slot_str_replace (typeIs_str _ _ _) F.entry_str_replace (F.args_str_replace_4 _ _ _ _) (gives_repN a y z n t s1.toks (s1.toks + 1) _ hn (by have hu : s1.toks ≠ 0 := Nat.ne_of_gt h1; simp [hu]) (by simp) hyz (by unfold tooLong; refine decide_eq_false ?_; show ¬ (_ > sizeLine); rw [sizeLine_eq]; omega)) ?_
  unfold repN at q
  split
  · rename_i e
    rw [if_pos e] at q
    exact ⟨.str a, H1, I1.tok _, ⟨t, rfl⟩, q⟩
  · rename_i e
    rw [if_neg e] at q
    refine ⟨?_, .str (glued z (partsBetween a (occurrences a y 0 a.length (limitOf a n)) y.length)), H1, I1.tok _, ⟨_, rfl⟩, q⟩
    have hl := gluedN_len a y z n
    rw [sizeLine_eq]
    omega
end
def wRepN (y z : PySem.Str) (n : Int) (wa : WE) : WE := fun ρ χ Φ => wa ρ χ fun x ρ1 => match x with
  | .str s => s.length + (occurrences s y 0 s.length (limitOf s n)).length * z.length ≤ 16777216 ∧ Φ (.str (repN s y z n)) ρ1
  | _ => False
theorem l_repN {K : Fg} {W : WX} {y z : PySem.Str} {n : Int} {wa : WE} : ∀ σ H Q, lE K W (wRepN y z n wa) σ H Q → tRepN y z n (lE K W wa) σ H Q := by
  rintro σ H Q ⟨ρ, S, F, χ, Φ, e, hw, hx, hp⟩
  refine ⟨ρ, S, F, χ, _, e, hw, hx, fun v d ρ' S' H' q s' iv e' => ?_⟩
  cases iv with
  | str s => exact ⟨s, rfl, q.1, hp _ _ ρ' S' H' q.2 s' (.str _) e'⟩
  | _ => exact q.elim
end DL
set_option Elab.async false
set_option autoImplicit false
set_option linter.all false
set_option maxRecDepth 100000
set_option maxHeartbeats 3900000
namespace DL
open L2 PyProof.Rows PySem PySem.Spec
/-! ### the law is called from above all: no text is being made there -/
/-- what is told of the heap: the script, unless the program's own part tells it already -/
theorem told {P : Program} {w : World} {K : Fg} {s : Shared} {a : Addr} {vs : List Value} {ns : List Int} (KX : K.In s.heap) (ha : s.heap.get? a = some { cls := .type "list", data := .seq vs.toArray }) (hi : IntsAre vs ns) (hl : ns.length ≤ sizeLine) :
    ∃ H : Hp, Only H ∧ SqL K H a (ns.map V.int) ∧ HOk P w H s.heap ∧ ∀ b u, H b = some u → b = a ∧ K.lookup a = none := by
  have rv := vals_ints hi
  cases hk : K.lookup a with
  | some o =>
    cases ha.symm.trans (KX a o hk)
    exact ⟨fun _ => none, fun _ => .inl rfl, .inr ⟨_, vs.toArray, _, hk, rfl, rfl, rfl, by rw [List.size_toArray, hi.length]; exact hl, by simpa using rv⟩, (fun _ _ z => by cases z), fun _ _ z => by cases z⟩
  | none =>
    have one : ∀ {b : Addr} {u : HO}, (if b = a then some (HO.frz { cls := .type "list", data := .seq vs.toArray } (.lst (ns.map V.int))) else none) = some u → b = a ∧ u = .frz { cls := .type "list", data := .seq vs.toArray } (.lst (ns.map V.int)) := fun {b u} z => by
      by_cases hb : b = a
      · rw [if_pos hb] at z; exact ⟨hb, (Option.some.inj z).symm⟩
      · rw [if_neg hb] at z; cases z
    refine ⟨fun b => if b = a then some (.frz { cls := .type "list", data := .seq vs.toArray } (.lst (ns.map V.int))) else none, fun b => ?_, .inl (.inr ⟨_, if_pos rfl⟩), fun b u z => ?_, fun b u z => ⟨(one z).1, rfl⟩⟩
    · exact (Classical.em (b = a)).elim (fun hb => .inr ⟨_, _, if_pos hb⟩) fun hb => .inl (if_neg hb)
    · obtain ⟨rfl, rfl⟩ := one z
      exact ⟨ha, (by rw [List.length_map]; exact hl), vs, _, rv, ha⟩
theorem law_g {P : Program} {w : World} {K : Fg} {mg mb : Str → Option Value} {k : Nat} {fa a : Addr} {fd : FuncData} {x : Str} {sp : Sp} {s : Shared} {vs : List Value} {ns : List Int}
    (KX : K.In s.heap) (hns : s.heap.Ns mainGlobals mg) (hb : s.heap.Ns builtinsNs mb) (hbb : ∀ x : Str, x ≠ "__name__" → mb x = bootBuiltins x) (hlim : s.heap.NoLimit) (hg : s.gens = #[])
    (ha : s.heap.get? a = some { cls := .type "list", data := .seq vs.toArray }) (hi : IntsAre vs ns) (hl : ns.length ≤ sizeLine) (hr : Room k callerA)
    (F : ∀ base : Heap, K.In base → base.Ns mainGlobals mg → FnG P w K mg base k fa fd [x] sp) (hbind : ∀ (s : Shared) (u : Value), BindsTo s fd ⟨[u], []⟩ [(x, u)])
    (hsp : ∀ H : Hp, Only H → SqL K H a (ns.map V.int) → sp [.ref a] H (fun v _ => v = .bl true) fun _ _ _ => False) :
    codeAny (model P w) callerA (.call (.ref fa) ⟨[.ref a], []⟩) (fun r s' => r = .ok (.ret (.bool true)) ∧ OldK s.heap s'.heap ∧ s'.os = s.os ∧ AllBare s'.gens) s := by
  obtain ⟨H, hO, hS, hok, hA⟩ := told (P := P) (w := w) KX ha hi hl
  have free : ∀ {b : Addr}, (b = a → False) ∨ K.lookup b ≠ none → H b = none := fun {b} z => by
    cases q : H b with
    | none => rfl
    | some u =>
      obtain ⟨rfl, h2⟩ := hA b u q
      exact z.elim (fun z => (z rfl).elim) fun z => absurd h2 z
  have hid : ∀ {b : Addr} {m : Str → Option Value}, s.heap.Ns b m → (hidT s.heap H).Ns b m := fun {b m} ⟨o, es, ep, e, d, r⟩ => by
    refine ⟨o, es, ep, hidT_get e (free (.inl fun z => ?_)), d, r⟩
    rw [z, ha] at e
    rw [← Option.some.inj e] at d
    cases d
  have hK : K.In (hidT s.heap H) := fun b o e => hidT_get (KX b o e) (free (.inr (by rw [e]; simp)))
  obtain ⟨mc, l1, l2⟩ := hlim
  have e0 : Env0 P w K mg (hidT s.heap H) callerA [] s H :=
    ⟨rfl, ⟨hK, hid hns, ⟨mb, hid hb, hbb⟩, ⟨mc, hid l1, l2⟩⟩, fun _ _ e => of_hidT e, Nat.le_of_eq (hidT_size _ _), trivial, (fun b hb => (List.not_mem_nil (a := b) hb).elim), hok, .of_eq hg⟩
  refine codeAny_mono ((F _ hK (hid hns)).run callerA [] s H ⟨[.ref a], []⟩ [.ref a] [.ref a] _ _ hr rfl e0 (hbind s (.ref a)) (.cons rfl .nil) (hsp H hO hS)) fun r s' h => ?_
  match r, h with
  | .error e, h => obtain ⟨_, _, _, _, _, _, _, _, _, _, _, _, z⟩ := h; exact z.elim
  | .ok .next, h => exact h.elim
  | .ok .brk, h => exact h.elim
  | .ok .cont, h => exact h.elim
  | .ok (.ret u), h =>
    obtain ⟨v, _, os, bare, un, hok', r', q⟩ := h; cases (show v = .bl true from q)
    cases (show u = Value.bool true from r')
    refine ⟨rfl, .of_keep fun b o e => ?_, os, bare⟩
    obtain z | ⟨ob, xs, z⟩ := hO b
    · exact un.keep b o e z (List.not_mem_nil) (by simp)
    · obtain ⟨e1, -⟩ := hok b _ z
      obtain ⟨e2, -⟩ := hok' b _ (un.frzs b ob _ z)
      rw [← Option.some.inj (e.symm.trans e1)] at e2
      exact e2
/-- what a law's def means for data: its script, then True -/
abbrev spLaw (P : List Int → Prop) : Spc := fun h ds Ψ _ => h = none ∧ ∃ ns, ds = [.scr ns] ∧ P ns ∧ Ψ (.bl true) none
theorem walk_g {l : PySem.W.OpenLaw} {n k : Nat} {q : Program} {loose : List Str} {XP : (Str → Option Value) → Heap → Prop} {YP : World → Heap → Prop} {d : DefRec} {K : Params → Fg} {x : Str}
    (hn : l.most = some n) (hn2 : n ≤ sizeLine) (hdf : d.params.defaults = []) (hY : ∀ (w : World) (h : Heap), YP w h → (K w.params).In h) (hr : Room k callerA)
    (F : ∀ (w : World) (mg : Str → Option Value) (fa : Addr) (h : Heap), (K w.params).In h → h.Ns mainGlobals mg → mg d.name = some (.ref fa) → ∃ fd : FuncData,
      (∀ (s : Shared) (u : Value), BindsTo s fd ⟨[u], []⟩ [(x, u)]) ∧
        ∀ base : Heap, (K w.params).In base → base.Ns mainGlobals mg → FnG l.prog w (K w.params) mg base k fa fd [x] (lSp (K w.params) 1 (spLaw fun ns => ns.length ≤ n))) :
    PySem.W.WalkO q loose XP YP l.row.toRowW d [] fun g us => PySem.call g us := by
  refine Att.attach_call hn hdf fun w s₀ s mg mb fa o pm cd doc a vs ns G Y ho hd hcd hmg hobj hints hlen hg => ?_
  obtain ⟨fd, hb, hF⟩ := F w mg fa _ (hY w _ Y) G.T.g hmg
  refine law_g (hY w _ Y) G.T.g G.T.b G.T.builtins G.T.nolimit hg hobj hints (Nat.le_trans hlen hn2) hr hF hb fun H hO hS => ?_
  refine ⟨H, fun _ => none, none, [.scr ns], fun d _ => d = .bl true, fun _ _ _ => False, rfl, er_args (.cons (.scr hS) .nil) (Same.refl H) (fun _ _ z => nomatch z), ⟨rfl, ns, rfl, hlen, rfl⟩, fun d v o' S' H' q _ _ iv _ => ?_, fun _ _ _ _ _ _ _ z => z.elim⟩
  subst q; cases iv; rfl
end DL
set_option Elab.async false
set_option autoImplicit false
set_option linter.all false
set_option maxRecDepth 100000
set_option maxHeartbeats 3900000
namespace DL
open L2 PyProof.Rows PySem PySem.Spec
/-! ### the rules, each with what it means for data -/
abbrev PEd (X : Cx) (W : WX) (e : Expr) (w : WE) : Prop := PE X e (lE X.K W w)
abbrev PTd (X : Cx) (W : WX) (e : Expr) (w : WT) : Prop := PT X e (lT X.K W w)
abbrev PAd (X : Cx) (W : WX) (es : List Expr) (w : WL) : Prop := PA X es (lL X.K W w)
abbrev PSd (X : Cx) (W : WX) (s : Stmt) (w : WS) : Prop := PS X s (lS X.K W w)
abbrev PSsd (X : Cx) (W : WX) (s : List Stmt) (w : WS) : Prop := PSs X s (lS X.K W w)
abbrev PId (X : Cx) (W : WX) (tg e : Expr) (w : WL) : Prop := PI X tg e (lI X.K W w)
abbrev PGd (X : Cx) (e : Expr) (g : WG) : Prop := PG X e (lG X.K g)
abbrev PEO (X : Cx) (W : WX) (e : Expr) (w : WEO) : Prop := PE X e (lEO X.K W w)
section
variable {X : Cx} {W : WX} {k : Nat} {x : Str} {a b c d e : Expr} {es rest : List Expr} {p pos pos' cpos apos tpos : Pos} {wa wb wc wk wv : WE} {wt wu : WT} {wl : WL} {w u : WS} {j j' : Nat} {wo : WEO}
theorem e_var {i : Nat} (hN : X.N[i]? = some x := by rfl) (hv : Vis X.env.scope x := by first | exact .inl rfl | exact .inr (.inl rfl) | exact .inr (.inr rfl)) (hd : (x == ("__debug__" : Str)) = false := by decide) (hc : (x == ("__classdict__" : Str)) = false := by decide) :
    PEd X W (.Name x pos) (wVar i) := PE.imp (pe_var hN hv hd hc) l_var
theorem e_int {i : Int} : PEd X W (.Constant (.int i) j pos) (wC (.int i)) := PE.imp pe_int (l_c fun _ => .int i)
theorem e_str {s : Str} : PEd X W (.Constant (.str s) j pos) (wC (.str s)) := PE.imp pe_str (l_c fun _ => .str s)
theorem e_bl {b : Bool} : PEd X W (.Constant (.bool b) j pos) (wC (.bl b)) := PE.imp pe_bl (l_c fun _ => .bl b)
theorem e_non : PEd X W (.Constant .none j pos) (wC .non) := PE.imp pe_non (l_c fun _ => .non)
theorem e_globI {i : Int} {t : Tok} (hm : X.mg x = some (.int i t)) (hg : Gl X x := by rfl) (hd : (x == ("__debug__" : Str)) = false := by decide) : PEd X W (.Name x pos) (wC (.int i)) := PE.imp (pe_glob (v := .int i) hg hm ⟨t, rfl⟩ hd) (l_c fun _ => .int i)
theorem e_cls {C : Addr} (hm : X.mg x = some (.ref C)) (hg : Gl X x := by rfl) (hd : (x == ("__debug__" : Str)) = false := by decide) : PEd X W (.Name x pos) (wC (.raw (.ref C))) := PE.imp (pe_glob (v := .ref C) hg hm rfl hd) (l_c fun _ => .raw _)
theorem e_ty {n : String} (hm : X.mg x = none) (hv : bootBuiltins x = some (.type n)) (hg : Gl X x := by rfl) (hn : x ≠ "__name__" := by decide) (hd : (x == ("__debug__" : Str)) = false := by decide) : PEd X W (.Name x pos) (wC (.raw (.ty n))) :=
  PE.imp (t := tC (.ty n)) ⟨fun pins s σ H Q I h => ld_blt I hg hm hv ⟨.ty n, H, I, rfl, h⟩ hn hd⟩ (l_c fun _ => .raw _)
theorem a_nil : PAd X W [] wNil := PA.imp pa_nil l_nil
theorem a_cons (h : PEd X W e wa) (r : PAd X W es wl) (hs : starEach (e :: es) X.env = (false, eval e X.env) :: starEach es X.env := by rfl) : PAd X W (e :: es) (wCons wa wl) := PA.imp (pa_cons h r hs) l_cons
theorem e_tup {kk : Nat} (h : PAd X W es wl) : PEd X W (.Tuple es kk pos) (wTup wl) := PE.imp (pe_tup h) l_tup
theorem e_lst (h : PAd X W es wl) : PEd X W (.List es pos) (wLst wl) := PE.imp (pe_lst h) l_lst
/-! operators -/
theorem e_add (ha : PEd X W a wa) (hb : PEd X W b wb) : PEd X W (.BinOp a .Add b pos) (wOp wAdd wa wb) := PE.imp (pe_op or_add ha hb) (l_op ok_add)
theorem e_sub (ha : PEd X W a wa) (hb : PEd X W b wb) : PEd X W (.BinOp a .Sub b pos) (wOp wSub wa wb) := PE.imp (pe_op op_sub ha hb) (l_op ok_sub)
theorem e_mul (ha : PEd X W a wa) (hb : PEd X W b wb) : PEd X W (.BinOp a .Mult b pos) (wOp wMul wa wb) := PE.imp (pe_op or_mul ha hb) (l_op ok_mul)
theorem e_mod (ha : PEd X W a wa) (hb : PEd X W b wb) : PEd X W (.BinOp a .Mod b pos) (wOp wMod wa wb) := PE.imp (pe_op op_mod ha hb) (l_op ok_mod)
theorem e_div (ha : PEd X W a wa) (hb : PEd X W b wb) : PEd X W (.BinOp a .FloorDiv b pos) (wOp wDiv wa wb) := PE.imp (pe_op op_fdiv ha hb) (l_op ok_div)
theorem e_pow (ha : PEd X W a wa) (hb : PEd X W b wb) : PEd X W (.BinOp a .Pow b pos) (wOp wPow wa wb) := PE.imp (pe_op op_pow ha hb) (l_op ok_pow)
theorem e_ix (ha : PEd X W a wa) (hb : PEd X W b wb) (hs : PlainIx b := by intro _ _; rfl) : PEd X W (.Subscript a b pos) (wOp wIx wa wb) := PE.imp (pe_ix ix_seq ha hb hs) (l_op ok_ix)
abbrev wLt := wCmp fun i j => decide (i < j)
abbrev wLe := wCmp fun i j => decide (i ≤ j)
abbrev wGt := wCmp fun i j => decide (j < i)
abbrev wGe := wCmp fun i j => decide (j ≤ i)
theorem e_lt (ha : PEd X W a wa) (hb : PEd X W b wb) : PEd X W (.Compare a [.Lt] [b] pos) (wOp wLt wa wb) := PE.imp (pe_cmpR op_lt ha hb (nomark _)) (l_op ok_B0)
theorem e_le (ha : PEd X W a wa) (hb : PEd X W b wb) : PEd X W (.Compare a [.LtE] [b] pos) (wOp wLe wa wb) := PE.imp (pe_cmpR op_le ha hb (nomark _)) (l_op ok_B0)
theorem e_gt (ha : PEd X W a wa) (hb : PEd X W b wb) : PEd X W (.Compare a [.Gt] [b] pos) (wOp wGt wa wb) := PE.imp (pe_cmpR op_gt ha hb (nomark _)) (l_op ok_B0)
theorem e_ge (ha : PEd X W a wa) (hb : PEd X W b wb) : PEd X W (.Compare a [.GtE] [b] pos) (wOp wGe wa wb) := PE.imp (pe_cmpR op_ge ha hb (nomark _)) (l_op ok_B0)
theorem Cok.u64 (o : Cok X W (k + 1)) : X.A.units + 64 < cLine := by have := o.rm.un; omega
theorem Cok.u1 (o : Cok X W k) : X.A.units + 1 < cLine := o.hu
theorem Cok.u64' (o : Cok X W k) : X.A.units + 64 < cLine := by have := o.rm.un; omega
theorem e_eq (o : Cok X W k) (ha : PEd X W a wa) (hb : PEd X W b wb) : PEd X W (.Compare a [.Eq] [b] pos) (wOp (wEq false) wa wb) := PE.imp (pe_cmpR (op_eqD o.u64') ha hb (nomark _)) (l_op ok_eq)
theorem e_ne (o : Cok X W k) (ha : PEd X W a wa) (hb : PEd X W b wb) : PEd X W (.Compare a [.NotEq] [b] pos) (wOp (wEq true) wa wb) := PE.imp (pe_cmpR (op_neD o.u64') ha hb (nomark _)) (l_op ok_ne)
theorem e_isN (ha : PEd X W a wa) (hb : PEd X W b wb) : PEd X W (.Compare a [.Is] [b] pos) (wOp (wIsN false) wa wb) := PE.imp (pe_cmpR op_isN ha hb (nomark _)) (l_op ok_isN)
theorem e_notN (ha : PEd X W a wa) (hb : PEd X W b wb) : PEd X W (.Compare a [.IsNot] [b] pos) (wOp (wIsN true) wa wb) := PE.imp (pe_cmpR op_notN ha hb (nomark _)) (l_op ok_notN)
theorem e_leLt (ha : PEd X W a wa) (hb : PEd X W b wb) (hc : PEd X W c wc) (hm : lastMarks [.LtE, .Lt] [b, c] = false := by with_unfolding_all rfl) : PEd X W (.Compare a [.LtE, .Lt] [b, c] pos) (wChain wLe wLt wa wb wc) := PE.imp (pe_chain op_le op_lt ha hb hc hm) (l_chain ok_B0 ok_B0)
theorem e_leLe (ha : PEd X W a wa) (hb : PEd X W b wb) (hc : PEd X W c wc) (hm : lastMarks [.LtE, .LtE] [b, c] = false := by with_unfolding_all rfl) : PEd X W (.Compare a [.LtE, .LtE] [b, c] pos) (wChain wLe wLe wa wb wc) := PE.imp (pe_chain op_le op_le ha hb hc hm) (l_chain ok_B0 ok_B0)
theorem e_and1 (h : PEd X W a wa) : PEd X W (.BoolOp .And [a] pos) wa := pe_one h
theorem e_or1 (h : PEd X W a wa) : PEd X W (.BoolOp .Or [a] pos) wa := pe_one h
theorem e_and (ha : PEd X W a wa) (hb : PEd X W (.BoolOp .And (b :: rest) pos) wb) : PEd X W (.BoolOp .And (a :: b :: rest) pos) (wAndV wa wb) := PE.imp (pe_and ha hb) l_andV
theorem e_or (ha : PEd X W a wa) (hb : PEd X W (.BoolOp .Or (b :: rest) pos) wb) : PEd X W (.BoolOp .Or (a :: b :: rest) pos) (wOrV wa wb) := PE.imp (pe_or ha hb) l_orV
theorem e_not (ha : PEd X W a wa) : PEd X W (.UnaryOp .Not a pos) (wNotV wa) := PE.imp (pe_not ha) l_notV
theorem e_if (ht : PTd X W c wt) (ha : PEd X W a wa) (hb : PEd X W b wb) : PEd X W (.IfExp c a b pos) (wIf wt wa wb) := PE.imp (pe_ifExp ht ha hb) l_if
/-! tests -/
theorem t_of {t : TE} (h : PT X e (tTest t)) (m : ∀ σ H Q, lE X.K W wa σ H Q → t σ H Q) : PTd X W e (wB wa) := PT.imp h fun σ H Q z => m σ H _ (l_test σ H Q z)
theorem t_val (h : PEd X W e wa) (he : ∀ whole, isTrue e X.env whole = (do let v ← whole; standAt e.pos; holding [v] (truthy v)) := by intro _; rfl) : PTd X W e (wB wa) := PT.imp (pt_val h he) l_B
theorem t_lt (ha : PEd X W a wa) (hb : PEd X W b wb) : PTd X W (.Compare a [.Lt] [b] pos) (wB (wOp wLt wa wb)) := t_of (pt_cmpR op_lt ha hb (nomark _)) (l_op ok_B0)
theorem t_le (ha : PEd X W a wa) (hb : PEd X W b wb) : PTd X W (.Compare a [.LtE] [b] pos) (wB (wOp wLe wa wb)) := t_of (pt_cmpR op_le ha hb (nomark _)) (l_op ok_B0)
theorem t_gt (ha : PEd X W a wa) (hb : PEd X W b wb) : PTd X W (.Compare a [.Gt] [b] pos) (wB (wOp wGt wa wb)) := t_of (pt_cmpR op_gt ha hb (nomark _)) (l_op ok_B0)
theorem t_ge (ha : PEd X W a wa) (hb : PEd X W b wb) : PTd X W (.Compare a [.GtE] [b] pos) (wB (wOp wGe wa wb)) := t_of (pt_cmpR op_ge ha hb (nomark _)) (l_op ok_B0)
theorem t_eq (o : Cok X W k) (ha : PEd X W a wa) (hb : PEd X W b wb) : PTd X W (.Compare a [.Eq] [b] pos) (wB (wOp (wEq false) wa wb)) := t_of (pt_cmpR (op_eqD o.u64') ha hb (nomark _)) (l_op ok_eq)
theorem t_ne (o : Cok X W k) (ha : PEd X W a wa) (hb : PEd X W b wb) : PTd X W (.Compare a [.NotEq] [b] pos) (wB (wOp (wEq true) wa wb)) := t_of (pt_cmpR (op_neD o.u64') ha hb (nomark _)) (l_op ok_ne)
theorem t_isN (ha : PEd X W a wa) (hb : PEd X W b wb) : PTd X W (.Compare a [.Is] [b] pos) (wB (wOp (wIsN false) wa wb)) := t_of (pt_cmpR op_isN ha hb (nomark _)) (l_op ok_isN)
theorem t_notN (ha : PEd X W a wa) (hb : PEd X W b wb) : PTd X W (.Compare a [.IsNot] [b] pos) (wB (wOp (wIsN true) wa wb)) := t_of (pt_cmpR op_notN ha hb (nomark _)) (l_op ok_notN)
theorem t_leLe (ha : PEd X W a wa) (hb : PEd X W b wb) (hc : PEd X W c wc) (hm : lastMarks [.LtE, .LtE] [b, c] = false := by with_unfolding_all rfl) : PTd X W (.Compare a [.LtE, .LtE] [b, c] pos) (wB (wChain wLe wLe wa wb wc)) := t_of (pt_chain op_le op_le ha hb hc hm) (l_chain ok_B0 ok_B0)
theorem t_not (h : PTd X W a wt) : PTd X W (.UnaryOp .Not a pos) (wNot wt) := PT.imp (pt_not h) l_not
abbrev PWd (X : Cx) (W : WX) (e : Expr) (w : WT) : Prop := PW X e (lT X.K W w)
theorem q_and1 (h : PTd X W a wt) : PWd X W (.BoolOp .And [a] pos) wt := pw_and1 h
theorem q_or1 (h : PTd X W a wt) : PWd X W (.BoolOp .Or [a] pos) wt := pw_or1 h
theorem q_and (h : PTd X W a wt) (r : PWd X W (.BoolOp .And (b :: rest) pos) wu) : PWd X W (.BoolOp .And (a :: b :: rest) pos) (wAnd wt wu) := PW.imp (pw_and h r) l_and
theorem q_or (h : PTd X W a wt) (r : PWd X W (.BoolOp .Or (b :: rest) pos) wu) : PWd X W (.BoolOp .Or (a :: b :: rest) pos) (wOr wt wu) := PW.imp (pw_or h r) l_or
theorem t_pw (h : PWd X W a wt) : PTd X W a wt := PW.pt h
theorem t_din (o : Cok X W k) (ha : PEd X W a wa) (hb : PEd X W b wb) (h1 : behindInMarks .In b = false := by first | exact nobehind _ (by decide) (by decide) | rfl) : PTd X W (.Compare a [.In] [b] pos) (wB (wDIn false wa wb)) := PT.imp (pt_cmp (pc_din o.u1 (PE.imp ha fun _ _ _ z => z) hb) h1) fun σ H Q z => l_din σ H _ (l_B σ H Q z)
theorem t_dnin (o : Cok X W k) (ha : PEd X W a wa) (hb : PEd X W b wb) (h1 : behindInMarks .NotIn b = false := by first | exact nobehind _ (by decide) (by decide) | rfl) : PTd X W (.Compare a [.NotIn] [b] pos) (wB (wDIn true wa wb)) := PT.imp (pt_cmp (pc_dnotin o.u1 ha hb) h1) fun σ H Q z => l_dnin σ H _ (l_B σ H Q z)
/-! built-ins -/
theorem e_len (hm : X.mg "len" = none) (ha : PAd X W (e :: es) wl) (hg : Gl X "len" := by rfl) (he : starEach (e :: es) X.env = (false, eval e X.env) :: starEach es X.env := by rfl) (hpl : (backTo pos (starEach es X.env)).any (·.1) = false := by rfl) : PEd X W (.Call (.Name "len" p) (e :: es) [] pos) (wCB wLen wl) := PE.imp (pe_callB cr_lenD hg hm PySem.boot_len ha (by decide) (by decide) he hpl) (l_cb ok_len)
theorem e_lenO {i : Nat} (hm : X.mg "len" = none) (hN : X.N[i]? = some x := by rfl) (hv : Vis X.env.scope x := by first | exact .inl rfl | exact .inr (.inl rfl) | exact .inr (.inr rfl)) (hg : Gl X "len" := by rfl) (hd : (x == ("__debug__" : Str)) = false := by decide) (hc : (x == ("__classdict__" : Str)) = false := by decide)
    (he : starEach [.Name x pos'] X.env = [(false, eval (.Name x pos') X.env)] := by rfl) : PEd X W (.Call (.Name "len" p) [.Name x pos'] [] pos) (wLenO i) := PE.imp (pe_callB cr_lenD hg hm PySem.boot_len (pa_cons (pe_var hN hv hd hc) pa_nil he) (by decide) (by decide) he rfl) l_lenO
theorem e_abs (hm : X.mg "abs" = none) (ha : PAd X W (e :: es) wl) (hg : Gl X "abs" := by rfl) (he : starEach (e :: es) X.env = (false, eval e X.env) :: starEach es X.env := by rfl) (hpl : (backTo pos (starEach es X.env)).any (·.1) = false := by rfl) : PEd X W (.Call (.Name "abs" p) (e :: es) [] pos) (wCB wAbs wl) := PE.imp (pe_callB call_abs hg hm PyProof.Rows.Boot.abs ha (by decide) (by decide) he hpl) (l_cb ok_abs)
end
end DL
set_option Elab.async false
set_option autoImplicit false
set_option linter.all false
set_option maxRecDepth 100000
set_option maxHeartbeats 3900000
namespace DL
open L2 PyProof.Rows PySem PySem.Spec
section
variable {X : Cx} {W : WX} {k : Nat} {x y : Str} {a b c d e f o : Expr} {es rest : List Expr} {p pos pos' cpos apos tpos px py pt pt2 : Pos} {wa wb wc wk wv : WE} {wt wu : WT} {wl wi : WL} {w u : WS} {j j' kt k2 : Nat} {wo : WEO} {wr : WCl} {r : List V → Hp → VK → Prop} {id T : String}
/-! built-ins by name: functions, types -/
theorem e_blt (cr : CallR X (.builtin id) r) (ok : CallOk X.K r wr) (hm : X.mg x = none) (hv : bootBuiltins x = some (.builtin id)) (ha : PAd X W (e :: es) wl) (hg : Gl X x := by rfl) (hn : x ≠ "__name__" := by decide) (hd : (x == ("__debug__" : Str)) = false := by decide)
    (he : starEach (e :: es) X.env = (false, eval e X.env) :: starEach es X.env := by rfl) (hpl : (backTo pos (starEach es X.env)).any (·.1) = false := by rfl) : PEd X W (.Call (.Name x p) (e :: es) [] pos) (wCB wr wl) := PE.imp (pe_callB cr hg hm hv ha hn hd he hpl) (l_cb ok)
theorem e_bty (cr : CallR X (.type T) r) (ok : CallOk X.K r wr) (hm : X.mg x = none) (hv : bootBuiltins x = some (.type T)) (ha : PAd X W (e :: es) wl) (hg : Gl X x := by rfl) (hn : x ≠ "__name__" := by decide) (hd : (x == ("__debug__" : Str)) = false := by decide)
    (he : starEach (e :: es) X.env = (false, eval e X.env) :: starEach es X.env := by rfl) (hpl : (backTo pos (starEach es X.env)).any (·.1) = false := by rfl) : PEd X W (.Call (.Name x p) (e :: es) [] pos) (wCB wr wl) := PE.imp (pe_callTy cr hg hm hv ha hn hd he hpl) (l_cb ok)
theorem e_tupRg (hc : X.calm = true) (hm : X.mg "tuple" = none) (hm2 : X.mg "range" = none) (ha : PEd X W a wa) (hg : Gl X "tuple" := by rfl) (hg2 : Gl X "range" := by rfl) (na : starEach [a] X.env = (false, eval a X.env) :: starEach [] X.env := by rfl)
    (nb : starEach [.Call (.Name "range" p) [a] [] pos'] X.env = (false, eval (.Call (.Name "range" p) [a] [] pos') X.env) :: starEach [] X.env := by rfl) : PEd X W (.Call (.Name "tuple" px) [.Call (.Name "range" p) [a] [] pos'] [] pos) (wRgT (wCons wa wNil)) :=
  PE.imp (pe_tupRg hc hg hm (prg_1 hg2 hm2 ha na) nb) l_rgT
/-! methods of texts, lists -/
theorem e_join (ha : PEd X W o wa) (hb : PEd X W e wb) (hs : starEach [e] X.env = [(false, eval e X.env)] := by rfl) (hbase : attributeBase o "join" X.env (eval o X.env) = eval o X.env := by rfl) (hline : (apos.endLine == pos.line) = true := by rfl) :
    PEd X W (.Call (.Attribute o "join" apos) [e] [] pos) (wM1 wJoin wa wb) := PE.imp (pe_join ha hb hs hbase hline) (l_m1 ok_join)
theorem e_split (ha : PEd X W o wa) (hb : PEd X W e wb) (hs : starEach [e] X.env = [(false, eval e X.env)] := by rfl) (hbase : attributeBase o "split" X.env (eval o X.env) = eval o X.env := by rfl) (hline : (apos.endLine == pos.line) = true := by rfl) :
    PEd X W (.Call (.Attribute o "split" apos) [e] [] pos) (wM1 wSplit wa wb) := PE.imp (pe_split ha hb hs hbase hline) (l_m1 ok_split)
/-! dicts, slices, fields, f-strings -/
theorem e_dget (q : Cok X W k) (ha : PEd X W o wa) (hb : PEd X W e wb) (hs : NoSl e := by intro _ _; rfl) : PEd X W (.Subscript o e pos) (wDGet wa wb) := PE.imp (pe_dget q.u1 ha hb hs) l_dget
theorem e_dget2 (q : Cok X W k) (ha : PEd X W o wa) (hb : PEd X W e wb) (hc : PEd X W f wc) (m : M2 X o "get" apos e f cpos) : PEd X W (.Call (.Attribute o "get" apos) [e, f] [] cpos) (wDGet2 wa wb wc) := PE.imp (pe_dget2 q.u1 ha hb hc m) l_dget2
abbrev POd (X : Cx) (W : WX) (e : Option Expr) (w : WO) : Prop := PO X e (lO X.K W w)
variable {lo hi : Option Expr} {wlo whi : WO} {p2 : Pos}
theorem s_none : POd X W none woNone := ⟨fun pins s σ H Q I h => po_none.run pins s σ H Q I (o_none σ H Q h)⟩
theorem s_some (ha : PEd X W e wa) : POd X W (some e) (woSome wa) := ⟨fun pins s σ H Q I h => (po_some ha).run pins s σ H Q I (o_some σ H Q h)⟩
theorem e_slice (ha : PEd X W e wa) (hl : POd X W lo wlo) (hu : POd X W hi whi) : PEd X W (.Subscript e (.Slice lo hi none p2) pos) (wSl wa wlo whi) := PE.imp (pe_slice (SlR.or sl_list sl_tupA) ha hl hu) l_sl
theorem e_fld {C : Addr} (hc : Cls X.K C) (hn : NoAttr X.K C x) (ha : PEd X W e wa) (hb : attributeBase e x X.env (eval e X.env) = eval e X.env := by rfl) : PEd X W (.Attribute e x pos) (wFld C x wa) := PE.imp (pe_fld ha hb) (l_fld hc hn)
theorem e_fldO {C : Addr} {i : Nat} (hc : Cls X.K C) (hn : NoAttr X.K C x) (hN : X.N[i]? = some y := by rfl) (hv : Vis X.env.scope y := by first | exact .inl rfl | exact .inr (.inl rfl) | exact .inr (.inr rfl)) (hd : (y == ("__debug__" : Str)) = false := by decide) (hcd : (y == ("__classdict__" : Str)) = false := by decide)
    (hb : attributeBase (.Name y p) x X.env (eval (.Name y p) X.env) = eval (.Name y p) X.env := by rfl) : PEd X W (.Attribute (.Name y p) x pos) (wFldO C x i) := PE.imp (pe_fld (pe_var hN hv hd hcd) hb) (l_fldO hc hn)
theorem e_fmt (ha : PEd X W e wa) : PEd X W (.FormattedValue e (-1) none pos) (wFmt wa) := PE.imp (pe_fmt ha) l_fmt
inductive PJd (X : Cx) (W : WX) : List Expr → List WE → Prop
  | nil : PJd X W [] []
  | cons {e : Expr} {w : WE} {es : List Expr} {ws : List WE} (h : PEd X W e w) (r : PJd X W es ws) : PJd X W (e :: es) (w :: ws)
theorem PJd.pj : ∀ {es : List Expr} {ws : List WE}, PJd X W es ws → PJ X es (ws.map (lE X.K W))
  | _, _, .nil => .nil
  | _, _, .cons h r => .cons h r.pj
theorem e_fs {ws : List WE} (h : PJd X W (a :: b :: es) ws) : PEd X W (.JoinedStr (a :: b :: es) pos) (wFs ws) := PE.imp (pe_joined h.pj) l_fs
/-! own lists -/
theorem e_ixO {i : Nat} (hb : PEd X W b wb) (hN : X.N[i]? = some x := by rfl) (hv : Vis X.env.scope x := by first | exact .inl rfl | exact .inr (.inl rfl) | exact .inr (.inr rfl)) (hs : PlainIx b := by intro _ _; rfl) (hd : (x == ("__debug__" : Str)) = false := by decide) (hc : (x == ("__classdict__" : Str)) = false := by decide) :
    PEd X W (.Subscript (.Name x p) b pos) (wIxO i wb) := PE.imp (pe_ix ix_seq (pe_var hN hv hd hc) hb hs) l_ixO
theorem o_lst (h : PAd X W es wl) : PEO X W (.List es pos) (woLst wl) := PE.imp (pe_lst h) lo_lst
theorem o_lstOf (hm : X.mg "list" = none) (ha : PAd X W [e] wl) (hg : Gl X "list" := by rfl) (he : starEach [e] X.env = (false, eval e X.env) :: starEach [] X.env := by rfl) : PEO X W (.Call (.Name "list" p) [e] [] pos) (woLstOf wl) := PE.imp (pe_callTy call_list_of hg hm PyProof.Rows.Boot.list ha (by decide) (by decide) he rfl) lo_lstOf
/-! statements -/
theorem s_nil : PSsd X W [] wNext := PSs.imp pss_nil l_next
variable {st : Stmt} {sts body tl fl : List Stmt} {i : Nat}
theorem s_cons (h : PSd X W st w) (r : PSsd X W sts u) : PSsd X W (st :: sts) (wSeq w u) := PSs.imp (pss_cons h r) l_seq
theorem s_one (h : PSd X W st w) : PSsd X W [st] w := pss_one h
theorem s_pass : PSd X W (.Pass pos) wNext := PS.imp ps_pass l_next
theorem s_brk : PSd X W (.Break pos) wBreak := PS.imp ps_break l_brk
theorem s_cnt : PSd X W (.Continue pos) wCont := PS.imp ps_continue l_cnt
theorem s_ret (h : PEd X W e wa) : PSd X W (.Return (some e) pos) (wRet wa) := PS.imp (ps_ret h) l_ret
theorem s_retN : PSd X W (.Return none pos) wRetN := PS.imp ps_retN l_retN
theorem s_retO (h : PEO X W e wo) : PSd X W (.Return (some e) pos) (wRetO wo) := PS.imp (ps_ret h) l_retO
theorem s_drop (h : PEd X W e wa) (hs : swapsWith e none pos.line X.env = pure false := by rfl) : PSd X W (.Expr e pos) (wDrop wa) := PS.imp (ps_expr h hs) l_drop
theorem s_set (hN : X.N.Nodup) (i : Nat) (h : PEd X W e wa) (hi : X.N[i]? = some x := by rfl) (hx : Loc X.env.scope x := by first | exact .inl rfl | exact .inr rfl) (hs : swapsWith e (some (.Name x pos')) pos.line X.env = pure false := by rfl)
    (hf : X.fn x = true ∨ X.env.scope.names.lookup x = some .local := by first | exact .inl rfl | exact .inr rfl) : PSd X W (.Assign [.Name x pos'] e pos) (wAsg i wa) := PS.imp (ps_set hN hi hx h hs hf) l_asg
theorem s_setO (hN : X.N.Nodup) (i : Nat) (h : PEO X W e wo) (hi : X.N[i]? = some x := by rfl) (hx : Loc X.env.scope x := by first | exact .inl rfl | exact .inr rfl) (hs : swapsWith e (some (.Name x pos')) pos.line X.env = pure false := by rfl)
    (hf : X.fn x = true ∨ X.env.scope.names.lookup x = some .local := by first | exact .inl rfl | exact .inr rfl) : PSd X W (.Assign [.Name x pos'] e pos) (wAsgO i wo) := PS.imp (ps_set hN hi hx h hs hf) l_asgO
theorem s_par (hN : X.N.Nodup) (hc : X.calm = true) (i m : Nat) (h : PAd X W [a, b] wl) (hw : swappedStores [.Tuple [.Name x px, .Name y py] kt pt] (.Tuple [a, b] k2 pt2) X.env = pure (some [x, y])) (hij : i ≠ m := by decide) (hi : X.N[i]? = some x := by rfl) (hj : X.N[m]? = some y := by rfl)
    (hx : X.env.scope.names.lookup x = some .local := by rfl) (hy : X.env.scope.names.lookup y = some .local := by rfl) (hs : swapsWithSole [.Tuple [.Name x px, .Name y py] kt pt] (.Tuple [a, b] k2 pt2) pos.line X.env = pure false := by rfl) :
    PSd X W (.Assign [.Tuple [.Name x px, .Name y py] kt pt] (.Tuple [a, b] k2 pt2) pos) (wPar i m wl) := PS.imp (ps_par hc hN hi hj hij hx hy h hw hs) l_par
theorem s_parO (hN : X.N.Nodup) (hc : X.calm = true) (i m : Nat) (h : PEd X W a wa) (ho : PEO X W b wo) (hw : swappedStores [.Tuple [.Name x px, .Name y py] kt pt] (.Tuple [a, b] k2 pt2) X.env = pure (some [x, y])) (hij : i ≠ m := by decide) (hi : X.N[i]? = some x := by rfl) (hj : X.N[m]? = some y := by rfl)
    (hx : X.env.scope.names.lookup x = some .local := by rfl) (hy : X.env.scope.names.lookup y = some .local := by rfl) (hs : swapsWithSole [.Tuple [.Name x px, .Name y py] kt pt] (.Tuple [a, b] k2 pt2) pos.line X.env = pure false := by rfl)
    (h1 : starEach [a, b] X.env = (false, eval a X.env) :: starEach [b] X.env := by rfl) (h2 : starEach [b] X.env = (false, eval b X.env) :: starEach [] X.env := by rfl) :
    PSd X W (.Assign [.Tuple [.Name x px, .Name y py] kt pt] (.Tuple [a, b] k2 pt2) pos) (wParO i m wa wo) := PS.imp (ps_par hc hN hi hj hij hx hy (pa_cons h (pa_cons ho pa_nil h2) h1) hw hs) l_parO
theorem s_if (ht : PTd X W c wt) (ha : PSsd X W tl w) (hb : PSsd X W fl u) : PSd X W (.If c tl fl pos) (wIfS wt w u) := PS.imp (ps_if ht ha hb) l_ifS
theorem s_setO1 {wj : WE} (i : Nat) (hk : PEd X W b wj) (h : PEd X W e wa) (hN : X.N[i]? = some x := by rfl) (hv : Vis X.env.scope x := by first | exact .inl rfl | exact .inr (.inl rfl) | exact .inr (.inr rfl)) (hd : (x == ("__debug__" : Str)) = false := by decide) (hc : (x == ("__classdict__" : Str)) = false := by decide)
    (ha : ∀ v, assign (.Subscript (.Name x p) b tpos) X.env v = (do
      let ov ← holding [v] (eval (.Name x p) X.env)
      let iv ← holding [v, ov] (eval b X.env)
      standAt tpos
      holding [v, ov, iv] (setItem ov iv v); release [v, ov, iv] []) := by intro _; rfl)
    (hs : swapsWithSole [.Subscript (.Name x p) b tpos] e pos.line X.env = pure false := by rfl) (hw : swappedStores [.Subscript (.Name x p) b tpos] e X.env = pure none := by rfl)
    (h1 : (assignEach [.Subscript (.Name x p) b tpos] X.env).map (·.2) = [assign (.Subscript (.Name x p) b tpos) X.env] := by rfl) : PSd X W (.Assign [.Subscript (.Name x p) b tpos] e pos) (wSetO i wj wa) :=
  PS.imp (ps_asg h (pg_sub (pe_var hN hv hd hc) hk set_list ha) hs hw h1) l_setO
theorem s_app (i : Nat) (h : PEd X W e wa) (hN : X.N[i]? = some x := by rfl) (hv : Vis X.env.scope x := by first | exact .inl rfl | exact .inr (.inl rfl) | exact .inr (.inr rfl)) (hd : (x == ("__debug__" : Str)) = false := by decide) (hc : (x == ("__classdict__" : Str)) = false := by decide)
    (hbase : attributeBase (.Name x p) "append" X.env (eval (.Name x p) X.env) = eval (.Name x p) X.env := by rfl)
    (hfew : ((backTo cpos (starEach [e] X.env)).all (fun x => !x.1) && (backToKw cpos (keywordEach [] X.env)).all (fun x => x.1.isSome) && decide ([e].length + ([] : List Keyword).length + (if ([] : List Keyword).isEmpty then 0 else 1) < 30)) = true := by rfl)
    (hline : (apos.endLine == cpos.line) = true := by rfl) (hs : starEach [e] X.env = (false, eval e X.env) :: starEach [] X.env := by rfl) (hw : swapsWith (.Call (.Attribute (.Name x p) "append" apos) [e] [] cpos) none pos.line X.env = pure false := by rfl) :
    PSd X W (.Expr (.Call (.Attribute (.Name x p) "append" apos) [e] [] cpos) pos) (wApp i wa) :=
  PS.imp (ps_expr (pe_bm PySem.F.plainAttrs_list PySem.F.slot_list_append PySem.F.type_list_append mt_append (pe_var hN hv hd hc) (pa_cons h pa_nil hs) hbase hfew hline hs rfl) hw) l_app
theorem s_fset {C : Addr} (i : Nat) (hc : Cls X.K C) (hn : NoAttr X.K C y) (h : PEd X W e wa) (hN : X.N[i]? = some x := by rfl) (hv : Vis X.env.scope x := by first | exact .inl rfl | exact .inr (.inl rfl) | exact .inr (.inr rfl)) (hd : (x == ("__debug__" : Str)) = false := by decide) (hcd : (x == ("__classdict__" : Str)) = false := by decide)
    (hs : swapsWith e (some (.Attribute (.Name x p) y pos')) pos.line X.env = pure false := by rfl) : PSd X W (.Assign [.Attribute (.Name x p) y pos'] e pos) (wFset C y i wa) := PS.imp (ps_fld (pe_var hN hv hd hcd) h hs) (l_fset hc hn)
/-! targets, walks, loops -/
theorem g_nm (hN : X.N.Nodup) (i : Nat) (hi : X.N[i]? = some x := by rfl) (hx : Loc X.env.scope x := by first | exact .inl rfl | exact .inr rfl) (hf : X.fn x = true ∨ X.env.scope.names.lookup x = some .local := by first | exact .inl rfl | exact .inr rfl) : PGd X (.Name x pos) (wgName i) := PG.imp (pg_name hN hi hx hf) g_name
theorem g_two (hN : X.N.Nodup) (hc : X.calm = true) (i m : Nat) (hi : X.N[i]? = some x := by rfl) (hj : X.N[m]? = some y := by rfl) (hx : Loc X.env.scope x := by first | exact .inl rfl | exact .inr rfl) (hy : Loc X.env.scope y := by first | exact .inl rfl | exact .inr rfl)
    (hf : X.fn x = true ∨ X.env.scope.names.lookup x = some .local := by first | exact .inl rfl | exact .inr rfl) (hf2 : X.fn y = true ∨ X.env.scope.names.lookup y = some .local := by first | exact .inl rfl | exact .inr rfl)
    (hn : (assignEach [.Name x px, .Name y py] X.env).length = 2 := by rfl) (hst : (assignEach [.Name x px, .Name y py] X.env).findIdx? (·.1) = none := by rfl) : PGd X (.Tuple [.Name x px, .Name y py] kt pt) (wgTup 2 (wgCons (wgName i) (wgCons (wgName m) wgNil))) :=
  PG.imp (pg_tup hc (PGs.imp (pgs_cons (PG.imp (pg_name hN hi hx hf) g_name) (PGs.imp (pgs_cons (PG.imp (pg_name hN hj hy hf2) g_name) (PGs.imp pgs_nil g_nil)) g_cons)) g_cons) hn hst) g_tup
theorem i_seq {tg : Expr} (h : PEd X W e wa) : PId X W tg e (wiSeq wa) := d_seq h
theorem i_rng1 {tg : Expr} (hm : X.mg "range" = none) (ha : PAd X W [a] wl) (hg : Gl X "range" := by rfl) (hs : starEach [a] X.env = [(false, eval a X.env)] := by rfl) : PId X W tg (.Call (.Name "range" p) [a] [] pos) (wiRg1 wl) := PI.imp (pi_range1 hg hm ha hs) i_rg1
theorem s_for {tg : Expr} {g : WG} (hp : PassesOwn (model X.prog X.w) X.A X.env X.xe) (hc : X.calm = true) (hi : PId X W tg e wi) (hg : PGd X tg g) (hb : PSsd X W body w) (hs : ∀ x, foldedSetIterable e X.env x = pure x := by intro _; rfl) : PSd X W (.For tg e body [] pos) (wFor wi g w) := PS.imp (ps_for hp hc hi hg hb hs) l_for
end
end DL
set_option Elab.async false
set_option autoImplicit false
set_option linter.all false
set_option maxRecDepth 100000
set_option maxHeartbeats 3900000
namespace DL
open L2 PyProof.Rows PySem PySem.Spec
/-! ### comprehensions -/
abbrev Blk (X : Cx) (P : Cx → Prop) (scope : Scope) : Prop := ∀ (s : Shared) (H : Hp) (C : Addr) (cl : List (Str × Addr)) (fp : List Addr), P (X.blk s H scope (compEnvC scope cl C X.env) fp)
theorem PTs.imp {X : Cx} {ifs : List Expr} {t t' : TT} (h : PTs X ifs t) (m : ∀ σ H Q, t' σ H Q → t σ H Q) : PTs X ifs t' := ⟨fun pins s σ H Q I q => h.run pins s σ H Q I (m σ H Q q)⟩
theorem PK.imp {X : Cx} {ks : List Keyword} {t t' : TA} (h : PK X ks t) (m : ∀ σ H Q, t' σ H Q → t σ H Q) : PK X ks t' := ⟨fun pos pins s σ H Q I q => h.run pos pins s σ H Q I (m σ H Q q)⟩
theorem f_nil {X : Cx} {W : WX} : PTs X [] (lT X.K W wTrue) := PTs.imp pts_nil l_yes
theorem f_one {X : Cx} {W : WX} {c : Expr} {wt : WT} (h : PTd X W c wt) : PTs X [c] (lT X.K W wt) := pts_one h
section
variable {X : Cx} {W : WX} {k n m N : Nat} {x : Str} {e tg iter elt kx : Expr} {es : List Expr} {ifs : List Expr} {scope : Scope} {own : List (Str × Nat)} {p pos p2 : Pos} {wa we wk : WE} {wi wl : WL} {g : WG} {wt : WT} {f C : Addr} {fd : FuncData} {ps ks : List Str} {sp : Spc}
theorem e_lc (hc : X.calm = true) (hN : X.N.Nodup) (hi : PId X W tg iter wi) (ok : BlkOk X.N X.env.scope scope own) (hg : Blk X (fun Y => PG Y tg (lGc X.K (own.map (·.2)) g)) scope) (ht : Blk X (fun Y => PTs Y ifs (lT X.K W0 wt)) scope) (he : Blk X (fun Y => PE Y elt (lE X.K W0 we)) scope)
    (hs : ∀ x, foldedSetIterable iter X.env x = pure x := by intro _; rfl) : PEd X W (.ListComp elt [⟨tg, iter, ifs, 0⟩] scope pos) (wLc wi g wt we (own.map (·.2))) := PE.imp (pe_lc hc hN hi ok hg ht he hs) l_lc
theorem o_lc (hc : X.calm = true) (hN : X.N.Nodup) (hi : PId X W tg iter wi) (ok : BlkOk X.N X.env.scope scope own) (hg : Blk X (fun Y => PG Y tg (lGc X.K (own.map (·.2)) g)) scope) (ht : Blk X (fun Y => PTs Y ifs (lT X.K W0 wt)) scope) (he : Blk X (fun Y => PE Y elt (lE X.K W0 we)) scope)
    (hs : ∀ x, foldedSetIterable iter X.env x = pure x := by intro _; rfl) : PEO X W (.ListComp elt [⟨tg, iter, ifs, 0⟩] scope pos) (woLc wi g wt we (own.map (·.2))) := PE.imp (pe_lc hc hN hi ok hg ht he hs) lo_lc
theorem e_dc (hc : X.calm = true) (hN : X.N.Nodup) (hi : PId X W tg iter wi) (ok : BlkOk X.N X.env.scope scope own) (hg : Blk X (fun Y => PG Y tg (lGc X.K (own.map (·.2)) g)) scope) (ht : Blk X (fun Y => PTs Y ifs (lT X.K W0 wt)) scope) (hk : Blk X (fun Y => PE Y kx (lE X.K W0 wk)) scope) (he : Blk X (fun Y => PE Y elt (lE X.K W0 we)) scope)
    (hs : ∀ x, foldedSetIterable iter X.env x = pure x := by intro _; rfl) : PEd X W (.DictComp kx elt [⟨tg, iter, ifs, 0⟩] scope pos) (wDc wi g wt wk we (own.map (·.2))) := PE.imp (pe_dc hc hN hi ok hg ht hk he hs) l_dc
theorem g_c {K : Fg} {vs : List Nat} {Y : Cx} (i : Nat) (hN : Y.N.Nodup) (hv : i ∈ vs := by decide) (hi : Y.N[i]? = some x := by rfl) (hx : Loc Y.env.scope x := by first | exact .inl rfl | exact .inr rfl) (hf : Y.fn x = true ∨ Y.env.scope.names.lookup x = some .local := by first | exact .inl rfl | exact .inr rfl) : PG Y (.Name x pos) (lGc K vs (wgName i)) :=
  PG.imp (pg_name hN hi hx hf) (gc_name hv)

/-! ### calls of defs -/
theorem lL_mono {K : Fg} {w : WL} {σ : L2.St} {H : Hp} {Q Q' : List V → Hp → Prop} (h : lL K W w σ H Q) (m : ∀ vs H', Q vs H' → Q' vs H') : lL K W w σ H Q' := by
  obtain ⟨ρ, S, F, χ, Φ, e, hw, hx, hp⟩ := h
  exact ⟨ρ, S, F, χ, Φ, e, hw, hx, fun vs ds ρ' S' H' a b c d => m vs H' (hp vs ds ρ' S' H' a b c d)⟩
structure Dn (K : Fg) (mg : Str → Option Value) (x : Str) (f : Addr) (fd : FuncData) (ps : List Str) (n : Nat) : Prop where
  m : mg x = some (.ref f)
  kp : PySem.W.keepIn K (Value.ref f) = true
  kb : KBn K fd ps n [] (fun us _ => us) (fun us _ => us)
theorem kb_of {K : Fg} {fd : FuncData} {ps : List Str} {n : Nat} (h : Binds K fd ps []) (hn : ps.length = n) : KBn K fd ps n [] (fun us _ => us) (fun us _ => us) :=
  ⟨fun s us ws hK h1 h2 => by
    have z := h s us hK (by rw [List.append_nil, h1, hn])
    rw [List.append_nil] at z
    exact z, fun r _ => r⟩
theorem grel_pos : GRel n 0 n (fun vs _ => vs) (fun ds _ => ds) := fun K S vs ds us es i1 i2 h1 h2 => ⟨i1, h1⟩
theorem e_call (o : Cok X W k) {j : Nat} (F : FnG X.prog X.w X.K X.mg X.base j f fd ps (lSp X.K n sp)) (U : Dn X.K X.mg x f fd ps n) (ha : PAd X W (e :: es) wl) (hj : j ≤ k := by decide) (hg : Gl X x := by rfl) (hd : (x == ("__debug__" : Str)) = false := by decide)
    (he : starEach (e :: es) X.env = (false, eval e X.env) :: starEach es X.env := by rfl) (hpl : (backTo pos (starEach es X.env)).any (·.1) = false := by rfl) : PEd X W (.Call (.Name x p) (e :: es) [] pos) (wCallA n 0 sp (fun ds _ => ds) wl wNil) :=
  PE.imp (pe_g (F.mono hj) o hg U.m U.kp U.kb ha hpl hd he) fun σ H Q z => lL_mono (l_callA grel_pos σ H Q z) fun vs H' q => l_nil σ H' _ q
theorem e_callB (o : Cok X W k) {i j : Nat} (F : FnG X.prog X.w X.K X.mg X.base j f fd ps (lSp X.K (n + 1) sp)) (U : Dn X.K X.mg x f fd ps (n + 1)) {y : Str} {py : Pos} (ha : PAd X W es wl) (hj : j ≤ k := by decide) (hN : X.N[i]? = some y := by rfl) (hv : Vis X.env.scope y := by first | exact .inl rfl | exact .inr (.inl rfl) | exact .inr (.inr rfl))
    (hg : Gl X x := by rfl) (hd : (x == ("__debug__" : Str)) = false := by decide) (hd2 : (y == ("__debug__" : Str)) = false := by decide) (hc2 : (y == ("__classdict__" : Str)) = false := by decide)
    (he : starEach (.Name y py :: es) X.env = (false, eval (.Name y py) X.env) :: starEach es X.env := by rfl) (hpl : (backTo pos (starEach es X.env)).any (·.1) = false := by rfl) : PEd X W (.Call (.Name x p) (.Name y py :: es) [] pos) (wCallB i n sp wl) :=
  PE.imp (pe_g (F.mono hj) o hg U.m U.kp U.kb (pa_cons (pe_var hN hv hd2 hc2) ha he) hpl hd he) (l_callB fun _ => rfl)
theorem o_call (o : Cok X W k) {j : Nat} {so : SpcO} (F : FnG X.prog X.w X.K X.mg X.base j f fd ps (lSpO X.K n so)) (U : Dn X.K X.mg x f fd ps n) (ha : PAd X W (e :: es) wl) (hj : j ≤ k := by decide) (hg : Gl X x := by rfl) (hd : (x == ("__debug__" : Str)) = false := by decide)
    (he : starEach (e :: es) X.env = (false, eval e X.env) :: starEach es X.env := by rfl) (hpl : (backTo pos (starEach es X.env)).any (·.1) = false := by rfl) : PEO X W (.Call (.Name x p) (e :: es) [] pos) (woCall n so wl) :=
  PE.imp (pe_g (F.mono hj) o hg U.m U.kp U.kb ha hpl hd he) (lo_call fun _ => rfl)
theorem e_callT (o : Cok X W k) {j : Nat} {wo : WEO} (F : FnG X.prog X.w X.K X.mg X.base j f fd ps (lSp X.K (n + 1) sp)) (U : Dn X.K X.mg x f fd ps (n + 1)) (h : PEO X W e wo) (ha : PAd X W es wl) (hj : j ≤ k := by decide) (hg : Gl X x := by rfl) (hd : (x == ("__debug__" : Str)) = false := by decide)
    (he : starEach (e :: es) X.env = (false, eval e X.env) :: starEach es X.env := by rfl) (hpl : (backTo pos (starEach es X.env)).any (·.1) = false := by rfl) : PEd X W (.Call (.Name x p) (e :: es) [] pos) (wCallT n sp wo wl) :=
  PE.imp (pe_g (F.mono hj) o hg U.m U.kp U.kb (pa_cons h ha he) hpl hd he) (l_callT fun _ => rfl)
/-- keywords alone -/
abbrev PKd (X : Cx) (W : WX) (ks : List Keyword) (w : WL) : Prop := PK X ks (lL X.K W w)
theorem k_nil : PKd X W [] wNil := PK.imp pk_nil l_nil
theorem k_cons {nm : Option Str} {kp : Pos} {kws : List Keyword} (h : PEd X W e wa) (r : PKd X W kws wl) : PKd X W (⟨nm, e, kp⟩ :: kws) (wCons wa wl) := PK.imp (pk_cons h r) l_cons
theorem e_callK (o : Cok X W k) {j : Nat} {kws : List Keyword} {gl : List Value → List Value → List Value} {gV : List V → List V → List V} {gD : List D → List D → List D} (F : FnG X.prog X.w X.K X.mg X.base j f fd ps (lSp X.K n sp)) (hm : X.mg x = some (.ref f)) (kp : PySem.W.keepIn X.K (.ref f) = true)
    (hb : KBn X.K fd ps 0 ks gl gV) (hr : GRel 0 ks.length n gV gD) (ha : PKd X W kws wl) (hj : j ≤ k := by decide) (hg : Gl X x := by rfl) (hall : (backToKw pos (keywordEach kws X.env)).all (·.1.isSome) = true := by rfl) (hks : (backToKw pos (keywordEach kws X.env)).filterMap (·.1) = ks := by rfl)
    (hd : (x == ("__debug__" : Str)) = false := by decide) (hpl : ((backTo pos (starEach [] X.env)).any (·.1) || (backToKw pos (keywordEach kws X.env)).any (·.1.isNone)) = false := by rfl) : PEd X W (.Call (.Name x p) [] kws pos) (wCallA 0 ks.length sp gD wNil wl) :=
  PE.imp (pe_gk0 (F.mono hj) o hg hm kp hb ha hall hks (hpl := hpl) (hdb := hd)) fun σ H Q z => l_nil σ H _ (l_callA hr σ H Q z)
/-- C(..) -/
theorem grel_mk : ∀ (v : V) (vs zs : List V), (fun (us : List V) (_ : List V) => us) (v :: vs) zs = v :: (fun (us : List V) (_ : List V) => us) vs zs := fun _ _ _ => rfl
theorem e_make (o : Cok X W (k + 1)) {j : Nat} (M : Mk X.K C f) (F : FnG X.prog X.w X.K X.mg X.base j f fd ps (lSp X.K (n + 1) sp)) (hm : X.mg x = some (.ref C)) (kb : KBn X.K fd ps (n + 1) [] (fun us _ => us) (fun us _ => us)) (ha : PAd X W (e :: es) wl) (hj : j ≤ k := by decide) (hg : Gl X x := by rfl) (hd : (x == ("__debug__" : Str)) = false := by decide)
    (he : starEach (e :: es) X.env = (false, eval e X.env) :: starEach es X.env := by rfl) (hpl : (backTo pos (starEach es X.env)).any (·.1) = false := by rfl) : PEd X W (.Call (.Name x p) (e :: es) [] pos) (wMake C n 0 sp (fun ds _ => ds) wl wNil) :=
  PE.imp (pe_mk M (F.mono hj) o hg hm kb ha (hpl := hpl) (hdb := hd) (he := he)) fun σ H Q z => lL_mono (l_make (gV := fun us _ => us) grel_pos grel_mk σ H Q z) fun vs H' q => l_nil σ H' _ q
/-- x != y by an own == -/
theorem e_neO (o : Cok X W (k + 1)) {j : Nat} {a b : Expr} {wb : WE} (T : EqC X.K C f) (F : FnG X.prog X.w X.K X.mg X.base j f fd ps (lSp X.K 2 sp)) (kb : KBn X.K fd ps 2 [] (fun us _ => us) (fun us _ => us)) (ha : PEd X W a wa) (hb : PEd X W b wb) (hj : j ≤ k := by decide) :
    PTd X W (.Compare a [.NotEq] [b] pos) (wB (wOp (fun x y Φ => wEq true x y Φ ∨ wNeO C sp x y Φ) wa wb)) :=
  t_of (pt_cmpR ((op_neD o.u64').or (op_neO T (F.mono hj) o kb (fun _ => rfl) fun _ => rfl)) ha hb (nomark _)) (l_op (ok_ne.or ok_neO))

/-! ### raise, try -/
variable {C0 fI : Addr} {fn s : Str} {w : WS}
theorem s_raise (hc : X.calm = true) (o : Cok X W (k + 1)) (hC : ErrC X.K C fI fn) (F1 : FnOk X.prog X.w X.K X.mg X.base (L2.CX X.prog X.w) k fI fd [s, fn] (spIni X.K fn)) (hb : Binds X.K fd [s, fn] []) (hx : Passes (L2.CX X.prog X.w) X (fun _ _ _ => False))
    (hm : X.mg x = some (.ref C)) (ha : PAd X W [e] wl) (hg : Gl X x := by rfl) (hd : (x == ("__debug__" : Str)) = false := by decide) (he : starEach [e] X.env = [(false, eval e X.env)] := by rfl) :
    PSd X W (.Raise (some (.Call (.Name x p) [e] [] pos)) none p2) (wRaise C fn wl) := ps_rs hc o hC F1 hb hx hg hm ha hd he
def wNever : WS := fun _ _ => False
theorem s_never {sts : List Stmt} : PSsd X W sts wNever := PSs.imp pss_never fun _ _ _ ⟨_, _, _, _, _, h, _⟩ => h
theorem s_try {n : Str} {c : Value} {i : Nat} {body suite : List Stmt} {b₀ : Stmt} {np pos' : Pos} {wb : WS} {ws : Addr → Value → Option Addr → WS} (hN : X.N.Nodup) (o : Cok X W k) (hc : Names X x c)
    (hb : ∀ (W' : WX) (pn : List (Addr × Obj)) (xe : Value → Shared → Prop), Cok (X.tr pn xe) W' k → PassesOwn (model X.prog X.w) X.A X.env xe → PSs (X.tr pn xe) body (lS X.K W' wb))
    (hsu : ∀ (a : Addr) (oe : Obj) (cls : Value) (d : Option Addr) (pn : List (Addr × Obj)), Zc cls d oe → (∃ vs, oe.data = .fields vs) → PSs (X.suite a ((a, oe) :: pn)) (b₀ :: suite) (lS X.K W (ws a cls d)))
    (hi : X.N[i]? = some n := by rfl) (hln : X.env.kindOf n = some .local := by rfl) (hs : X.stack = X.env :: X.outer := by rfl) (hf : X.env.frame = some X.env.locals := by rfl) :
    PSd X W (.Try body [.ExceptHandler (some (.Name x np)) (some n) (b₀ :: suite) pos'] [] [] pos) (wTry X.K c i wb ws) :=
  PS.imp (ps_try_as (tb := fun W' => lS X.K W' wb) hs hf hN hi hln hc o.tk (fun W' pn xe tk hp => hb W' pn xe (o.tr pn xe tk) hp) hsu) l_try
theorem e_xf {a : Addr} {oe : Obj} {cls : Value} {dO : Option Addr} {pn : List (Addr × Obj)} {nf : Str} (T : XfC X.K C) (hno : PySem.W.findIn X.K (.ref C) nf = some none) (hz : Zc cls dO oe) (hf : ∃ vs, oe.data = .fields vs) (he : PEd (X.suite a ((a, oe) :: pn)) W e wa)
    (hb : attributeBase e nf X.env (eval e X.env) = eval e X.env := by rfl) : PEd (X.suite a ((a, oe) :: pn)) W (.Attribute e nf pos) (wXf a cls dO C nf wa) := PE.imp (pe_xf (X := X) T hno hz hf he hb) l_xf
end
end DL
set_option Elab.async false
set_option autoImplicit false
set_option linter.all false
set_option maxRecDepth 100000
set_option maxHeartbeats 3900000
namespace DL
open L2 PyProof.Rows PySem PySem.Spec
/-- a, b = x, y whose names lie in cells: the pair is made, then parted; y an object of one's own -/
theorem l_parG {K : Fg} {W : WX} {i m : Nat} {wa : WE} {wo : WEO} : ∀ D σ H, lS K W (wParO i m wa wo) D σ H → tAsg (tTup (tCons (lE K W wa) (tCons (lEO K W wo) tNil))) (gTup K 2 (gCons (gName i) (gCons (gName m) gNil))) D σ H := by
  rintro D σ H ⟨ρ, S, F, Δ, e, hw, hx, h1, h2, h3, h4, h5⟩
  refine ⟨ρ, S, F, _, _, e, hw, hx, fun v d ρ1 S1 H1 q1 s1 i1 e1 => ?_⟩
  refine ⟨ρ1, S1, F, _, _, e1, q1, hx.mono s1, fun l od o ρ2 S2 H2 q2 s2 a1 a2 a3 a4 a5 e2 => ?_⟩
  refine ⟨show 2 ≤ sizeLine by decide, fun p hp => ⟨p, _, rfl, .inl (.inl upd_same), rfl, v, _, rfl, _, _, rfl, rfl, ?_⟩⟩
  have nl : l ≠ p := ne_of_none a1 hp
  exact h1 _ S2 _ _ q2 (s1.trans s2) (((e2.addH hp).set (i1.mono s2)).setOwn (by rw [upd_ne nl]; exact a1) a3 a4 a2 (notOwn_set a5))
theorem s_parG {X : Cx} {W : WX} {a b : Expr} {x y : Str} {wa : WE} {wo : WEO} {px py pt pt2 pos : Pos} {kt k2 : Nat} (hN : X.N.Nodup) (hc : X.calm = true) (i m : Nat) (h : PEd X W a wa) (ho : PEO X W b wo) (hi : X.N[i]? = some x := by rfl) (hj : X.N[m]? = some y := by rfl)
    (hx : Loc X.env.scope x := by first | exact .inl rfl | exact .inr rfl) (hy : Loc X.env.scope y := by first | exact .inl rfl | exact .inr rfl) (hf : X.fn x = true ∨ X.env.scope.names.lookup x = some .local := by first | exact .inl rfl | exact .inr rfl)
    (hf2 : X.fn y = true ∨ X.env.scope.names.lookup y = some .local := by first | exact .inl rfl | exact .inr rfl) (hn : (assignEach [.Name x px, .Name y py] X.env).length = 2 := by rfl) (hst : (assignEach [.Name x px, .Name y py] X.env).findIdx? (·.1) = none := by rfl)
    (hs : swapsWithSole [.Tuple [.Name x px, .Name y py] kt pt] (.Tuple [a, b] k2 pt2) pos.line X.env = pure false := by rfl) (hw : swappedStores [.Tuple [.Name x px, .Name y py] kt pt] (.Tuple [a, b] k2 pt2) X.env = pure none := by rfl)
    (h1 : (assignEach [.Tuple [.Name x px, .Name y py] kt pt] X.env).map (·.2) = [assign (.Tuple [.Name x px, .Name y py] kt pt) X.env] := by rfl)
    (e1 : starEach [a, b] X.env = (false, eval a X.env) :: starEach [b] X.env := by rfl) (e2 : starEach [b] X.env = (false, eval b X.env) :: starEach [] X.env := by rfl) :
    PSd X W (.Assign [.Tuple [.Name x px, .Name y py] kt pt] (.Tuple [a, b] k2 pt2) pos) (wParO i m wa wo) :=
  PS.imp (ps_asg (pe_tup (pa_cons h (pa_cons ho pa_nil e2) e1)) (pg_tup hc (pgs_cons (pg_name hN hi hx hf) (pgs_cons (pg_name hN hj hy hf2) pgs_nil)) hn hst) hs hw h1) l_parG
theorem s_asg {X : Cx} {W : WX} {tg e : Expr} {wa : WE} {g : WG} {pos : Pos} (h : PEd X W e wa) (hg : PGd X tg g) (hs : swapsWithSole [tg] e pos.line X.env = pure false := by rfl) (hw : swappedStores [tg] e X.env = pure none := by rfl)
    (h1 : (assignEach [tg] X.env).map (·.2) = [assign tg X.env] := by rfl) : PSd X W (.Assign [tg] e pos) (wAsgG g wa) := PS.imp (ps_asg h hg hs hw h1) l_asgG
/-- name = [..] on one line -/
theorem s_setLc {X : Cx} {W : WX} {y : Str} {tg iter elt : Expr} {ifs : List Expr} {scope : Scope} {own : List (Str × Nat)} {pos spos py : Pos} {wi : WL} {g : WG} {wt : WT} {we : WE} (i : Nat) (hc : X.calm = true) (hN : X.N.Nodup) (hi : PId X W tg iter wi) (ok : BlkOk X.N X.env.scope scope own)
    (hg : Blk X (fun Y => PG Y tg (lGc X.K (own.map (·.2)) g)) scope) (ht : Blk X (fun Y => PTs Y ifs (lT X.K W0 wt)) scope) (he : Blk X (fun Y => PE Y elt (lE X.K W0 we)) scope) (hy : X.N[i]? = some y := by rfl) (hyl : X.env.scope.names.lookup y = some .local := by rfl)
    (hsw : swapsWith (.ListComp elt [⟨tg, iter, ifs, 0⟩] scope pos) (some (.Name y py)) spos.line X.env = pure true := by rfl) (hs : ∀ x, foldedSetIterable iter X.env x = pure x := by intro _; rfl) :
    PSd X W (.Assign [.Name y py] (.ListComp elt [⟨tg, iter, ifs, 0⟩] scope pos) spos) (wAsg i (wLc wi g wt we (own.map (·.2)))) :=
  PS.imp (PS.imp (ps_setLc hc hN hy hyl hsw hi ok hg ht he hs) fun D σ H z => l_lc σ H _ z) l_asg
/-- == where an error is handled -/
theorem e_eqU {X : Cx} {W : WX} {a b : Expr} {wa wb : WE} {pos : Pos} (hu : X.A.units + 64 < cLine) (ha : PEd X W a wa) (hb : PEd X W b wb) : PEd X W (.Compare a [.Eq] [b] pos) (wOp (wEq false) wa wb) := PE.imp (pe_cmpR (op_eqD hu) ha hb (nomark _)) (l_op ok_eq)
theorem e_neU {X : Cx} {W : WX} {a b : Expr} {wa wb : WE} {pos : Pos} (hu : X.A.units + 64 < cLine) (ha : PEd X W a wa) (hb : PEd X W b wb) : PEd X W (.Compare a [.NotEq] [b] pos) (wOp (wEq true) wa wb) := PE.imp (pe_cmpR (op_neD hu) ha hb (nomark _)) (l_op ok_ne)
/-- a block's own names, told by one computation -/
def blkB (N : List Str) (sc scope : Scope) (own : List (Str × Nat)) : Bool :=
  (decide (scope.kind = .function) && scope.names.all fun y => decide (scope.names.lookup y.1 = some y.2)) && ((own.all fun p => decide (N[p.2]? = some p.1)) &&
    ((scope.names.all fun y => decide (y.2 = .free → sc.names.lookup y.1 = some .cell ∨ sc.names.lookup y.1 = some .free)) && scope.names.all fun y => decide (y.2 = .local ∨ y.2 = .cell → y.1 ∈ own.map (·.1) ∨ y.1 ∉ N)))
theorem blk_ok {N : List Str} {sc scope : Scope} {own : List (Str × Nat)} (h : blkB N sc scope own = true) : BlkOk N sc scope own := by
  unfold blkB at h
  simp only [List.all_eq_true, Bool.and_eq_true, decide_eq_true_eq] at h
  obtain ⟨⟨h1, h2⟩, h3, h4, h5⟩ := h
  exact ⟨h1, h2, h3, h4, h5⟩
def wNeg : D → (D → Prop) → Prop := fun x Φ => match x with
  | .int i => Φ (.int (-i))
  | _ => False
theorem ok_neg {K : Fg} : UnOk K (rU fun i => .int (-i)) wNeg := by
  intro S F H ρ σ x dx Φ Q e ix hw hp
  cases ix with
  | int i => exact ⟨i, rfl, hp _ _ S H hw (Same.refl S) (.int _) e⟩
  | _ => exact hw.elim
theorem lE_mono {K : Fg} {W : WX} {w : WE} {σ : L2.St} {H : Hp} {Q Q' : VK} (h : lE K W w σ H Q) (m : ∀ v H', Q v H' → Q' v H') : lE K W w σ H Q' := by
  obtain ⟨ρ, S, F, χ, Φ, e, hw, hx, hp⟩ := h
  exact ⟨ρ, S, F, χ, Φ, e, hw, hx, fun v d ρ' S' H' a b c d' => m v H' (hp v d ρ' S' H' a b c d')⟩
section
variable {X : Cx} {W : WX} {a e o : Expr} {es : List Expr} {wa wb wr : WE} {wl : WL} {pos cpos apos c1 c2 c3 : Pos} {c y z : Str} {j j1 j2 j3 : Nat} {n : Int}
theorem e_neg (ha : PEd X W a wa) : PEd X W (.UnaryOp .USub a pos) (wUn wNeg wa) := PE.imp (pe_un un_neg ha) (l_un ok_neg)
abbrev PETd (X : Cx) (W : WX) (e : Expr) (w : WE) : Prop := PET X e (lE X.K W w)
abbrev PATd (X : Cx) (W : WX) (es : List Expr) (w : WL) : Prop := PAT X es (lL X.K W w)
theorem at_nil : PATd X W [] wNil := fun pos pins s σ H Q h0 I h => pat_nil pos pins s σ H Q h0 I (l_nil σ H Q h)
theorem at_cons (ha : PETd X W e wa) (hr : PATd X W es wl) (hs : starEach (e :: es) X.env = (false, eval e X.env) :: starEach es X.env := by rfl) : PATd X W (e :: es) (wCons wa wl) := fun pos pins s σ H Q h0 I h => pat_cons ha hr hs pos pins s σ H Q h0 I (l_cons σ H Q h)
theorem a_first (ha : PEd X W a wa) (hr : PATd X W es wl) (hs : starEach (.BinOp a .Add (.Constant (.str c) j cpos) pos :: es) X.env = (false, eval (.BinOp a .Add (.Constant (.str c) j cpos) pos) X.env) :: starEach es X.env := by rfl) :
    PAd X W (.BinOp a .Add (.Constant (.str c) j cpos) pos :: es) (wCons (wOp wAdd wa (wC (.str c))) wl) := by
  have h1 : PE1 X (.BinOp a .Add (.Constant (.str c) j cpos) pos) (lE X.K W (wOp wAdd wa (wC (.str c)))) := fun pins s σ H Q I h => by
    have h2 := l_op (K := X.K) (W := W) ok_add σ H Q h
    exact pe1_bin (c := c) or_add (ta := lE X.K W wa) ha pins s σ H Q I (lE_mono h2 fun v H' q => l_c (W := W) (fun _ => .str c) σ H' _ q)
  exact PA.imp (pa_cons1 h1 hr hs) l_cons
theorem t_rep (ho : PEd X W o wa) (he : PEd X W e wb) (hn : (decide (n < -(2 ^ 63 : Int)) || decide (n ≥ 2 ^ 63)) = false := by decide) (hyz : (y == z) = false := by decide) (hbase : attributeBase o "replace" X.env (eval o X.env) = eval o X.env := by rfl)
    (hfew : ((backTo cpos (starEach [.Constant (.str y) j1 c1, .Constant (.str z) j2 c2, .Constant (.int n) j3 c3] X.env)).all (fun x => !x.1) && (backToKw cpos (keywordEach [] X.env)).all (fun x => x.1.isSome)
      && decide ([.Constant (.str y) j1 c1, .Constant (.str z) j2 c2, Expr.Constant (.int n) j3 c3].length + ([] : List Keyword).length + (if ([] : List Keyword).isEmpty then 0 else 1) < 30)) = true := by rfl)
    (hline : (apos.endLine == cpos.line) = true := by rfl) :
    PETd X W (.BinOp (.Call (.Attribute o "replace" apos) [.Constant (.str y) j1 c1, .Constant (.str z) j2 c2, .Constant (.int n) j3 c3] [] cpos) .Add e pos) (wOp wAdd (wRepN y z n wa) wb) := fun pins s σ H Q h0 I h =>
  pet_op or_add (ta := lE X.K W (wRepN y z n wa)) (fun pins s σ H Q h0 I h => pet_repN ho hn hyz hbase hfew hline pins s σ H Q h0 I (l_repN σ H Q h)) he pins s σ H Q h0 I (l_op ok_add σ H Q h)
theorem passes_none : Passes (L2.CX X.prog X.w) X (fun _ _ _ => False) := fun _ _ _ _ _ _ _ ⟨_, _, _, _, _, _, _, _, _, _, _, _, z⟩ => z.elim
end
end DL
set_option Elab.async false
set_option autoImplicit false
set_option linter.all false
set_option maxRecDepth 100000
set_option maxHeartbeats 3900000
namespace K04
open DL L2 PyProof.Rows PySem PySem.Spec
def top (i : Nat) : Stmt := PySem.Challenge.pw_agedcopy_k04_texts_of_machines_and_logs.main.body.getD i (.Pass ⟨0, 0, 0, 0⟩)
structure Cs where
  AgeError : Addr
  BadMachine : Addr
  BadLog : Addr
  BadText : Addr
  Machine : Addr
  fi_BadMachine : Addr
  fd_BadMachine : FuncData
  fi_BadLog : Addr
  fd_BadLog : FuncData
  fi_BadText : Addr
  fd_BadText : FuncData
  f_is_integer : Addr
  d_is_integer : FuncData
  f_is_below : Addr
  d_is_below : FuncData
  f_is_sequence : Addr
  d_is_sequence : FuncData
  f_fault_place : Addr
  d_fault_place : FuncData
  f_is_table : Addr
  d_is_table : FuncData
  f_check_tables : Addr
  d_check_tables : FuncData
  f_Machine_init : Addr
  d_Machine_init : FuncData
  f_Machine_eq : Addr
  d_Machine_eq : FuncData
  f_log_fault : Addr
  d_log_fault : FuncData
  f_check_log : Addr
  d_check_log : FuncData
  f_numbers_text : Addr
  d_numbers_text : FuncData
  f_numbers_by_word : Addr
  d_numbers_by_word : FuncData
  f_machine_text : Addr
  d_machine_text : FuncData
  f_told_states : Addr
  d_told_states : FuncData
  f_told_table : Addr
  d_told_table : FuncData
  f_read_machine : Addr
  d_read_machine : FuncData
  f_log_text : Addr
  d_log_text : FuncData
  f_read_log : Addr
  d_read_log : FuncData
  f_law_box : Addr
  d_law_box : FuncData
  f_law_take : Addr
  d_law_take : FuncData
  f_law_pick : Addr
  d_law_pick : FuncData
  f_law_tables : Addr
  d_law_tables : FuncData
  f_law_log : Addr
  d_law_log : FuncData
  f_law_reads : Addr
  d_law_reads : FuncData
  f_law_reads_log : Addr
  d_law_reads_log : FuncData
  f_law_machine_right : Addr
  d_law_machine_right : FuncData
  f_law_log_right : Addr
  d_law_log_right : FuncData
  f_law : Addr
  d_law : FuncData
  t_MOST_TABLES : Tok
  t_MOST_STATES : Tok
  t_MOST_DEEDS : Tok
/-- what the top has left -/
structure Txt (P : Program) (w : World) (K : Fg) (mg : Str → Option Value) (base : Heap) (C : Cs) : Prop where
  b_abs : mg "abs" = none
  b_bool : mg "bool" = none
  b_enumerate : mg "enumerate" = none
  b_int : mg "int" = none
  b_isinstance : mg "isinstance" = none
  b_len : mg "len" = none
  b_list : mg "list" = none
  b_max : mg "max" = none
  b_min : mg "min" = none
  b_range : mg "range" = none
  b_repr : mg "repr" = none
  b_str : mg "str" = none
  b_tuple : mg "tuple" = none
  MOST_TABLES : mg "MOST_TABLES" = some (.int 8 C.t_MOST_TABLES)
  MOST_STATES : mg "MOST_STATES" = some (.int 12 C.t_MOST_STATES)
  MOST_DEEDS : mg "MOST_DEEDS" = some (.int 10000 C.t_MOST_DEEDS)
  AgeError : mg "AgeError" = some (.ref C.AgeError)
  BadMachine : mg "BadMachine" = some (.ref C.BadMachine)
  BadLog : mg "BadLog" = some (.ref C.BadLog)
  BadText : mg "BadText" = some (.ref C.BadText)
  Machine : mg "Machine" = some (.ref C.Machine)
  cl_Machine : Cls K C.Machine
  ic_Machine : InsC K C.Machine
  mk_Machine : Mk K C.Machine C.f_Machine_init
  eq_Machine : EqC K C.Machine C.f_Machine_eq
  na_Machine_tables : NoAttr K C.Machine "tables"
  na_Machine_deeds : NoAttr K C.Machine "deeds"
  na_Machine_states : NoAttr K C.Machine "states"
  er_BadMachine : ErrC K C.BadMachine C.fi_BadMachine "at"
  in_BadMachine : ∀ k, FnOk P w K mg base (L2.CX P w) (k + 1) C.fi_BadMachine C.fd_BadMachine ["self", "at"] (spIni K "at")
  bi_BadMachine : Binds K C.fd_BadMachine ["self", "at"] []
  xf_BadMachine : XfC K C.BadMachine
  no_BadMachine : PySem.W.findIn K (.ref C.BadMachine) "at" = some none
  ec_BadMachine : ExcC K C.BadMachine
  er_BadLog : ErrC K C.BadLog C.fi_BadLog "at"
  in_BadLog : ∀ k, FnOk P w K mg base (L2.CX P w) (k + 1) C.fi_BadLog C.fd_BadLog ["self", "at"] (spIni K "at")
  bi_BadLog : Binds K C.fd_BadLog ["self", "at"] []
  xf_BadLog : XfC K C.BadLog
  no_BadLog : PySem.W.findIn K (.ref C.BadLog) "at" = some none
  ec_BadLog : ExcC K C.BadLog
  er_BadText : ErrC K C.BadText C.fi_BadText "at"
  in_BadText : ∀ k, FnOk P w K mg base (L2.CX P w) (k + 1) C.fi_BadText C.fd_BadText ["self", "at"] (spIni K "at")
  bi_BadText : Binds K C.fd_BadText ["self", "at"] []
  xf_BadText : XfC K C.BadText
  no_BadText : PySem.W.findIn K (.ref C.BadText) "at" = some none
  ec_BadText : ExcC K C.BadText
def pm_0 : {α : Type} → List α → List α → List α := fun _ zs => match zs with
  | [x0] => [x0]
  | zs => zs
theorem gr_0 : GRel 0 1 1 (@pm_0 V) (@pm_0 D) := fun K S vs ds us es i1 i2 h1 h2 => by
  match us, es, i2, h2 with
  | [x0], _, .cons r0 (.nil), _ => exact ⟨.cons r0 (.nil), rfl⟩
def pm_10 : {α : Type} → List α → List α → List α := fun _ zs => match zs with
  | [x0, x1] => [x1, x0]
  | zs => zs
theorem gr_10 : GRel 0 2 2 (@pm_10 V) (@pm_10 D) := fun K S vs ds us es i1 i2 h1 h2 => by
  match us, es, i2, h2 with
  | [x0, x1], _, .cons r0 (.cons r1 (.nil)), _ => exact ⟨.cons r1 (.cons r0 (.nil)), rfl⟩
theorem sc_is_integer : FnScope ["value"] ["value"] (defScope (top 6)) := ⟨rfl, rfl, rfl, by decide +kernel, rfl, by decide +kernel, by decide +kernel⟩
theorem sc_is_below : FnScope ["value", "many"] ["value", "many"] (defScope (top 7)) := ⟨rfl, rfl, rfl, by decide +kernel, rfl, by decide +kernel, by decide +kernel⟩
theorem sc_is_sequence : FnScope ["value"] ["value"] (defScope (top 8)) := ⟨rfl, rfl, rfl, by decide +kernel, rfl, by decide +kernel, by decide +kernel⟩
theorem sc_fault_place : FnScope ["value", "many", "at", "item"] ["value", "many"] (defScope (top 9)) := ⟨rfl, rfl, rfl, by decide +kernel, rfl, by decide +kernel, by decide +kernel⟩
theorem sc_is_table : FnScope ["value"] ["value"] (defScope (top 14)) := ⟨rfl, rfl, rfl, by decide +kernel, rfl, by decide +kernel, by decide +kernel⟩
theorem sc_check_tables : FnScope ["value", "at", "table"] ["value"] (defScope (top 15)) := ⟨rfl, rfl, rfl, by decide +kernel, rfl, by decide +kernel, by decide +kernel⟩
theorem sc_Machine_init : FnScope ["self", "tables"] ["self", "tables"] (defScope (inClass (top 16) 0)) := ⟨rfl, rfl, rfl, by decide +kernel, rfl, by decide +kernel, by decide +kernel⟩
theorem sc_Machine_eq : FnScope ["self", "other"] ["self", "other"] (defScope (inClass (top 16) 1)) := ⟨rfl, rfl, rfl, by decide +kernel, rfl, by decide +kernel, by decide +kernel⟩
theorem sc_log_fault : FnScope ["machine", "value"] ["machine", "value"] (defScope (top 17)) := ⟨rfl, rfl, rfl, by decide +kernel, rfl, by decide +kernel, by decide +kernel⟩
theorem sc_check_log : FnScope ["machine", "value", "at"] ["machine", "value"] (defScope (top 18)) := ⟨rfl, rfl, rfl, by decide +kernel, rfl, by decide +kernel, by decide +kernel⟩
theorem sc_numbers_text : FnScope ["numbers", "number"] ["numbers"] (defScope (top 20)) := ⟨rfl, rfl, rfl, by decide +kernel, rfl, by decide +kernel, by decide +kernel⟩
theorem sc_numbers_by_word : FnScope ["many", "number"] ["many"] (defScope (top 21)) := ⟨rfl, rfl, rfl, by decide +kernel, rfl, by decide +kernel, by decide +kernel⟩
theorem sc_machine_text : FnScope ["machine", "lines", "table"] ["machine"] (defScope (top 22)) := ⟨rfl, rfl, rfl, by decide +kernel, rfl, by decide +kernel, by decide +kernel⟩
theorem sc_told_states : FnScope ["line", "numbers", "words"] ["line"] (defScope (top 23)) := ⟨rfl, rfl, rfl, by decide +kernel, rfl, by decide +kernel, by decide +kernel⟩
theorem sc_told_table : FnScope ["line", "states", "numbers", "words", "word"] ["line", "states"] (defScope (top 24)) := ⟨rfl, rfl, rfl, by decide +kernel, rfl, by decide +kernel, by decide +kernel⟩
theorem sc_read_machine : FnScope ["text", "lines", "states", "tables", "at", "line", "table"] ["text"] (defScope (top 25)) := ⟨rfl, rfl, rfl, by decide +kernel, rfl, by decide +kernel, by decide +kernel⟩
theorem sc_log_text : FnScope ["machine", "log"] ["machine", "log"] (defScope (top 26)) := ⟨rfl, rfl, rfl, by decide +kernel, rfl, by decide +kernel, by decide +kernel⟩
theorem sc_read_log : FnScope ["machine", "text", "numbers", "deeds", "at", "word"] ["machine", "text"] (defScope (top 27)) := ⟨rfl, rfl, rfl, by decide +kernel, rfl, by decide +kernel, by decide +kernel⟩
theorem sc_law_box : FnScope ["script", "k", "cell"] ["script", "k"] (defScope (top 29)) := ⟨rfl, rfl, rfl, by decide +kernel, rfl, by decide +kernel, by decide +kernel⟩
theorem sc_law_take : FnScope ["box", "many", "digit", "raw"] ["box", "many"] (defScope (top 30)) := ⟨rfl, rfl, rfl, by decide +kernel, rfl, by decide +kernel, by decide +kernel⟩
theorem sc_law_pick : FnScope ["box", "some"] ["box", "some"] (defScope (top 31)) := ⟨rfl, rfl, rfl, by decide +kernel, rfl, by decide +kernel, by decide +kernel⟩
theorem sc_law_tables : FnScope ["box", "sizes", "kinds", "many", "found", "deed", "style", "by", "table", "state"] ["box", "sizes", "kinds"] (defScope (top 32)) := ⟨rfl, rfl, rfl, by decide +kernel, rfl, by decide +kernel, by decide +kernel⟩
theorem sc_law_log : FnScope ["box", "tables", "most", "deed"] ["box", "tables", "most"] (defScope (top 33)) := ⟨rfl, rfl, rfl, by decide +kernel, rfl, by decide +kernel, by decide +kernel⟩
theorem sc_law_reads : FnScope ["text", "e"] ["text"] (defScope (top 34)) := ⟨rfl, rfl, rfl, by decide +kernel, rfl, by decide +kernel, by decide +kernel⟩
theorem sc_law_reads_log : FnScope ["machine", "text", "e"] ["machine", "text"] (defScope (top 35)) := ⟨rfl, rfl, rfl, by decide +kernel, rfl, by decide +kernel, by decide +kernel⟩
theorem sc_law_machine_right : FnScope ["box", "tables", "machine", "many", "lines", "text", "at", "line", "words", "some", "table", "state", "odd", "value"] ["box", "tables"] (defScope (top 36)) := ⟨rfl, rfl, rfl, by decide +kernel, rfl, by decide +kernel, by decide +kernel⟩
theorem sc_law_log_right : FnScope ["box", "tables", "machine", "many", "log", "words", "text", "at", "odd", "e", "deed", "value"] ["box", "tables"] (defScope (top 37)) := ⟨rfl, rfl, rfl, by decide +kernel, rfl, by decide +kernel, by decide +kernel⟩
theorem sc_law : FnScope ["script", "k", "box", "tables"] ["script"] (defScope (top 38)) := ⟨rfl, rfl, rfl, by decide +kernel, rfl, by decide +kernel, by decide +kernel⟩
/-! ### what each def means -/
def tyN : D → Option String
  | .non => some "NoneType" | .bl _ => some "bool" | .int _ => some "int" | .str _ => some "str" | .lst _ => some "list" | .tup _ => some "tuple" | _ => none
def isI : D → Bool
  | .int _ => true | _ => false
def seqD : D → Option (List D)
  | .lst ds => some ds | .tup ds => some ds | _ => none
def belowD (x : D) (m : Int) : Bool := match x with
  | .int v => decide (0 ≤ v) && decide (v < m)
  | _ => false
def faultD (m : Int) : List D → Nat → D
  | [], _ => .non
  | x :: xs, i => if belowD x m = true then faultD m xs (i + 1) else .int i
def plain (x : D) : Prop := (tyN x).isSome = true
def sp_is_integer (_ : Cs) : Spc := fun h ds Ψ _ => h = none ∧ ∃ x, ds = [x] ∧ plain x ∧ Ψ (.bl (isI x)) none
def sp_is_below (_ : Cs) : Spc := fun h ds Ψ _ => h = none ∧ ∃ x m, ds = [x, .int m] ∧ plain x ∧ Ψ (.bl (belowD x m)) none
def sp_is_sequence (_ : Cs) : Spc := fun h ds Ψ _ => h = none ∧ ∃ x, ds = [x] ∧ plain x ∧ Ψ (.bl (seqD x).isSome) none
def sp_fault_place (_ : Cs) : Spc := fun h ds Ψ _ => h = none ∧ ∃ x xs m, ds = [x, .int m] ∧ seqD x = some xs ∧ (∀ y ∈ xs, plain y) ∧ Ψ (faultD m xs 0) none
def isNo : D → Bool
  | .non => true | _ => false
def isTab (x : D) : Bool := match seqD x with
  | some xs => decide (1 ≤ xs.length) && decide (xs.length ≤ 12) && isNo (faultD xs.length xs 0)
  | none => false
/-- a value all of whose items, if it has items, are plain -/
def plain2 (x : D) : Prop := plain x ∧ ∀ xs, seqD x = some xs → ∀ y ∈ xs, plain y
def plain3 (x : D) : Prop := plain x ∧ ∀ xs, seqD x = some xs → ∀ y ∈ xs, plain2 y
def sp_is_table (_ : Cs) : Spc := fun h ds Ψ _ => h = none ∧ ∃ x, ds = [x] ∧ plain2 x ∧ Ψ (.bl (isTab x)) none
def tupD (x : D) : D := .tup ((seqD x).getD [])
def lenD (x : D) : Nat := ((seqD x).getD []).length
/-- the first table that is none, or is of another length than the first -/
def tabsFault (n : Nat) : List D → Nat → Option Nat
  | [], _ => none
  | x :: xs, i => if (isTab x && decide (lenD x = n)) = true then tabsFault n xs (i + 1) else some i
def chkTabs (x : D) : Except Int (List D) := match seqD x with
  | some (y :: ys) => if (y :: ys).length ≤ 8 then (match tabsFault (lenD y) (y :: ys) 0 with | none => .ok ((y :: ys).map tupD) | some i => .error i) else .error (-1)
  | _ => .error (-1)
def sp_check_tables (C : Cs) : Spc := fun h ds Ψ Ξ => h = none ∧ ∃ x, ds = [x] ∧ plain3 x ∧ match chkTabs x with
  | .ok rs => Ψ (.tup rs) none
  | .error i => Ξ C.BadMachine "at" (.int i)
def machO (C : Cs) (rs : List D) : OD := .i C.Machine ["tables", "deeds", "states"] [.tup rs, .int rs.length, .int (lenD (rs.headD .non))]
def sp_Machine_init (C : Cs) : Spc := fun h ds Ψ Ξ => h = some (.i C.Machine [] []) ∧ ∃ x, ds = [x] ∧ plain3 x ∧ match chkTabs x with
  | .ok rs => Ψ .non (some (machO C rs))
  | .error i => Ξ C.BadMachine "at" (.int i)
/-- tables of numbers -/
abbrev Tb := List (List Nat)
def rowD (r : List Nat) : D := .tup (r.map fun n => .int (n : Nat))
def mach (C : Cs) (t : Tb) : D := (machO C (t.map rowD)).d
structure Good (t : Tb) : Prop where
  ne : t ≠ []
  le : t.length ≤ 8
  row : ∀ r ∈ t, 1 ≤ r.length ∧ r.length ≤ 12 ∧ r.length = (t.headD []).length ∧ ∀ n ∈ r, n < r.length
def sp_Machine_eq (C : Cs) : Spc := fun h ds Ψ _ => h = none ∧ ∃ t, Good t ∧ ds = [mach C t, mach C t] ∧ Ψ (.bl true) none
def logF (n : Nat) (x : D) : D := match seqD x with
  | some xs => if xs.length ≤ 10000 then faultD n xs 0 else .int (-1)
  | none => .int (-1)
def sp_log_fault (C : Cs) : Spc := fun h ds Ψ _ => h = none ∧ ∃ t x, ds = [mach C t, x] ∧ plain2 x ∧ Ψ (logF t.length x) none
def sp_check_log (C : Cs) : Spc := fun h ds Ψ Ξ => h = none ∧ ∃ t x, ds = [mach C t, x] ∧ plain2 x ∧ match logF t.length x with
  | .int i => Ξ C.BadLog "at" (.int i)
  | _ => Ψ (tupD x) none
def dig (n : Nat) : Str := ((toString (n : Int) : String) : Str)
def numT (ns : List Nat) : Str := Txt.join " " (ns.map dig)
def numsD (ns : List Nat) : List D := ns.map fun n => .int (n : Nat)
def sp_numbers_text (_ : Cs) : Spc := fun h ds Ψ _ => h = none ∧ ∃ x ns, ds = [x] ∧ seqD x = some (numsD ns) ∧ (∀ n ∈ ns, n < 100) ∧ ns.length ≤ 10000 ∧ Ψ (.str (numT ns)) none
def wordsD (m : Nat) : D := .dic ((List.range m).map fun n => (.inr (dig n) : Key)) (numsD (List.range m))
def sp_numbers_by_word (_ : Cs) : Spc := fun h ds Ψ _ => h = none ∧ ∃ m : Nat, ds = [.int m] ∧ m ≤ 100 ∧ Ψ (wordsD m) none
def machT (t : Tb) : Str := Txt.join "\n" (("states " ++ dig (t.headD []).length) :: t.map numT)
def sp_machine_text (C : Cs) : Spc := fun h ds Ψ _ => h = none ∧ ∃ t, Good t ∧ ds = [mach C t] ∧ Ψ (.str (machT t)) none
/-- a text of signs that are signs, not too long -/
def okS (s : Str) : Prop := s.length ≤ 1000000 ∧ ∀ c ∈ s.cps, c < 1114112
/-- the number below m that a word tells -/
def numW (m : Nat) (w : Str) : Option Nat := (List.range m).find? fun n => decide (dig n = w)
def toldS (line : Str) : Option Nat := match Txt.split line " " with
  | [a, b] => if a = "states" then (match numW 13 b with | some n => if n = 0 then none else some n | none => none) else none
  | _ => none
def sp_told_states (C : Cs) : Spc := fun h ds Ψ Ξ => h = none ∧ ∃ s : Str, ds = [.str s] ∧ okS s ∧ match toldS s with
  | some n => Ψ (.int (n : Nat)) none
  | none => Ξ C.BadText "at" (.int 1)
def numsW (m : Nat) : List Str → Option (List Nat)
  | [] => some []
  | w :: ws => match numW m w, numsW m ws with
    | some n, some ns => some (n :: ns)
    | _, _ => none
def toldT (m : Nat) (line : Str) : Option (List Nat) := if (Txt.split line " ").length = m then numsW m (Txt.split line " ") else none
def sp_told_table (_ : Cs) : Spc := fun h ds Ψ _ => h = none ∧ ∃ (s : Str) (m : Nat), ds = [.str s, .int m] ∧ okS s ∧ m ≤ 12 ∧ Ψ (match toldT m s with | some r => rowD r | none => .non) none
def readRows (m : Nat) : List Str → Nat → Except Int Tb
  | [], _ => .ok []
  | l :: ls, i => match toldT m l with
    | some r => if i = 8 then .error (i + 2) else (match readRows m ls (i + 1) with | .ok rs => .ok (r :: rs) | .error e => .error e)
    | none => .error (i + 2)
def readT (s : Str) : Except Int Tb := match Txt.split s "\n" with
  | [] => .error 1
  | l :: ls => match toldS l with
    | none => .error 1
    | some m => if ls = [] then .error 2 else readRows m ls 0
def readM : D → Except Int Tb
  | .str s => readT s
  | _ => .error 0
def short : D → Prop
  | .str s => okS s
  | _ => True
def sp_read_machine (C : Cs) : Spc := fun h ds Ψ Ξ => h = none ∧ ∃ x, ds = [x] ∧ plain x ∧ short x ∧ match readM x with
  | .ok t => Ψ (mach C t) none
  | .error i => Ξ C.BadText "at" (.int i)
def logT (ns : List Nat) : Str := if ns = [] then "-" else numT ns
def sp_log_text (C : Cs) : Spc := fun h ds Ψ Ξ => h = none ∧ ∃ t x, Good t ∧ ds = [mach C t, x] ∧ ((∃ ns, seqD x = some (numsD ns) ∧ (∀ n ∈ ns, n < t.length) ∧ ns.length ≤ 1000 ∧ Ψ (.str (logT ns)) none) ∨ ∃ i, plain2 x ∧ logF t.length x = .int i ∧ Ξ C.BadLog "at" (.int i))
def readWs (m : Nat) : List Str → Nat → Except Int (List Nat)
  | [], _ => .ok []
  | w :: ws, i => match numW m w with
    | some n => if i = 10000 then .error i else (match readWs m ws (i + 1) with | .ok ns => .ok (n :: ns) | .error e => .error e)
    | none => .error i
def readL (m : Nat) : D → Except Int (List Nat)
  | .str s => if s = "-" then .ok [] else readWs m (Txt.split s " ") 0
  | _ => .error 0
def sp_read_log (C : Cs) : Spc := fun h ds Ψ Ξ => h = none ∧ ∃ t x, Good t ∧ ds = [mach C t, x] ∧ plain x ∧ short x ∧ match readL t.length x with
  | .ok ns => Ψ (rowD ns) none
  | .error i => Ξ C.BadText "at" (.int i)
/-! the law's own -/
def GoodB (o : OD) : Prop := ∃ a b c : Int, 0 ≤ a ∧ o = .l [.int a, .int b, .int c]
def so_law_box (_ : Cs) : SpcO := fun ds Ψ => ∃ ns k, ds = [.scr ns, .int k] ∧ 0 ≤ k ∧ k < 1000 ∧ ns.length < 1000 ∧ ∀ o, GoodB o → Ψ o
def sp_law_take (_ : Cs) : Spc := fun h ds Ψ _ => ∃ o m, h = some o ∧ GoodB o ∧ ds = [.int m] ∧ 0 < m ∧ m < 1000000 ∧ ∀ d o', 0 ≤ d → d < m → GoodB o' → Ψ (.int d) (some o')
def sp_law_pick (_ : Cs) : Spc := fun h ds Ψ _ => ∃ o xs, h = some o ∧ GoodB o ∧ ds = [.lst xs] ∧ xs ≠ [] ∧ xs.length < 1000000 ∧ ∀ d o', d ∈ xs → GoodB o' → Ψ d (some o')
def tbsD (t : Tb) : D := .lst (t.map rowD)
def sp_law_tables (_ : Cs) : Spc := fun h ds Ψ _ => ∃ o, h = some o ∧ GoodB o ∧ ds = [.lst [.int 1, .int 2, .int 3, .int 4, .int 5], .lst [.int 1, .int 2, .int 3, .int 4]] ∧ ∀ t o', Good t → GoodB o' → Ψ (tbsD t) (some o')
def sp_law_log (_ : Cs) : Spc := fun h ds Ψ _ => ∃ o t, h = some o ∧ GoodB o ∧ Good t ∧ ds = [tbsD t, .int 7] ∧ ∀ ns o', (∀ n ∈ ns, n < t.length) → ns.length ≤ 7 → GoodB o' → Ψ (rowD ns) (some o')
def saidE (i : Int) : D := .tup [.str "text", .int i, .bl true]
def sp_law_reads (C : Cs) : Spc := fun h ds Ψ _ => h = none ∧ ∃ x, ds = [x] ∧ plain x ∧ short x ∧ Ψ (match readM x with | .ok t => mach C t | .error i => saidE i) none
def sp_law_reads_log (C : Cs) : Spc := fun h ds Ψ _ => h = none ∧ ∃ t x, Good t ∧ ds = [mach C t, x] ∧ plain x ∧ short x ∧ Ψ (match readL t.length x with | .ok ns => rowD ns | .error i => saidE i) none
def sp_law_machine_right (_ : Cs) : Spc := fun h ds Ψ _ => ∃ o t, h = some o ∧ GoodB o ∧ Good t ∧ ds = [tbsD t] ∧ ∀ o', GoodB o' → Ψ (.bl true) (some o')
def sp_law_log_right (_ : Cs) : Spc := fun h ds Ψ _ => ∃ o t, h = some o ∧ GoodB o ∧ Good t ∧ ds = [tbsD t] ∧ ∀ o', GoodB o' → Ψ (.bl true) (some o')
def sp_law (_ : Cs) : Spc := spLaw fun ns => ns.length ≤ 63
section
variable {P : Program} {w : World} {K : Fg} {mg : Str → Option Value} {base : Heap} {C : Cs}
abbrev x_is_integer (K : Fg) (C : Cs) : WS := (wRet (wAndV (wCB (wIsI K) (wCons (wVar 0) (wCons (wC (.raw (.ty "int"))) wNil))) (wNotV (wCB (wIsI K) (wCons (wVar 0) (wCons (wC (.raw (.ty "bool"))) wNil))))))
theorem dv_is_integer (T : Txt P w K mg base C)  (cdv : Value) (A : Around) (outer : List Env) (s : Shared) (H : Hp) (E : XK) (c : Cok (cxOf (L2.CX P w) P w K mg base ["value"] "is_integer" (defScope (top 6)) C.f_is_integer cdv A outer s H E) (wishOf E) 1) :
    PSs (cxOf (L2.CX P w) P w K mg base ["value"] "is_integer" (defScope (top 6)) C.f_is_integer cdv A outer s H E) (defBody (top 6)) (lS K (wishOf E) (x_is_integer K C)) :=
  (s_one (s_ret (e_and (e_blt call_isi ok_isI T.b_isinstance PyProof.Rows.Boot.isinstance (a_cons (e_var (i := 0)) (a_cons (e_ty T.b_int PyProof.Rows.Boot.int) a_nil))) (e_and1 (e_not (e_blt call_isi ok_isI T.b_isinstance PyProof.Rows.Boot.isinstance (a_cons (e_var (i := 0)) (a_cons (e_ty T.b_bool PyProof.Rows.Boot.bool) a_nil))))))))
abbrev x_is_below (K : Fg) (C : Cs) : WS := (wRet (wAndV (wCallA 1 0 (sp_is_integer C) (fun ds _ => ds) (wCons (wVar 0) wNil) wNil) (wChain wLe wLt (wC (.int 0)) (wVar 0) (wVar 1))))
theorem dv_is_below (T : Txt P w K mg base C) (G_is_integer : FnG P w K mg base 2 C.f_is_integer C.d_is_integer ["value"] (lSp K 1 (sp_is_integer C))) (U_is_integer : Dn K mg "is_integer" C.f_is_integer C.d_is_integer ["value"] 1) (cdv : Value) (A : Around) (outer : List Env) (s : Shared) (H : Hp) (E : XK) (c : Cok (cxOf (L2.CX P w) P w K mg base ["value", "many"] "is_below" (defScope (top 7)) C.f_is_below cdv A outer s H E) (wishOf E) 2) :
    PSs (cxOf (L2.CX P w) P w K mg base ["value", "many"] "is_below" (defScope (top 7)) C.f_is_below cdv A outer s H E) (defBody (top 7)) (lS K (wishOf E) (x_is_below K C)) :=
  (s_one (s_ret (e_and (e_call c G_is_integer U_is_integer (a_cons (e_var (i := 0)) a_nil)) (e_and1 (e_leLt e_int (e_var (i := 0)) (e_var (i := 1)))))))
abbrev x_is_sequence (K : Fg) (C : Cs) : WS := (wRet (wCB (wIsT K) (wCons (wVar 0) (wCons (wTup (wCons (wC (.raw (.ty "list"))) (wCons (wC (.raw (.ty "tuple"))) wNil))) wNil))))
theorem dv_is_sequence (T : Txt P w K mg base C)  (cdv : Value) (A : Around) (outer : List Env) (s : Shared) (H : Hp) (E : XK) (c : Cok (cxOf (L2.CX P w) P w K mg base ["value"] "is_sequence" (defScope (top 8)) C.f_is_sequence cdv A outer s H E) (wishOf E) 1) :
    PSs (cxOf (L2.CX P w) P w K mg base ["value"] "is_sequence" (defScope (top 8)) C.f_is_sequence cdv A outer s H E) (defBody (top 8)) (lS K (wishOf E) (x_is_sequence K C)) :=
  (s_one (s_ret (e_blt call_isiT ok_isT T.b_isinstance PyProof.Rows.Boot.isinstance (a_cons (e_var (i := 0)) (a_cons (e_tup (a_cons (e_ty T.b_list PyProof.Rows.Boot.list) (a_cons (e_ty T.b_tuple PyProof.Rows.Boot.tuple) a_nil))) a_nil)))))
abbrev x_fault_place (K : Fg) (C : Cs) : WS := (wSeq (wFor (wiEnum (wCons (wVar 0) wNil)) (wgTup 2 (wgCons (wgName 2) (wgCons (wgName 3) wgNil))) (wIfS (wNot (wB (wCallA 2 0 (sp_is_below C) (fun ds _ => ds) (wCons (wVar 3) (wCons (wVar 1) wNil)) wNil))) (wRet (wVar 2)) wNext)) (wRet (wC .non)))
theorem dv_fault_place (T : Txt P w K mg base C) (G_is_below : FnG P w K mg base 3 C.f_is_below C.d_is_below ["value", "many"] (lSp K 2 (sp_is_below C))) (U_is_below : Dn K mg "is_below" C.f_is_below C.d_is_below ["value", "many"] 2) (cdv : Value) (A : Around) (outer : List Env) (s : Shared) (H : Hp) (E : XK) (c : Cok (cxOf (L2.CX P w) P w K mg base ["value", "many", "at", "item"] "fault_place" (defScope (top 9)) C.f_fault_place cdv A outer s H E) (wishOf E) 3) :
    PSs (cxOf (L2.CX P w) P w K mg base ["value", "many", "at", "item"] "fault_place" (defScope (top 9)) C.f_fault_place cdv A outer s H E) (defBody (top 9)) (lS K (wishOf E) (x_fault_place K C)) :=
  (s_cons (s_for (passes_of rfl) rfl (d_enum rfl T.b_enumerate (a_cons (e_var (i := 0)) a_nil)) (g_two sc_fault_place.nd rfl 2 3) (s_one (s_if (t_not (t_val (e_call c G_is_below U_is_below (a_cons (e_var (i := 3)) (a_cons (e_var (i := 1)) a_nil))))) (s_one (s_ret (e_var (i := 2)))) s_nil))) (s_one (s_ret e_non)))
abbrev x_is_table (K : Fg) (C : Cs) : WS := (wSeq (wIfS (wOr (wNot (wB (wCallA 1 0 (sp_is_sequence C) (fun ds _ => ds) (wCons (wVar 0) wNil) wNil))) (wNot (wB (wChain wLe wLe (wC (.int 1)) (wCB wLen (wCons (wVar 0) wNil)) (wC (.int 12)))))) (wRet (wC (.bl false))) wNext) (wRet (wOp (wIsN false) (wCallA 2 0 (sp_fault_place C) (fun ds _ => ds) (wCons (wVar 0) (wCons (wCB wLen (wCons (wVar 0) wNil)) wNil)) wNil) (wC .non))))
theorem dv_is_table (T : Txt P w K mg base C) (G_fault_place : FnG P w K mg base 4 C.f_fault_place C.d_fault_place ["value", "many"] (lSp K 2 (sp_fault_place C))) (U_fault_place : Dn K mg "fault_place" C.f_fault_place C.d_fault_place ["value", "many"] 2) (G_is_sequence : FnG P w K mg base 2 C.f_is_sequence C.d_is_sequence ["value"] (lSp K 1 (sp_is_sequence C))) (U_is_sequence : Dn K mg "is_sequence" C.f_is_sequence C.d_is_sequence ["value"] 1) (cdv : Value) (A : Around) (outer : List Env) (s : Shared) (H : Hp) (E : XK) (c : Cok (cxOf (L2.CX P w) P w K mg base ["value"] "is_table" (defScope (top 14)) C.f_is_table cdv A outer s H E) (wishOf E) 4) :
    PSs (cxOf (L2.CX P w) P w K mg base ["value"] "is_table" (defScope (top 14)) C.f_is_table cdv A outer s H E) (defBody (top 14)) (lS K (wishOf E) (x_is_table K C)) :=
  (s_cons (s_if (t_pw (q_or (t_not (t_val (e_call c G_is_sequence U_is_sequence (a_cons (e_var (i := 0)) a_nil)))) (q_or1 (t_not (t_leLe e_int (e_blt cr_lenD ok_len T.b_len PyProof.Rows.Boot.len (a_cons (e_var (i := 0)) a_nil)) (e_globI T.MOST_STATES)))))) (s_one (s_ret e_bl)) s_nil) (s_one (s_ret (e_isN (e_call c G_fault_place U_fault_place (a_cons (e_var (i := 0)) (a_cons (e_blt cr_lenD ok_len T.b_len PyProof.Rows.Boot.len (a_cons (e_var (i := 0)) a_nil)) a_nil))) e_non))))
abbrev x_check_tables (K : Fg) (C : Cs) : WS := (wSeq (wIfS (wOr (wNot (wB (wCallA 1 0 (sp_is_sequence C) (fun ds _ => ds) (wCons (wVar 0) wNil) wNil))) (wNot (wB (wChain wLe wLe (wC (.int 1)) (wCB wLen (wCons (wVar 0) wNil)) (wC (.int 8)))))) (wRaise C.BadMachine "at" (wCons (wUn wNeg (wC (.int 1))) wNil)) wNext) (wSeq (wFor (wiEnum (wCons (wVar 0) wNil)) (wgTup 2 (wgCons (wgName 1) (wgCons (wgName 2) wgNil))) (wIfS (wOr (wNot (wB (wCallA 1 0 (sp_is_table C) (fun ds _ => ds) (wCons (wVar 2) wNil) wNil))) (wB (wOp (wEq true) (wCB wLen (wCons (wVar 2) wNil)) (wCB wLen (wCons (wOp wIx (wVar 0) (wC (.int 0))) wNil))))) (wRaise C.BadMachine "at" (wCons (wVar 1) wNil)) wNext)) (wRet (wCB wTupOf (wCons (wLc (wiSeq (wVar 0)) (wgName 2) wTrue (wCB wTupOf (wCons (wVar 2) wNil)) [2]) wNil)))))
theorem dv_check_tables (T : Txt P w K mg base C) (G_is_sequence : FnG P w K mg base 2 C.f_is_sequence C.d_is_sequence ["value"] (lSp K 1 (sp_is_sequence C))) (U_is_sequence : Dn K mg "is_sequence" C.f_is_sequence C.d_is_sequence ["value"] 1) (G_is_table : FnG P w K mg base 5 C.f_is_table C.d_is_table ["value"] (lSp K 1 (sp_is_table C))) (U_is_table : Dn K mg "is_table" C.f_is_table C.d_is_table ["value"] 1) (cdv : Value) (A : Around) (outer : List Env) (s : Shared) (H : Hp) (E : XK) (c : Cok (cxOf (L2.CX P w) P w K mg base ["value", "at", "table"] "check_tables" (defScope (top 15)) C.f_check_tables cdv A outer s H E) (wishOf E) 5) :
    PSs (cxOf (L2.CX P w) P w K mg base ["value", "at", "table"] "check_tables" (defScope (top 15)) C.f_check_tables cdv A outer s H E) (defBody (top 15)) (lS K (wishOf E) (x_check_tables K C)) :=
  (s_cons (s_if (t_pw (q_or (t_not (t_val (e_call c G_is_sequence U_is_sequence (a_cons (e_var (i := 0)) a_nil)))) (q_or1 (t_not (t_leLe e_int (e_blt cr_lenD ok_len T.b_len PyProof.Rows.Boot.len (a_cons (e_var (i := 0)) a_nil)) (e_globI T.MOST_TABLES)))))) (s_one (s_raise rfl c T.er_BadMachine (T.in_BadMachine _) T.bi_BadMachine passes_none T.BadMachine (a_cons (e_neg e_int) a_nil))) s_nil) (s_cons (s_for (passes_of rfl) rfl (d_enum rfl T.b_enumerate (a_cons (e_var (i := 0)) a_nil)) (g_two sc_check_tables.nd rfl 1 2) (s_one (s_if (t_pw (q_or (t_not (t_val (e_call c G_is_table U_is_table (a_cons (e_var (i := 2)) a_nil)))) (q_or1 (t_ne c (e_blt cr_lenD ok_len T.b_len PyProof.Rows.Boot.len (a_cons (e_var (i := 2)) a_nil)) (e_blt cr_lenD ok_len T.b_len PyProof.Rows.Boot.len (a_cons (e_ix (e_var (i := 0)) e_int) a_nil)))))) (s_one (s_raise rfl c T.er_BadMachine (T.in_BadMachine _) T.bi_BadMachine passes_none T.BadMachine (a_cons (e_var (i := 1)) a_nil))) s_nil))) (s_one (s_ret (e_bty call_tuple_of ok_tupOf T.b_tuple PyProof.Rows.Boot.tuple (a_cons (e_lc (own := [("table", 2)]) rfl sc_check_tables.nd (i_seq (e_var (i := 0))) (blk_ok (by kernel_rfl)) (fun _ _ _ _ _ => (g_c 2 sc_check_tables.nd)) (fun _ _ _ _ _ => f_nil) (fun _ _ _ _ _ => (e_bty call_tuple_of ok_tupOf T.b_tuple PyProof.Rows.Boot.tuple (a_cons (e_var (i := 2)) a_nil)))) a_nil))))))
abbrev x_Machine_init (K : Fg) (C : Cs) : WS := (wSeq (wFset C.Machine "tables" 0 (wCallA 1 0 (sp_check_tables C) (fun ds _ => ds) (wCons (wVar 1) wNil) wNil)) (wSeq (wFset C.Machine "deeds" 0 (wCB wLen (wCons (wFldO C.Machine "tables" 0) wNil))) (wFset C.Machine "states" 0 (wCB wLen (wCons (wOp wIx (wFldO C.Machine "tables" 0) (wC (.int 0))) wNil)))))
theorem dv_Machine_init (T : Txt P w K mg base C) (G_check_tables : FnG P w K mg base 6 C.f_check_tables C.d_check_tables ["value"] (lSp K 1 (sp_check_tables C))) (U_check_tables : Dn K mg "check_tables" C.f_check_tables C.d_check_tables ["value"] 1) (cdv : Value) (A : Around) (outer : List Env) (s : Shared) (H : Hp) (E : XK) (c : Cok (cxOf (L2.CX P w) P w K mg base ["self", "tables"] "Machine.__init__" (defScope (inClass (top 16) 0)) C.f_Machine_init cdv A outer s H E) (wishOf E) 6) :
    PSs (cxOf (L2.CX P w) P w K mg base ["self", "tables"] "Machine.__init__" (defScope (inClass (top 16) 0)) C.f_Machine_init cdv A outer s H E) (defBody (inClass (top 16) 0)) (lS K (wishOf E) (x_Machine_init K C)) :=
  (s_cons (s_fset 0 T.cl_Machine T.na_Machine_tables (e_call c G_check_tables U_check_tables (a_cons (e_var (i := 1)) a_nil))) (s_cons (s_fset 0 T.cl_Machine T.na_Machine_deeds (e_blt cr_lenD ok_len T.b_len PyProof.Rows.Boot.len (a_cons (e_fldO (i := 0) T.cl_Machine T.na_Machine_tables) a_nil))) (s_one (s_fset 0 T.cl_Machine T.na_Machine_states (e_blt cr_lenD ok_len T.b_len PyProof.Rows.Boot.len (a_cons (e_ix (e_fldO (i := 0) T.cl_Machine T.na_Machine_tables) e_int) a_nil))))))
abbrev x_Machine_eq (K : Fg) (C : Cs) : WS := (wRet (wAndV (wCB (wIsI K) (wCons (wVar 1) (wCons (wC (.raw (.ref C.Machine))) wNil))) (wOp (wEq false) (wFld C.Machine "tables" (wVar 0)) (wFld C.Machine "tables" (wVar 1)))))
theorem dv_Machine_eq (T : Txt P w K mg base C)  (cdv : Value) (A : Around) (outer : List Env) (s : Shared) (H : Hp) (E : XK) (c : Cok (cxOf (L2.CX P w) P w K mg base ["self", "other"] "Machine.__eq__" (defScope (inClass (top 16) 1)) C.f_Machine_eq cdv A outer s H E) (wishOf E) 1) :
    PSs (cxOf (L2.CX P w) P w K mg base ["self", "other"] "Machine.__eq__" (defScope (inClass (top 16) 1)) C.f_Machine_eq cdv A outer s H E) (defBody (inClass (top 16) 1)) (lS K (wishOf E) (x_Machine_eq K C)) :=
  (s_one (s_ret (e_and (e_blt call_isi ok_isI T.b_isinstance PyProof.Rows.Boot.isinstance (a_cons (e_var (i := 1)) (a_cons (e_cls T.Machine) a_nil))) (e_and1 (e_eq c (e_fld T.cl_Machine T.na_Machine_tables (e_var (i := 0))) (e_fld T.cl_Machine T.na_Machine_tables (e_var (i := 1))))))))
abbrev x_log_fault (K : Fg) (C : Cs) : WS := (wSeq (wIfS (wOr (wNot (wB (wCallA 1 0 (sp_is_sequence C) (fun ds _ => ds) (wCons (wVar 1) wNil) wNil))) (wB (wOp wGt (wCB wLen (wCons (wVar 1) wNil)) (wC (.int 10000))))) (wRet (wUn wNeg (wC (.int 1)))) wNext) (wRet (wCallA 2 0 (sp_fault_place C) (fun ds _ => ds) (wCons (wVar 1) (wCons (wFld C.Machine "deeds" (wVar 0)) wNil)) wNil)))
theorem dv_log_fault (T : Txt P w K mg base C) (G_fault_place : FnG P w K mg base 4 C.f_fault_place C.d_fault_place ["value", "many"] (lSp K 2 (sp_fault_place C))) (U_fault_place : Dn K mg "fault_place" C.f_fault_place C.d_fault_place ["value", "many"] 2) (G_is_sequence : FnG P w K mg base 2 C.f_is_sequence C.d_is_sequence ["value"] (lSp K 1 (sp_is_sequence C))) (U_is_sequence : Dn K mg "is_sequence" C.f_is_sequence C.d_is_sequence ["value"] 1) (cdv : Value) (A : Around) (outer : List Env) (s : Shared) (H : Hp) (E : XK) (c : Cok (cxOf (L2.CX P w) P w K mg base ["machine", "value"] "log_fault" (defScope (top 17)) C.f_log_fault cdv A outer s H E) (wishOf E) 4) :
    PSs (cxOf (L2.CX P w) P w K mg base ["machine", "value"] "log_fault" (defScope (top 17)) C.f_log_fault cdv A outer s H E) (defBody (top 17)) (lS K (wishOf E) (x_log_fault K C)) :=
  (s_cons (s_if (t_pw (q_or (t_not (t_val (e_call c G_is_sequence U_is_sequence (a_cons (e_var (i := 1)) a_nil)))) (q_or1 (t_gt (e_blt cr_lenD ok_len T.b_len PyProof.Rows.Boot.len (a_cons (e_var (i := 1)) a_nil)) (e_globI T.MOST_DEEDS))))) (s_one (s_ret (e_neg e_int))) s_nil) (s_one (s_ret (e_call c G_fault_place U_fault_place (a_cons (e_var (i := 1)) (a_cons (e_fld T.cl_Machine T.na_Machine_deeds (e_var (i := 0))) a_nil))))))
abbrev x_check_log (K : Fg) (C : Cs) : WS := (wSeq (wAsg 2 (wCallA 2 0 (sp_log_fault C) (fun ds _ => ds) (wCons (wVar 0) (wCons (wVar 1) wNil)) wNil)) (wSeq (wIfS (wB (wOp (wIsN true) (wVar 2) (wC .non))) (wRaise C.BadLog "at" (wCons (wVar 2) wNil)) wNext) (wRet (wCB wTupOf (wCons (wVar 1) wNil)))))
theorem dv_check_log (T : Txt P w K mg base C) (G_log_fault : FnG P w K mg base 5 C.f_log_fault C.d_log_fault ["machine", "value"] (lSp K 2 (sp_log_fault C))) (U_log_fault : Dn K mg "log_fault" C.f_log_fault C.d_log_fault ["machine", "value"] 2) (cdv : Value) (A : Around) (outer : List Env) (s : Shared) (H : Hp) (E : XK) (c : Cok (cxOf (L2.CX P w) P w K mg base ["machine", "value", "at"] "check_log" (defScope (top 18)) C.f_check_log cdv A outer s H E) (wishOf E) 5) :
    PSs (cxOf (L2.CX P w) P w K mg base ["machine", "value", "at"] "check_log" (defScope (top 18)) C.f_check_log cdv A outer s H E) (defBody (top 18)) (lS K (wishOf E) (x_check_log K C)) :=
  (s_cons (s_set sc_check_log.nd 2 (e_call c G_log_fault U_log_fault (a_cons (e_var (i := 0)) (a_cons (e_var (i := 1)) a_nil)))) (s_cons (s_if (t_notN (e_var (i := 2)) e_non) (s_one (s_raise rfl c T.er_BadLog (T.in_BadLog _) T.bi_BadLog passes_none T.BadLog (a_cons (e_var (i := 2)) a_nil))) s_nil) (s_one (s_ret (e_bty call_tuple_of ok_tupOf T.b_tuple PyProof.Rows.Boot.tuple (a_cons (e_var (i := 1)) a_nil))))))
abbrev x_numbers_text (K : Fg) (C : Cs) : WS := (wRet (wM1 wJoin (wC (.str " ")) (wLc (wiSeq (wVar 0)) (wgName 1) wTrue (wCB wStr (wCons (wVar 1) wNil)) [1])))
theorem dv_numbers_text (T : Txt P w K mg base C)  (cdv : Value) (A : Around) (outer : List Env) (s : Shared) (H : Hp) (E : XK) (c : Cok (cxOf (L2.CX P w) P w K mg base ["numbers", "number"] "numbers_text" (defScope (top 20)) C.f_numbers_text cdv A outer s H E) (wishOf E) 1) :
    PSs (cxOf (L2.CX P w) P w K mg base ["numbers", "number"] "numbers_text" (defScope (top 20)) C.f_numbers_text cdv A outer s H E) (defBody (top 20)) (lS K (wishOf E) (x_numbers_text K C)) :=
  (s_one (s_ret (e_join e_str (e_lc (own := [("number", 1)]) rfl sc_numbers_text.nd (i_seq (e_var (i := 0))) (blk_ok (by kernel_rfl)) (fun _ _ _ _ _ => (g_c 1 sc_numbers_text.nd)) (fun _ _ _ _ _ => f_nil) (fun _ _ _ _ _ => (e_bty call_str_int ok_str T.b_str PyProof.Rows.Boot.str (a_cons (e_var (i := 1)) a_nil)))))))
abbrev x_numbers_by_word (K : Fg) (C : Cs) : WS := (wRet (wDc (wiRg1 (wCons (wVar 0) wNil)) (wgName 1) wTrue (wCB wStr (wCons (wVar 1) wNil)) (wVar 1) [1]))
theorem dv_numbers_by_word (T : Txt P w K mg base C)  (cdv : Value) (A : Around) (outer : List Env) (s : Shared) (H : Hp) (E : XK) (c : Cok (cxOf (L2.CX P w) P w K mg base ["many", "number"] "numbers_by_word" (defScope (top 21)) C.f_numbers_by_word cdv A outer s H E) (wishOf E) 1) :
    PSs (cxOf (L2.CX P w) P w K mg base ["many", "number"] "numbers_by_word" (defScope (top 21)) C.f_numbers_by_word cdv A outer s H E) (defBody (top 21)) (lS K (wishOf E) (x_numbers_by_word K C)) :=
  (s_one (s_ret (e_dc (own := [("number", 1)]) rfl sc_numbers_by_word.nd (i_rng1 T.b_range (a_cons (e_var (i := 0)) a_nil)) (blk_ok (by kernel_rfl)) (fun _ _ _ _ _ => (g_c 1 sc_numbers_by_word.nd)) (fun _ _ _ _ _ => f_nil) (fun _ _ _ _ _ => (e_bty call_str_int ok_str T.b_str PyProof.Rows.Boot.str (a_cons (e_var (i := 1)) a_nil))) (fun _ _ _ _ _ => (e_var (i := 1))))))
abbrev x_machine_text (K : Fg) (C : Cs) : WS := (wSeq (wAsgO 1 (woLst (wCons (wFs [(wC (.str "states ")), (wFmt (wFld C.Machine "states" (wVar 0)))]) wNil))) (wSeq (wFor (wiSeq (wFld C.Machine "tables" (wVar 0))) (wgName 2) (wApp 1 (wCallA 1 0 (sp_numbers_text C) (fun ds _ => ds) (wCons (wVar 2) wNil) wNil))) (wRet (wM1 wJoin (wC (.str "\n")) (wVar 1)))))
theorem dv_machine_text (T : Txt P w K mg base C) (G_numbers_text : FnG P w K mg base 2 C.f_numbers_text C.d_numbers_text ["numbers"] (lSp K 1 (sp_numbers_text C))) (U_numbers_text : Dn K mg "numbers_text" C.f_numbers_text C.d_numbers_text ["numbers"] 1) (cdv : Value) (A : Around) (outer : List Env) (s : Shared) (H : Hp) (E : XK) (c : Cok (cxOf (L2.CX P w) P w K mg base ["machine", "lines", "table"] "machine_text" (defScope (top 22)) C.f_machine_text cdv A outer s H E) (wishOf E) 2) :
    PSs (cxOf (L2.CX P w) P w K mg base ["machine", "lines", "table"] "machine_text" (defScope (top 22)) C.f_machine_text cdv A outer s H E) (defBody (top 22)) (lS K (wishOf E) (x_machine_text K C)) :=
  (s_cons (s_setO sc_machine_text.nd 1 (o_lst (a_cons (e_fs (PJd.cons e_str (PJd.cons (e_fmt (e_fld T.cl_Machine T.na_Machine_states (e_var (i := 0)))) PJd.nil))) a_nil))) (s_cons (s_for (passes_of rfl) rfl (i_seq (e_fld T.cl_Machine T.na_Machine_tables (e_var (i := 0)))) (g_nm sc_machine_text.nd 2) (s_one (s_app 1 (e_call c G_numbers_text U_numbers_text (a_cons (e_var (i := 2)) a_nil))))) (s_one (s_ret (e_join e_str (e_var (i := 1)))))))
abbrev x_told_states (K : Fg) (C : Cs) : WS := (wSeq (wAsg 1 (wCallA 1 0 (sp_numbers_by_word C) (fun ds _ => ds) (wCons (wOp wAdd (wC (.int 12)) (wC (.int 1))) wNil) wNil)) (wSeq (wAsg 2 (wM1 wSplit (wVar 0) (wC (.str " ")))) (wSeq (wIfS (wOr (wB (wOp (wEq true) (wCB wLen (wCons (wVar 2) wNil)) (wC (.int 2)))) (wOr (wB (wOp (wEq true) (wOp wIx (wVar 2) (wC (.int 0))) (wC (.str "states")))) (wB (wOp (wEq false) (wDGet2 (wVar 1) (wOp wIx (wVar 2) (wC (.int 1))) (wC (.int 0))) (wC (.int 0)))))) (wRaise C.BadText "at" (wCons (wC (.int 1)) wNil)) wNext) (wRet (wDGet (wVar 1) (wOp wIx (wVar 2) (wC (.int 1))))))))
theorem dv_told_states (T : Txt P w K mg base C) (G_numbers_by_word : FnG P w K mg base 2 C.f_numbers_by_word C.d_numbers_by_word ["many"] (lSp K 1 (sp_numbers_by_word C))) (U_numbers_by_word : Dn K mg "numbers_by_word" C.f_numbers_by_word C.d_numbers_by_word ["many"] 1) (cdv : Value) (A : Around) (outer : List Env) (s : Shared) (H : Hp) (E : XK) (c : Cok (cxOf (L2.CX P w) P w K mg base ["line", "numbers", "words"] "told_states" (defScope (top 23)) C.f_told_states cdv A outer s H E) (wishOf E) 2) :
    PSs (cxOf (L2.CX P w) P w K mg base ["line", "numbers", "words"] "told_states" (defScope (top 23)) C.f_told_states cdv A outer s H E) (defBody (top 23)) (lS K (wishOf E) (x_told_states K C)) :=
  (s_cons (s_set sc_told_states.nd 1 (e_call c G_numbers_by_word U_numbers_by_word (a_cons (e_add (e_globI T.MOST_STATES) e_int) a_nil))) (s_cons (s_set sc_told_states.nd 2 (e_split (e_var (i := 0)) e_str)) (s_cons (s_if (t_pw (q_or (t_ne c (e_blt cr_lenD ok_len T.b_len PyProof.Rows.Boot.len (a_cons (e_var (i := 2)) a_nil)) e_int) (q_or (t_ne c (e_ix (e_var (i := 2)) e_int) e_str) (q_or1 (t_eq c (e_dget2 c (e_var (i := 1)) (e_ix (e_var (i := 2)) e_int) e_int ⟨rfl, rfl, rfl, rfl⟩) e_int))))) (s_one (s_raise rfl c T.er_BadText (T.in_BadText _) T.bi_BadText passes_none T.BadText (a_cons e_int a_nil))) s_nil) (s_one (s_ret (e_dget c (e_var (i := 1)) (e_ix (e_var (i := 2)) e_int)))))))
abbrev x_told_table (K : Fg) (C : Cs) : WS := (wSeq (wAsg 2 (wCallA 1 0 (sp_numbers_by_word C) (fun ds _ => ds) (wCons (wVar 1) wNil) wNil)) (wSeq (wAsg 3 (wM1 wSplit (wVar 0) (wC (.str " ")))) (wSeq (wIfS (wB (wOp (wEq true) (wCB wLen (wCons (wVar 3) wNil)) (wVar 1))) (wRet (wC .non)) wNext) (wSeq (wFor (wiSeq (wVar 3)) (wgName 4) (wIfS (wB (wDIn true (wVar 4) (wVar 2))) (wRet (wC .non)) wNext)) (wRet (wCB wTupOf (wCons (wLc (wiSeq (wVar 3)) (wgName 4) wTrue (wDGet (wVar 2) (wVar 4)) [4]) wNil)))))))
theorem dv_told_table (T : Txt P w K mg base C) (G_numbers_by_word : FnG P w K mg base 2 C.f_numbers_by_word C.d_numbers_by_word ["many"] (lSp K 1 (sp_numbers_by_word C))) (U_numbers_by_word : Dn K mg "numbers_by_word" C.f_numbers_by_word C.d_numbers_by_word ["many"] 1) (cdv : Value) (A : Around) (outer : List Env) (s : Shared) (H : Hp) (E : XK) (c : Cok (cxOf (L2.CX P w) P w K mg base ["line", "states", "numbers", "words", "word"] "told_table" (defScope (top 24)) C.f_told_table cdv A outer s H E) (wishOf E) 2) :
    PSs (cxOf (L2.CX P w) P w K mg base ["line", "states", "numbers", "words", "word"] "told_table" (defScope (top 24)) C.f_told_table cdv A outer s H E) (defBody (top 24)) (lS K (wishOf E) (x_told_table K C)) :=
  (s_cons (s_set sc_told_table.nd 2 (e_call c G_numbers_by_word U_numbers_by_word (a_cons (e_var (i := 1)) a_nil))) (s_cons (s_set sc_told_table.nd 3 (e_split (e_var (i := 0)) e_str)) (s_cons (s_if (t_ne c (e_blt cr_lenD ok_len T.b_len PyProof.Rows.Boot.len (a_cons (e_var (i := 3)) a_nil)) (e_var (i := 1))) (s_one (s_ret e_non)) s_nil) (s_cons (s_for (passes_of rfl) rfl (i_seq (e_var (i := 3))) (g_nm sc_told_table.nd 4) (s_one (s_if (t_dnin c (e_var (i := 4)) (e_var (i := 2))) (s_one (s_ret e_non)) s_nil))) (s_one (s_ret (e_bty call_tuple_of ok_tupOf T.b_tuple PyProof.Rows.Boot.tuple (a_cons (e_lc (own := [("word", 4)]) rfl sc_told_table.nd (i_seq (e_var (i := 3))) (blk_ok (by kernel_rfl)) (fun _ _ _ _ _ => (g_c 4 sc_told_table.nd)) (fun _ _ _ _ _ => f_nil) (fun _ _ _ _ _ => (e_dget (c.blk _ _ _ _ _) (e_var (i := 2)) (e_var (i := 4))))) a_nil))))))))
abbrev x_read_machine (K : Fg) (C : Cs) : WS := (wSeq (wIfS (wNot (wB (wCB (wIsI K) (wCons (wVar 0) (wCons (wC (.raw (.ty "str"))) wNil))))) (wRaise C.BadText "at" (wCons (wC (.int 0)) wNil)) wNext) (wSeq (wAsg 1 (wM1 wSplit (wVar 0) (wC (.str "\n")))) (wSeq (wAsg 2 (wCallA 1 0 (sp_told_states C) (fun ds _ => ds) (wCons (wOp wIx (wVar 1) (wC (.int 0))) wNil) wNil)) (wSeq (wIfS (wB (wOp (wEq false) (wCB wLen (wCons (wVar 1) wNil)) (wC (.int 1)))) (wRaise C.BadText "at" (wCons (wC (.int 2)) wNil)) wNext) (wSeq (wAsgO 3 (woLst wNil)) (wSeq (wFor (wiEnum (wCons (wSl (wVar 1) (woSome (wC (.int 1))) woNone) wNil)) (wgTup 2 (wgCons (wgName 4) (wgCons (wgName 5) wgNil))) (wSeq (wAsg 6 (wCallA 2 0 (sp_told_table C) (fun ds _ => ds) (wCons (wVar 5) (wCons (wVar 2) wNil)) wNil)) (wSeq (wIfS (wOr (wB (wOp (wIsN false) (wVar 6) (wC .non))) (wB (wOp (wEq false) (wVar 4) (wC (.int 8))))) (wRaise C.BadText "at" (wCons (wOp wAdd (wVar 4) (wC (.int 2))) wNil)) wNext) (wApp 3 (wVar 6))))) (wRet (wMake C.Machine 1 0 (sp_Machine_init C) (fun ds _ => ds) (wCons (wVar 3) wNil) wNil))))))))
theorem dv_read_machine (T : Txt P w K mg base C) (G_Machine_init : FnG P w K mg base 7 C.f_Machine_init C.d_Machine_init ["self", "tables"] (lSp K 2 (sp_Machine_init C))) (K_Machine_init : KBn K C.d_Machine_init ["self", "tables"] 2 [] (fun us _ => us) (fun us _ => us)) (G_told_states : FnG P w K mg base 3 C.f_told_states C.d_told_states ["line"] (lSp K 1 (sp_told_states C))) (U_told_states : Dn K mg "told_states" C.f_told_states C.d_told_states ["line"] 1) (G_told_table : FnG P w K mg base 3 C.f_told_table C.d_told_table ["line", "states"] (lSp K 2 (sp_told_table C))) (U_told_table : Dn K mg "told_table" C.f_told_table C.d_told_table ["line", "states"] 2) (cdv : Value) (A : Around) (outer : List Env) (s : Shared) (H : Hp) (E : XK) (c : Cok (cxOf (L2.CX P w) P w K mg base ["text", "lines", "states", "tables", "at", "line", "table"] "read_machine" (defScope (top 25)) C.f_read_machine cdv A outer s H E) (wishOf E) 8) :
    PSs (cxOf (L2.CX P w) P w K mg base ["text", "lines", "states", "tables", "at", "line", "table"] "read_machine" (defScope (top 25)) C.f_read_machine cdv A outer s H E) (defBody (top 25)) (lS K (wishOf E) (x_read_machine K C)) :=
  (s_cons (s_if (t_not (t_val (e_blt call_isi ok_isI T.b_isinstance PyProof.Rows.Boot.isinstance (a_cons (e_var (i := 0)) (a_cons (e_ty T.b_str PyProof.Rows.Boot.str) a_nil))))) (s_one (s_raise rfl c T.er_BadText (T.in_BadText _) T.bi_BadText passes_none T.BadText (a_cons e_int a_nil))) s_nil) (s_cons (s_set sc_read_machine.nd 1 (e_split (e_var (i := 0)) e_str)) (s_cons (s_set sc_read_machine.nd 2 (e_call c G_told_states U_told_states (a_cons (e_ix (e_var (i := 1)) e_int) a_nil))) (s_cons (s_if (t_eq c (e_blt cr_lenD ok_len T.b_len PyProof.Rows.Boot.len (a_cons (e_var (i := 1)) a_nil)) e_int) (s_one (s_raise rfl c T.er_BadText (T.in_BadText _) T.bi_BadText passes_none T.BadText (a_cons e_int a_nil))) s_nil) (s_cons (s_setO sc_read_machine.nd 3 (o_lst a_nil)) (s_cons (s_for (passes_of rfl) rfl (d_enum rfl T.b_enumerate (a_cons (e_slice (e_var (i := 1)) (s_some e_int) s_none) a_nil)) (g_two sc_read_machine.nd rfl 4 5) (s_cons (s_set sc_read_machine.nd 6 (e_call c G_told_table U_told_table (a_cons (e_var (i := 5)) (a_cons (e_var (i := 2)) a_nil)))) (s_cons (s_if (t_pw (q_or (t_isN (e_var (i := 6)) e_non) (q_or1 (t_eq c (e_var (i := 4)) (e_globI T.MOST_TABLES))))) (s_one (s_raise rfl c T.er_BadText (T.in_BadText _) T.bi_BadText passes_none T.BadText (a_cons (e_add (e_var (i := 4)) e_int) a_nil))) s_nil) (s_one (s_app 3 (e_var (i := 6))))))) (s_one (s_ret (e_make c T.mk_Machine G_Machine_init T.Machine K_Machine_init (a_cons (e_var (i := 3)) a_nil))))))))))
abbrev x_log_text (K : Fg) (C : Cs) : WS := (wSeq (wAsg 1 (wCallA 2 0 (sp_check_log C) (fun ds _ => ds) (wCons (wVar 0) (wCons (wVar 1) wNil)) wNil)) (wSeq (wIfS (wB (wOp (wEq false) (wCB wLen (wCons (wVar 1) wNil)) (wC (.int 0)))) (wRet (wC (.str "-"))) wNext) (wRet (wCallA 1 0 (sp_numbers_text C) (fun ds _ => ds) (wCons (wVar 1) wNil) wNil))))
theorem dv_log_text (T : Txt P w K mg base C) (G_check_log : FnG P w K mg base 6 C.f_check_log C.d_check_log ["machine", "value"] (lSp K 2 (sp_check_log C))) (U_check_log : Dn K mg "check_log" C.f_check_log C.d_check_log ["machine", "value"] 2) (G_numbers_text : FnG P w K mg base 2 C.f_numbers_text C.d_numbers_text ["numbers"] (lSp K 1 (sp_numbers_text C))) (U_numbers_text : Dn K mg "numbers_text" C.f_numbers_text C.d_numbers_text ["numbers"] 1) (cdv : Value) (A : Around) (outer : List Env) (s : Shared) (H : Hp) (E : XK) (c : Cok (cxOf (L2.CX P w) P w K mg base ["machine", "log"] "log_text" (defScope (top 26)) C.f_log_text cdv A outer s H E) (wishOf E) 6) :
    PSs (cxOf (L2.CX P w) P w K mg base ["machine", "log"] "log_text" (defScope (top 26)) C.f_log_text cdv A outer s H E) (defBody (top 26)) (lS K (wishOf E) (x_log_text K C)) :=
  (s_cons (s_set sc_log_text.nd 1 (e_call c G_check_log U_check_log (a_cons (e_var (i := 0)) (a_cons (e_var (i := 1)) a_nil)))) (s_cons (s_if (t_eq c (e_blt cr_lenD ok_len T.b_len PyProof.Rows.Boot.len (a_cons (e_var (i := 1)) a_nil)) e_int) (s_one (s_ret e_str)) s_nil) (s_one (s_ret (e_call c G_numbers_text U_numbers_text (a_cons (e_var (i := 1)) a_nil))))))
abbrev x_read_log (K : Fg) (C : Cs) : WS := (wSeq (wIfS (wNot (wB (wCB (wIsI K) (wCons (wVar 1) (wCons (wC (.raw (.ty "str"))) wNil))))) (wRaise C.BadText "at" (wCons (wC (.int 0)) wNil)) wNext) (wSeq (wIfS (wB (wOp (wEq false) (wVar 1) (wC (.str "-")))) (wRet (wTup wNil)) wNext) (wSeq (wAsg 2 (wCallA 1 0 (sp_numbers_by_word C) (fun ds _ => ds) (wCons (wFld C.Machine "deeds" (wVar 0)) wNil) wNil)) (wSeq (wAsgO 3 (woLst wNil)) (wSeq (wFor (wiEnum (wCons (wM1 wSplit (wVar 1) (wC (.str " "))) wNil)) (wgTup 2 (wgCons (wgName 4) (wgCons (wgName 5) wgNil))) (wSeq (wIfS (wOr (wB (wDIn true (wVar 5) (wVar 2))) (wB (wOp (wEq false) (wVar 4) (wC (.int 10000))))) (wRaise C.BadText "at" (wCons (wVar 4) wNil)) wNext) (wApp 3 (wDGet (wVar 2) (wVar 5))))) (wRet (wCB wTupOf (wCons (wVar 3) wNil))))))))
theorem dv_read_log (T : Txt P w K mg base C) (G_numbers_by_word : FnG P w K mg base 2 C.f_numbers_by_word C.d_numbers_by_word ["many"] (lSp K 1 (sp_numbers_by_word C))) (U_numbers_by_word : Dn K mg "numbers_by_word" C.f_numbers_by_word C.d_numbers_by_word ["many"] 1) (cdv : Value) (A : Around) (outer : List Env) (s : Shared) (H : Hp) (E : XK) (c : Cok (cxOf (L2.CX P w) P w K mg base ["machine", "text", "numbers", "deeds", "at", "word"] "read_log" (defScope (top 27)) C.f_read_log cdv A outer s H E) (wishOf E) 2) :
    PSs (cxOf (L2.CX P w) P w K mg base ["machine", "text", "numbers", "deeds", "at", "word"] "read_log" (defScope (top 27)) C.f_read_log cdv A outer s H E) (defBody (top 27)) (lS K (wishOf E) (x_read_log K C)) :=
  (s_cons (s_if (t_not (t_val (e_blt call_isi ok_isI T.b_isinstance PyProof.Rows.Boot.isinstance (a_cons (e_var (i := 1)) (a_cons (e_ty T.b_str PyProof.Rows.Boot.str) a_nil))))) (s_one (s_raise rfl c T.er_BadText (T.in_BadText _) T.bi_BadText passes_none T.BadText (a_cons e_int a_nil))) s_nil) (s_cons (s_if (t_eq c (e_var (i := 1)) e_str) (s_one (s_ret (e_tup a_nil))) s_nil) (s_cons (s_set sc_read_log.nd 2 (e_call c G_numbers_by_word U_numbers_by_word (a_cons (e_fld T.cl_Machine T.na_Machine_deeds (e_var (i := 0))) a_nil))) (s_cons (s_setO sc_read_log.nd 3 (o_lst a_nil)) (s_cons (s_for (passes_of rfl) rfl (d_enum rfl T.b_enumerate (a_cons (e_split (e_var (i := 1)) e_str) a_nil)) (g_two sc_read_log.nd rfl 4 5) (s_cons (s_if (t_pw (q_or (t_dnin c (e_var (i := 5)) (e_var (i := 2))) (q_or1 (t_eq c (e_var (i := 4)) (e_globI T.MOST_DEEDS))))) (s_one (s_raise rfl c T.er_BadText (T.in_BadText _) T.bi_BadText passes_none T.BadText (a_cons (e_var (i := 4)) a_nil))) s_nil) (s_one (s_app 3 (e_dget c (e_var (i := 2)) (e_var (i := 5))))))) (s_one (s_ret (e_bty call_tuple_of ok_tupOf T.b_tuple PyProof.Rows.Boot.tuple (a_cons (e_var (i := 3)) a_nil)))))))))
abbrev x_law_box (K : Fg) (C : Cs) : WS := (wSeq (wAsg 2 (wOp wAdd (wOp wMul (wC (.int 9319)) (wVar 1)) (wC (.int 389)))) (wSeq (wIfS (wB (wOp wLt (wVar 1) (wCB wLen (wCons (wVar 0) wNil)))) (wAsg 2 (wCB wAbs (wCons (wOp wIx (wVar 0) (wVar 1)) wNil))) (wIfS (wB (wOp wGt (wCB wLen (wCons (wVar 0) wNil)) (wC (.int 0)))) (wAsg 2 (wOp wAdd (wVar 2) (wOp wMul (wOp wMod (wCB wInt (wCons (wCB wAbs (wCons (wOp wIx (wVar 0) (wOp wMod (wCB wInt (wCons (wVar 1) wNil)) (wCB wLen (wCons (wVar 0) wNil)))) wNil)) wNil)) (wC (.int 2147483477))) (wC (.int 45307))))) wNext)) (wRetO (woLst (wCons (wOp wIx (wLst (wCons (wC (.int 0)) (wCons (wVar 2) wNil))) (wCB wInt (wCons (wOp wGe (wVar 2) (wOp wPow (wC (.int 10)) (wC (.int 18)))) wNil))) (wCons (wOp wAdd (wOp wMod (wCB wInt (wCons (wOp wAdd (wOp wMul (wOp wMod (wCB wInt (wCons (wVar 2) wNil)) (wC (.int 2147483477))) (wC (.int 36551))) (wOp wMul (wC (.int 31013)) (wVar 1))) wNil)) (wC (.int 2147483477))) (wC (.int 1))) (wCons (wC (.int 0)) wNil)))))))
theorem dv_law_box (T : Txt P w K mg base C)  (cdv : Value) (A : Around) (outer : List Env) (s : Shared) (H : Hp) (E : XK) (c : Cok (cxOf (L2.CX P w) P w K mg base ["script", "k", "cell"] "_law_box" (defScope (top 29)) C.f_law_box cdv A outer s H E) (wishOf E) 1) :
    PSs (cxOf (L2.CX P w) P w K mg base ["script", "k", "cell"] "_law_box" (defScope (top 29)) C.f_law_box cdv A outer s H E) (defBody (top 29)) (lS K (wishOf E) (x_law_box K C)) :=
  (s_cons (s_set sc_law_box.nd 2 (e_add (e_mul e_int (e_var (i := 1))) e_int)) (s_cons (s_if (t_lt (e_var (i := 1)) (e_blt cr_lenD ok_len T.b_len PyProof.Rows.Boot.len (a_cons (e_var (i := 0)) a_nil))) (s_one (s_set sc_law_box.nd 2 (e_blt call_abs ok_abs T.b_abs PyProof.Rows.Boot.abs (a_cons (e_ix (e_var (i := 0)) (e_var (i := 1))) a_nil)))) (s_one (s_if (t_gt (e_blt cr_lenD ok_len T.b_len PyProof.Rows.Boot.len (a_cons (e_var (i := 0)) a_nil)) e_int) (s_one (s_set sc_law_box.nd 2 (e_add (e_var (i := 2)) (e_mul (e_mod (e_bty call_int1 ok_int T.b_int PyProof.Rows.Boot.int (a_cons (e_blt call_abs ok_abs T.b_abs PyProof.Rows.Boot.abs (a_cons (e_ix (e_var (i := 0)) (e_mod (e_bty call_int1 ok_int T.b_int PyProof.Rows.Boot.int (a_cons (e_var (i := 1)) a_nil)) (e_blt cr_lenD ok_len T.b_len PyProof.Rows.Boot.len (a_cons (e_var (i := 0)) a_nil)))) a_nil)) a_nil)) e_int) e_int)))) s_nil))) (s_one (s_retO (o_lst (a_cons (e_ix (e_lst (a_cons e_int (a_cons (e_var (i := 2)) a_nil))) (e_bty call_int1 ok_int T.b_int PyProof.Rows.Boot.int (a_cons (e_ge (e_var (i := 2)) (e_pow e_int e_int)) a_nil))) (a_cons (e_add (e_mod (e_bty call_int1 ok_int T.b_int PyProof.Rows.Boot.int (a_cons (e_add (e_mul (e_mod (e_bty call_int1 ok_int T.b_int PyProof.Rows.Boot.int (a_cons (e_var (i := 2)) a_nil)) e_int) e_int) (e_mul e_int (e_var (i := 1)))) a_nil)) e_int) e_int) (a_cons e_int a_nil))))))))
abbrev x_law_take (K : Fg) (C : Cs) : WS := (wSeq (wIfS (wB (wOp wGt (wIxO 0 (wC (.int 0))) (wC (.int 0)))) (wSeq (wAsg 2 (wOp wMod (wCB wInt (wCons (wIxO 0 (wC (.int 0))) wNil)) (wVar 1))) (wSeq (wSetO 0 (wC (.int 0)) (wOp wDiv (wIxO 0 (wC (.int 0))) (wVar 1))) (wRet (wVar 2)))) wNext) (wSeq (wSetO 0 (wC (.int 2)) (wOp wAdd (wIxO 0 (wC (.int 2))) (wC (.int 1)))) (wSeq (wAsg 3 (wOp wMod (wCB wInt (wCons (wOp wAdd (wOp wMul (wOp wAdd (wIxO 0 (wC (.int 1))) (wOp wMul (wC (.int 63029)) (wIxO 0 (wC (.int 2))))) (wC (.int 58369))) (wC (.int 47))) wNil)) (wC (.int 2147483423)))) (wSeq (wSetO 0 (wC (.int 1)) (wOp wAdd (wOp wMod (wCB wInt (wCons (wOp wAdd (wOp wMul (wVar 3) (wC (.int 43177))) (wC (.int 18013))) wNil)) (wC (.int 2147483477))) (wC (.int 1)))) (wRet (wOp wMod (wCB wInt (wCons (wOp wDiv (wOp wAdd (wOp wMul (wVar 3) (wC (.int 2147483629))) (wIxO 0 (wC (.int 1)))) (wC (.int 8191))) wNil)) (wVar 1)))))))
theorem dv_law_take (T : Txt P w K mg base C)  (cdv : Value) (A : Around) (outer : List Env) (s : Shared) (H : Hp) (E : XK) (c : Cok (cxOf (L2.CX P w) P w K mg base ["box", "many", "digit", "raw"] "_law_take" (defScope (top 30)) C.f_law_take cdv A outer s H E) (wishOf E) 1) :
    PSs (cxOf (L2.CX P w) P w K mg base ["box", "many", "digit", "raw"] "_law_take" (defScope (top 30)) C.f_law_take cdv A outer s H E) (defBody (top 30)) (lS K (wishOf E) (x_law_take K C)) :=
  (s_cons (s_if (t_gt (e_ixO (i := 0) e_int) e_int) (s_cons (s_set sc_law_take.nd 2 (e_mod (e_bty call_int1 ok_int T.b_int PyProof.Rows.Boot.int (a_cons (e_ixO (i := 0) e_int) a_nil)) (e_var (i := 1)))) (s_cons (s_setO1 0 e_int (e_div (e_ixO (i := 0) e_int) (e_var (i := 1)))) (s_one (s_ret (e_var (i := 2)))))) s_nil) (s_cons (s_setO1 0 e_int (e_add (e_ixO (i := 0) e_int) e_int)) (s_cons (s_set sc_law_take.nd 3 (e_mod (e_bty call_int1 ok_int T.b_int PyProof.Rows.Boot.int (a_cons (e_add (e_mul (e_add (e_ixO (i := 0) e_int) (e_mul e_int (e_ixO (i := 0) e_int))) e_int) e_int) a_nil)) e_int)) (s_cons (s_setO1 0 e_int (e_add (e_mod (e_bty call_int1 ok_int T.b_int PyProof.Rows.Boot.int (a_cons (e_add (e_mul (e_var (i := 3)) e_int) e_int) a_nil)) e_int) e_int)) (s_one (s_ret (e_mod (e_bty call_int1 ok_int T.b_int PyProof.Rows.Boot.int (a_cons (e_div (e_add (e_mul (e_var (i := 3)) e_int) (e_ixO (i := 0) e_int)) e_int) a_nil)) (e_var (i := 1)))))))))
abbrev x_law_pick (K : Fg) (C : Cs) : WS := (wRet (wOp wIx (wVar 1) (wCallB 0 1 (sp_law_take C) (wCons (wCB wLen (wCons (wVar 1) wNil)) wNil))))
theorem dv_law_pick (T : Txt P w K mg base C) (G_law_take : FnG P w K mg base 2 C.f_law_take C.d_law_take ["box", "many"] (lSp K 2 (sp_law_take C))) (U_law_take : Dn K mg "_law_take" C.f_law_take C.d_law_take ["box", "many"] 2) (cdv : Value) (A : Around) (outer : List Env) (s : Shared) (H : Hp) (E : XK) (c : Cok (cxOf (L2.CX P w) P w K mg base ["box", "some"] "_law_pick" (defScope (top 31)) C.f_law_pick cdv A outer s H E) (wishOf E) 2) :
    PSs (cxOf (L2.CX P w) P w K mg base ["box", "some"] "_law_pick" (defScope (top 31)) C.f_law_pick cdv A outer s H E) (defBody (top 31)) (lS K (wishOf E) (x_law_pick K C)) :=
  (s_one (s_ret (e_ix (e_var (i := 1)) (e_callB c (i := 0) G_law_take U_law_take (a_cons (e_blt cr_lenD ok_len T.b_len PyProof.Rows.Boot.len (a_cons (e_var (i := 1)) a_nil)) a_nil)))))
abbrev x_law_tables (K : Fg) (C : Cs) : WS := (wSeq (wParO 3 4 (wCallB 0 1 (sp_law_pick C) (wCons (wVar 1) wNil)) (woLst wNil)) (wSeq (wFor (wiRg1 (wCons (wCallB 0 1 (sp_law_pick C) (wCons (wVar 2) wNil)) wNil)) (wgName 5) (wSeq (wAsgG (wgTup 2 (wgCons (wgName 6) (wgCons (wgName 7) wgNil))) (wTup (wCons (wCallB 0 1 (sp_law_take C) (wCons (wC (.int 6)) wNil)) (wCons (wCallB 0 1 (sp_law_take C) (wCons (wVar 3) wNil)) wNil)))) (wSeq (wAsg 8 (wLc (wiRg1 (wCons (wVar 3) wNil)) (wgName 9) wTrue (wCallB 0 1 (sp_law_take C) (wCons (wVar 3) wNil)) [9])) (wSeq (wIfS (wB (wOp (wEq false) (wVar 6) (wC (.int 0)))) (wAsg 8 (wLc (wiRg1 (wCons (wVar 3) wNil)) (wgName 9) wTrue (wOp wMod (wCB wInt (wCons (wOp wAdd (wVar 9) (wVar 7)) wNil)) (wVar 3)) [9])) wNext) (wSeq (wIfS (wB (wOp (wEq false) (wVar 6) (wC (.int 1)))) (wAsg 8 (wLc (wiRg1 (wCons (wVar 3) wNil)) (wgName 9) wTrue (wCB wMin2 (wCons (wOp wSub (wVar 3) (wC (.int 1))) (wCons (wOp wAdd (wVar 9) (wC (.int 1))) wNil))) [9])) wNext) (wSeq (wIfS (wB (wOp (wEq false) (wVar 6) (wC (.int 2)))) (wAsg 8 (wOp wMul (wLst (wCons (wVar 7) wNil)) (wVar 3))) wNext) (wSeq (wIfS (wB (wOp (wEq false) (wVar 6) (wC (.int 3)))) (wAsg 8 (wLc (wiRg1 (wCons (wVar 3) wNil)) (wgName 9) wTrue (wCB wMax2 (wCons (wVar 9) (wCons (wVar 7) wNil))) [9])) wNext) (wApp 4 (wCB wTupOf (wCons (wVar 8) wNil)))))))))) (wRet (wVar 4))))
theorem dv_law_tables (T : Txt P w K mg base C) (G_law_pick : FnG P w K mg base 3 C.f_law_pick C.d_law_pick ["box", "some"] (lSp K 2 (sp_law_pick C))) (U_law_pick : Dn K mg "_law_pick" C.f_law_pick C.d_law_pick ["box", "some"] 2) (G_law_take : FnG P w K mg base 2 C.f_law_take C.d_law_take ["box", "many"] (lSp K 2 (sp_law_take C))) (U_law_take : Dn K mg "_law_take" C.f_law_take C.d_law_take ["box", "many"] 2) (cdv : Value) (A : Around) (outer : List Env) (s : Shared) (H : Hp) (E : XK) (c : Cok (cxOf (L2.CX P w) P w K mg base ["box", "sizes", "kinds", "many", "found", "deed", "style", "by", "table", "state"] "_law_tables" (defScope (top 32)) C.f_law_tables cdv A outer s H E) (wishOf E) 3) :
    PSs (cxOf (L2.CX P w) P w K mg base ["box", "sizes", "kinds", "many", "found", "deed", "style", "by", "table", "state"] "_law_tables" (defScope (top 32)) C.f_law_tables cdv A outer s H E) (defBody (top 32)) (lS K (wishOf E) (x_law_tables K C)) :=
  (s_cons (s_parG sc_law_tables.nd rfl 3 4 (e_callB c (i := 0) G_law_pick U_law_pick (a_cons (e_var (i := 1)) a_nil)) (o_lst a_nil)) (s_cons (s_for (passes_of rfl) rfl (i_rng1 T.b_range (a_cons (e_callB c (i := 0) G_law_pick U_law_pick (a_cons (e_var (i := 2)) a_nil)) a_nil)) (g_nm sc_law_tables.nd 5) (s_cons (s_asg (e_tup (a_cons (e_callB c (i := 0) G_law_take U_law_take (a_cons e_int a_nil)) (a_cons (e_callB c (i := 0) G_law_take U_law_take (a_cons (e_var (i := 3)) a_nil)) a_nil))) (g_two sc_law_tables.nd rfl 6 7)) (s_cons (s_setLc 8 (own := [("state", 9)]) rfl sc_law_tables.nd (i_rng1 T.b_range (a_cons (e_var (i := 3)) a_nil)) (blk_ok (by kernel_rfl)) (fun _ _ _ _ _ => (g_c 9 sc_law_tables.nd)) (fun _ _ _ _ _ => f_nil) (fun _ _ _ _ _ => (e_callB (c.blk _ _ _ _ _) (i := 0) G_law_take U_law_take (a_cons (e_var (i := 3)) a_nil)))) (s_cons (s_if (t_eq c (e_var (i := 6)) e_int) (s_one (s_setLc 8 (own := [("state", 9)]) rfl sc_law_tables.nd (i_rng1 T.b_range (a_cons (e_var (i := 3)) a_nil)) (blk_ok (by kernel_rfl)) (fun _ _ _ _ _ => (g_c 9 sc_law_tables.nd)) (fun _ _ _ _ _ => f_nil) (fun _ _ _ _ _ => (e_mod (e_bty call_int1 ok_int T.b_int PyProof.Rows.Boot.int (a_cons (e_add (e_var (i := 9)) (e_var (i := 7))) a_nil)) (e_var (i := 3)))))) s_nil) (s_cons (s_if (t_eq c (e_var (i := 6)) e_int) (s_one (s_setLc 8 (own := [("state", 9)]) rfl sc_law_tables.nd (i_rng1 T.b_range (a_cons (e_var (i := 3)) a_nil)) (blk_ok (by kernel_rfl)) (fun _ _ _ _ _ => (g_c 9 sc_law_tables.nd)) (fun _ _ _ _ _ => f_nil) (fun _ _ _ _ _ => (e_blt (call_min2 rfl) ok_min2 T.b_min PyProof.Rows.Boot.min (a_cons (e_sub (e_var (i := 3)) e_int) (a_cons (e_add (e_var (i := 9)) e_int) a_nil)))))) s_nil) (s_cons (s_if (t_eq c (e_var (i := 6)) e_int) (s_one (s_set sc_law_tables.nd 8 (e_mul (e_lst (a_cons (e_var (i := 7)) a_nil)) (e_var (i := 3))))) s_nil) (s_cons (s_if (t_eq c (e_var (i := 6)) e_int) (s_one (s_setLc 8 (own := [("state", 9)]) rfl sc_law_tables.nd (i_rng1 T.b_range (a_cons (e_var (i := 3)) a_nil)) (blk_ok (by kernel_rfl)) (fun _ _ _ _ _ => (g_c 9 sc_law_tables.nd)) (fun _ _ _ _ _ => f_nil) (fun _ _ _ _ _ => (e_blt (call_max2 rfl) ok_max2 T.b_max PyProof.Rows.Boot.max (a_cons (e_var (i := 9)) (a_cons (e_var (i := 7)) a_nil)))))) s_nil) (s_one (s_app 4 (e_bty call_tuple_of ok_tupOf T.b_tuple PyProof.Rows.Boot.tuple (a_cons (e_var (i := 8)) a_nil))))))))))) (s_one (s_ret (e_var (i := 4))))))
abbrev x_law_log (K : Fg) (C : Cs) : WS := (wRet (wCB wTupOf (wCons (wLc (wiRg1 (wCons (wCallB 0 1 (sp_law_take C) (wCons (wOp wAdd (wVar 2) (wC (.int 1))) wNil)) wNil)) (wgName 3) wTrue (wCallB 0 1 (sp_law_take C) (wCons (wCB wLen (wCons (wVar 1) wNil)) wNil)) [3]) wNil)))
theorem dv_law_log (T : Txt P w K mg base C) (G_law_take : FnG P w K mg base 2 C.f_law_take C.d_law_take ["box", "many"] (lSp K 2 (sp_law_take C))) (U_law_take : Dn K mg "_law_take" C.f_law_take C.d_law_take ["box", "many"] 2) (cdv : Value) (A : Around) (outer : List Env) (s : Shared) (H : Hp) (E : XK) (c : Cok (cxOf (L2.CX P w) P w K mg base ["box", "tables", "most", "deed"] "_law_log" (defScope (top 33)) C.f_law_log cdv A outer s H E) (wishOf E) 2) :
    PSs (cxOf (L2.CX P w) P w K mg base ["box", "tables", "most", "deed"] "_law_log" (defScope (top 33)) C.f_law_log cdv A outer s H E) (defBody (top 33)) (lS K (wishOf E) (x_law_log K C)) :=
  (s_one (s_ret (e_bty call_tuple_of ok_tupOf T.b_tuple PyProof.Rows.Boot.tuple (a_cons (e_lc (own := [("deed", 3)]) rfl sc_law_log.nd (i_rng1 T.b_range (a_cons (e_callB c (i := 0) G_law_take U_law_take (a_cons (e_add (e_var (i := 2)) e_int) a_nil)) a_nil)) (blk_ok (by kernel_rfl)) (fun _ _ _ _ _ => (g_c 3 sc_law_log.nd)) (fun _ _ _ _ _ => f_nil) (fun _ _ _ _ _ => (e_callB (c.blk _ _ _ _ _) (i := 0) G_law_take U_law_take (a_cons (e_blt cr_lenD ok_len T.b_len PyProof.Rows.Boot.len (a_cons (e_var (i := 1)) a_nil)) a_nil)))) a_nil))))
abbrev x_law_reads (K : Fg) (C : Cs) : WS := (wTry K (.ref C.BadText) 1 (wRet (wCallA 0 1 (sp_read_machine C) pm_0 wNil (wCons (wVar 0) wNil))) (fun a cls d => (wRet (wTup (wCons (wC (.str "text")) (wCons (wXf a cls d C.BadText "at" (wVar 1)) (wCons (wCB (rIsXD K cls d a) (wCons (wVar 1) (wCons (wC (.raw (.ref C.AgeError))) wNil))) wNil)))))))
theorem dv_law_reads (T : Txt P w K mg base C) (kb_read_machine_0 : KBn K C.d_read_machine ["text"] 0 ["text"] (@pm_0 Value) (@pm_0 V)) (G_read_machine : FnG P w K mg base 9 C.f_read_machine C.d_read_machine ["text"] (lSp K 1 (sp_read_machine C))) (U_read_machine : Dn K mg "read_machine" C.f_read_machine C.d_read_machine ["text"] 1) (cdv : Value) (A : Around) (outer : List Env) (s : Shared) (H : Hp) (E : XK) (c : Cok (cxOf (L2.CX P w) P w K mg base ["text", "e"] "_law_reads" (defScope (top 34)) C.f_law_reads cdv A outer s H E) (wishOf E) 9) :
    PSs (cxOf (L2.CX P w) P w K mg base ["text", "e"] "_law_reads" (defScope (top 34)) C.f_law_reads cdv A outer s H E) (defBody (top 34)) (lS K (wishOf E) (x_law_reads K C)) :=
  (s_one (s_try (i := 1) sc_law_reads.nd c ⟨rfl, by decide, .inl T.BadText⟩ (fun W' pn xe c' hp' => (s_one (s_ret (e_callK c' G_read_machine U_read_machine.m U_read_machine.kp kb_read_machine_0 gr_0 (k_cons (e_var (i := 0)) k_nil))))) (fun a oe cls d pn hz hf => (s_one (s_ret (e_tup (a_cons e_str (a_cons (e_xf T.xf_BadText T.no_BadText hz hf (e_var (i := 1))) (a_cons (e_blt (call_isX hz hf) ok_isX T.b_isinstance PyProof.Rows.Boot.isinstance (a_cons (e_var (i := 1)) (a_cons (e_cls T.AgeError) a_nil))) a_nil)))))))))
abbrev x_law_reads_log (K : Fg) (C : Cs) : WS := (wTry K (.ref C.BadText) 2 (wRet (wCallA 2 0 (sp_read_log C) (fun ds _ => ds) (wCons (wVar 0) (wCons (wVar 1) wNil)) wNil)) (fun a cls d => (wRet (wTup (wCons (wC (.str "text")) (wCons (wXf a cls d C.BadText "at" (wVar 2)) (wCons (wCB (rIsXD K cls d a) (wCons (wVar 2) (wCons (wC (.raw (.ref C.AgeError))) wNil))) wNil)))))))
theorem dv_law_reads_log (T : Txt P w K mg base C) (G_read_log : FnG P w K mg base 3 C.f_read_log C.d_read_log ["machine", "text"] (lSp K 2 (sp_read_log C))) (U_read_log : Dn K mg "read_log" C.f_read_log C.d_read_log ["machine", "text"] 2) (cdv : Value) (A : Around) (outer : List Env) (s : Shared) (H : Hp) (E : XK) (c : Cok (cxOf (L2.CX P w) P w K mg base ["machine", "text", "e"] "_law_reads_log" (defScope (top 35)) C.f_law_reads_log cdv A outer s H E) (wishOf E) 3) :
    PSs (cxOf (L2.CX P w) P w K mg base ["machine", "text", "e"] "_law_reads_log" (defScope (top 35)) C.f_law_reads_log cdv A outer s H E) (defBody (top 35)) (lS K (wishOf E) (x_law_reads_log K C)) :=
  (s_one (s_try (i := 2) sc_law_reads_log.nd c ⟨rfl, by decide, .inl T.BadText⟩ (fun W' pn xe c' hp' => (s_one (s_ret (e_call c' G_read_log U_read_log (a_cons (e_var (i := 0)) (a_cons (e_var (i := 1)) a_nil)))))) (fun a oe cls d pn hz hf => (s_one (s_ret (e_tup (a_cons e_str (a_cons (e_xf T.xf_BadText T.no_BadText hz hf (e_var (i := 2))) (a_cons (e_blt (call_isX hz hf) ok_isX T.b_isinstance PyProof.Rows.Boot.isinstance (a_cons (e_var (i := 2)) (a_cons (e_cls T.AgeError) a_nil))) a_nil)))))))))
abbrev x_law_machine_right (K : Fg) (C : Cs) : WS := (wSeq (wPar 2 3 (wCons (wMake C.Machine 1 0 (sp_Machine_init C) (fun ds _ => ds) (wCons (wVar 1) wNil) wNil) (wCons (wCB wLen (wCons (wOp wIx (wVar 1) (wC (.int 0))) wNil)) wNil))) (wSeq (wAsg 4 (wOp wAdd (wLst (wCons (wOp wAdd (wC (.str "states ")) (wCB wStr (wCons (wVar 3) wNil))) wNil)) (wLc (wiSeq (wVar 1)) (wgName 10) wTrue (wM1 wJoin (wC (.str " ")) (wLc (wiSeq (wVar 10)) (wgName 11) wTrue (wCB wStr (wCons (wVar 11) wNil)) [11])) [10]))) (wSeq (wAsg 5 (wM1 wJoin (wC (.str "\n")) (wVar 4))) (wSeq (wIfS (wB (wOp (wEq true) (wCB wRepr (wCons (wCallA 1 0 (sp_machine_text C) (fun ds _ => ds) (wCons (wVar 2) wNil) wNil) wNil)) (wCB wRepr (wCons (wVar 5) wNil)))) (wRet (wC (.bl false))) wNext) (wSeq (wIfS (wB (wOp (wEq true) (wCallA 0 1 (sp_machine_text C) pm_0 wNil (wCons (wVar 2) wNil)) (wVar 5))) (wRet (wC (.bl false))) wNext) (wSeq (wIfS (wB (wOp (fun x y Φ => wEq true x y Φ ∨ wNeO C.Machine (sp_Machine_eq C) x y Φ) (wCallA 1 0 (sp_law_reads C) (fun ds _ => ds) (wCons (wVar 5) wNil) wNil) (wVar 2))) (wRet (wC (.bl false))) wNext) (wSeq (wIfS (wB (wOp (fun x y Φ => wEq true x y Φ ∨ wNeO C.Machine (sp_Machine_eq C) x y Φ) (wCallA 1 0 (sp_read_machine C) (fun ds _ => ds) (wCons (wVar 5) wNil) wNil) (wVar 2))) (wRet (wC (.bl false))) wNext) (wSeq (wAsg 6 (wCallB 0 1 (sp_law_take C) (wCons (wCB wLen (wCons (wVar 4) wNil)) wNil))) (wSeq (wAsg 7 (wOp wIx (wVar 4) (wVar 6))) (wSeq (wAsg 8 (wM1 wSplit (wVar 7) (wC (.str " ")))) (wSeq (wAsg 9 (wLst (wCons (wOp wAdd (wVar 7) (wC (.str " "))) (wCons (wOp wAdd (wC (.str " ")) (wVar 7)) (wCons (wC (.str "")) (wCons (wOp wAdd (wVar 7) (wC (.str " 0"))) (wCons (wOp wAdd (wRepN " " "  " 1 (wVar 7)) (wC (.str " "))) (wCons (wOp wAdd (wVar 7) (wC (.str "?"))) wNil)))))))) (wSeq (wAsg 9 (wOp wAdd (wVar 9) (wLc (wiSeq (wTup (wCons (wOp wAdd (wC (.str "0")) (wOp wIx (wVar 8) (wUn wNeg (wC (.int 1))))) (wCons (wC (.str "13")) (wCons (wC (.str "-1")) (wCons (wC (.str "X")) wNil)))))) (wgName 12) wTrue (wM1 wJoin (wC (.str " ")) (wOp wAdd (wSl (wVar 8) woNone (woSome (wUn wNeg (wC (.int 1))))) (wLst (wCons (wVar 12) wNil)))) [12]))) (wSeq (wIfS (wB (wOp (wEq true) (wCallA 1 0 (sp_law_reads C) (fun ds _ => ds) (wCons (wM1 wJoin (wC (.str "\n")) (wOp wAdd (wOp wAdd (wSl (wVar 4) woNone (woSome (wVar 6))) (wLst (wCons (wCallB 0 1 (sp_law_pick C) (wCons (wVar 9) wNil)) wNil))) (wSl (wVar 4) (woSome (wOp wAdd (wVar 6) (wC (.int 1)))) woNone))) wNil) wNil) (wTup (wCons (wC (.str "text")) (wCons (wOp wAdd (wVar 6) (wC (.int 1))) (wCons (wC (.bl true)) wNil)))))) (wRet (wC (.bl false))) wNext) (wSeq (wIfS (wB (wOp (wEq true) (wCallA 1 0 (sp_law_reads C) (fun ds _ => ds) (wCons (wOp wIx (wVar 4) (wC (.int 0))) wNil) wNil) (wTup (wCons (wC (.str "text")) (wCons (wC (.int 2)) (wCons (wC (.bl true)) wNil)))))) (wRet (wC (.bl false))) wNext) (wSeq (wIfS (wB (wOp (wEq true) (wCallA 1 0 (sp_law_reads C) (fun ds _ => ds) (wCons (wM1 wJoin (wC (.str "\n")) (wOp wAdd (wOp wAdd (wLst (wCons (wVar 5) wNil)) (wOp wMul (wLst (wCons (wOp wIx (wVar 4) (wUn wNeg (wC (.int 1)))) wNil)) (wOp wSub (wC (.int 8)) (wCB wLen (wCons (wVar 1) wNil))))) (wLst (wCons (wOp wIx (wVar 4) (wUn wNeg (wC (.int 1)))) wNil)))) wNil) wNil) (wTup (wCons (wC (.str "text")) (wCons (wC (.int 10)) (wCons (wC (.bl true)) wNil)))))) (wRet (wC (.bl false))) wNext) (wSeq (wIfS (wB (wOp (wEq true) (wLc (wiSeq (wTup (wCons (wC .non) (wCons (wC (.int 5)) (wCons (wLst (wCons (wVar 5) wNil)) (wCons (wC (.bl true)) wNil)))))) (wgName 13) (wB (wOp (wEq true) (wCallA 1 0 (sp_law_reads C) (fun ds _ => ds) (wCons (wVar 13) wNil) wNil) (wTup (wCons (wC (.str "text")) (wCons (wC (.int 0)) (wCons (wC (.bl true)) wNil)))))) (wVar 13) [13]) (wLst wNil))) (wRet (wC (.bl false))) wNext) (wRet (wOp (wEq false) (wLc (wiSeq (wTup (wCons (wC (.str "")) (wCons (wC (.str "states")) (wCons (wC (.str "states 0")) (wCons (wC (.str "states 13")) (wCons (wC (.str "States 1\n0")) (wCons (wC (.str "states 01\n0")) (wCons (wC (.str "states -1")) wNil))))))))) (wgName 13) (wB (wOp (wEq true) (wCallA 1 0 (sp_law_reads C) (fun ds _ => ds) (wCons (wVar 13) wNil) wNil) (wTup (wCons (wC (.str "text")) (wCons (wC (.int 1)) (wCons (wC (.bl true)) wNil)))))) (wVar 13) [13]) (wLst wNil)))))))))))))))))))
theorem dv_law_machine_right (T : Txt P w K mg base C) (kb_machine_text_0 : KBn K C.d_machine_text ["machine"] 0 ["machine"] (@pm_0 Value) (@pm_0 V)) (G_Machine_eq : FnG P w K mg base 2 C.f_Machine_eq C.d_Machine_eq ["self", "other"] (lSp K 2 (sp_Machine_eq C))) (K_Machine_eq : KBn K C.d_Machine_eq ["self", "other"] 2 [] (fun us _ => us) (fun us _ => us)) (G_Machine_init : FnG P w K mg base 7 C.f_Machine_init C.d_Machine_init ["self", "tables"] (lSp K 2 (sp_Machine_init C))) (K_Machine_init : KBn K C.d_Machine_init ["self", "tables"] 2 [] (fun us _ => us) (fun us _ => us)) (G_law_pick : FnG P w K mg base 3 C.f_law_pick C.d_law_pick ["box", "some"] (lSp K 2 (sp_law_pick C))) (U_law_pick : Dn K mg "_law_pick" C.f_law_pick C.d_law_pick ["box", "some"] 2) (G_law_reads : FnG P w K mg base 10 C.f_law_reads C.d_law_reads ["text"] (lSp K 1 (sp_law_reads C))) (U_law_reads : Dn K mg "_law_reads" C.f_law_reads C.d_law_reads ["text"] 1) (G_law_take : FnG P w K mg base 2 C.f_law_take C.d_law_take ["box", "many"] (lSp K 2 (sp_law_take C))) (U_law_take : Dn K mg "_law_take" C.f_law_take C.d_law_take ["box", "many"] 2) (G_machine_text : FnG P w K mg base 3 C.f_machine_text C.d_machine_text ["machine"] (lSp K 1 (sp_machine_text C))) (U_machine_text : Dn K mg "machine_text" C.f_machine_text C.d_machine_text ["machine"] 1) (G_read_machine : FnG P w K mg base 9 C.f_read_machine C.d_read_machine ["text"] (lSp K 1 (sp_read_machine C))) (U_read_machine : Dn K mg "read_machine" C.f_read_machine C.d_read_machine ["text"] 1) (cdv : Value) (A : Around) (outer : List Env) (s : Shared) (H : Hp) (E : XK) (c : Cok (cxOf (L2.CX P w) P w K mg base ["box", "tables", "machine", "many", "lines", "text", "at", "line", "words", "some", "table", "state", "odd", "value"] "_law_machine_right" (defScope (top 36)) C.f_law_machine_right cdv A outer s H E) (wishOf E) 10) :
    PSs (cxOf (L2.CX P w) P w K mg base ["box", "tables", "machine", "many", "lines", "text", "at", "line", "words", "some", "table", "state", "odd", "value"] "_law_machine_right" (defScope (top 36)) C.f_law_machine_right cdv A outer s H E) (defBody (top 36)) (lS K (wishOf E) (x_law_machine_right K C)) :=
  (s_cons (s_par sc_law_machine_right.nd rfl 2 3 (a_cons (e_make c T.mk_Machine G_Machine_init T.Machine K_Machine_init (a_cons (e_var (i := 1)) a_nil)) (a_cons (e_blt cr_lenD ok_len T.b_len PyProof.Rows.Boot.len (a_cons (e_ix (e_var (i := 1)) e_int) a_nil)) a_nil)) rfl) (s_cons (s_set sc_law_machine_right.nd 4 (e_add (e_lst (a_cons (e_add e_str (e_bty call_str_int ok_str T.b_str PyProof.Rows.Boot.str (a_cons (e_var (i := 3)) a_nil))) a_nil)) (e_lc (own := [("table", 10)]) rfl sc_law_machine_right.nd (i_seq (e_var (i := 1))) (blk_ok (by kernel_rfl)) (fun _ _ _ _ _ => (g_c 10 sc_law_machine_right.nd)) (fun _ _ _ _ _ => f_nil) (fun _ _ _ _ _ => (e_join e_str (e_lc (own := [("state", 11)]) rfl sc_law_machine_right.nd (i_seq (e_var (i := 10))) (blk_ok (by kernel_rfl)) (fun _ _ _ _ _ => (g_c 11 sc_law_machine_right.nd)) (fun _ _ _ _ _ => f_nil) (fun _ _ _ _ _ => (e_bty call_str_int ok_str T.b_str PyProof.Rows.Boot.str (a_cons (e_var (i := 11)) a_nil))))))))) (s_cons (s_set sc_law_machine_right.nd 5 (e_join e_str (e_var (i := 4)))) (s_cons (s_if (t_ne c (e_blt (cr_repr c) ok_repr T.b_repr PyProof.Rows.Boot.repr (a_cons (e_call c G_machine_text U_machine_text (a_cons (e_var (i := 2)) a_nil)) a_nil)) (e_blt (cr_repr c) ok_repr T.b_repr PyProof.Rows.Boot.repr (a_cons (e_var (i := 5)) a_nil))) (s_one (s_ret e_bl)) s_nil) (s_cons (s_if (t_ne c (e_callK c G_machine_text U_machine_text.m U_machine_text.kp kb_machine_text_0 gr_0 (k_cons (e_var (i := 2)) k_nil)) (e_var (i := 5))) (s_one (s_ret e_bl)) s_nil) (s_cons (s_if (e_neO c T.eq_Machine G_Machine_eq K_Machine_eq (e_call c G_law_reads U_law_reads (a_cons (e_var (i := 5)) a_nil)) (e_var (i := 2))) (s_one (s_ret e_bl)) s_nil) (s_cons (s_if (e_neO c T.eq_Machine G_Machine_eq K_Machine_eq (e_call c G_read_machine U_read_machine (a_cons (e_var (i := 5)) a_nil)) (e_var (i := 2))) (s_one (s_ret e_bl)) s_nil) (s_cons (s_set sc_law_machine_right.nd 6 (e_callB c (i := 0) G_law_take U_law_take (a_cons (e_blt cr_lenD ok_len T.b_len PyProof.Rows.Boot.len (a_cons (e_var (i := 4)) a_nil)) a_nil))) (s_cons (s_set sc_law_machine_right.nd 7 (e_ix (e_var (i := 4)) (e_var (i := 6)))) (s_cons (s_set sc_law_machine_right.nd 8 (e_split (e_var (i := 7)) e_str)) (s_cons (s_set sc_law_machine_right.nd 9 (e_lst (a_first (e_var (i := 7)) (at_cons (petOf (e_add e_str (e_var (i := 7)))) (at_cons (petOf e_str) (at_cons (petOf (e_add (e_var (i := 7)) e_str)) (at_cons (t_rep (e_var (i := 7)) e_str) (at_cons (petOf (e_add (e_var (i := 7)) e_str)) at_nil)))))))) (s_cons (s_set sc_law_machine_right.nd 9 (e_add (e_var (i := 9)) (e_lc (own := [("odd", 12)]) rfl sc_law_machine_right.nd (i_seq (e_tup (a_cons (e_add e_str (e_ix (e_var (i := 8)) (e_neg e_int))) (a_cons e_str (a_cons e_str (a_cons e_str a_nil)))))) (blk_ok (by kernel_rfl)) (fun _ _ _ _ _ => (g_c 12 sc_law_machine_right.nd)) (fun _ _ _ _ _ => f_nil) (fun _ _ _ _ _ => (e_join e_str (e_add (e_slice (e_var (i := 8)) s_none (s_some (e_neg e_int))) (e_lst (a_cons (e_var (i := 12)) a_nil)))))))) (s_cons (s_if (t_ne c (e_call c G_law_reads U_law_reads (a_cons (e_join e_str (e_add (e_add (e_slice (e_var (i := 4)) s_none (s_some (e_var (i := 6)))) (e_lst (a_cons (e_callB c (i := 0) G_law_pick U_law_pick (a_cons (e_var (i := 9)) a_nil)) a_nil))) (e_slice (e_var (i := 4)) (s_some (e_add (e_var (i := 6)) e_int)) s_none))) a_nil)) (e_tup (a_cons e_str (a_cons (e_add (e_var (i := 6)) e_int) (a_cons e_bl a_nil))))) (s_one (s_ret e_bl)) s_nil) (s_cons (s_if (t_ne c (e_call c G_law_reads U_law_reads (a_cons (e_ix (e_var (i := 4)) e_int) a_nil)) (e_tup (a_cons e_str (a_cons e_int (a_cons e_bl a_nil))))) (s_one (s_ret e_bl)) s_nil) (s_cons (s_if (t_ne c (e_call c G_law_reads U_law_reads (a_cons (e_join e_str (e_add (e_add (e_lst (a_cons (e_var (i := 5)) a_nil)) (e_mul (e_lst (a_cons (e_ix (e_var (i := 4)) (e_neg e_int)) a_nil)) (e_sub e_int (e_blt cr_lenD ok_len T.b_len PyProof.Rows.Boot.len (a_cons (e_var (i := 1)) a_nil))))) (e_lst (a_cons (e_ix (e_var (i := 4)) (e_neg e_int)) a_nil)))) a_nil)) (e_tup (a_cons e_str (a_cons e_int (a_cons e_bl a_nil))))) (s_one (s_ret e_bl)) s_nil) (s_cons (s_if (t_ne c (e_lc (own := [("value", 13)]) rfl sc_law_machine_right.nd (i_seq (e_tup (a_cons e_non (a_cons e_int (a_cons (e_lst (a_cons (e_var (i := 5)) a_nil)) (a_cons e_bl a_nil)))))) (blk_ok (by kernel_rfl)) (fun _ _ _ _ _ => (g_c 13 sc_law_machine_right.nd)) (fun _ _ _ _ _ => (f_one (t_ne (c.blk _ _ _ _ _) (e_call (c.blk _ _ _ _ _) G_law_reads U_law_reads (a_cons (e_var (i := 13)) a_nil)) (e_tup (a_cons e_str (a_cons e_int (a_cons e_bl a_nil))))))) (fun _ _ _ _ _ => (e_var (i := 13)))) (e_lst a_nil)) (s_one (s_ret e_bl)) s_nil) (s_one (s_ret (e_eq c (e_lc (own := [("value", 13)]) rfl sc_law_machine_right.nd (i_seq (e_tup (a_cons e_str (a_cons e_str (a_cons e_str (a_cons e_str (a_cons e_str (a_cons e_str (a_cons e_str a_nil))))))))) (blk_ok (by kernel_rfl)) (fun _ _ _ _ _ => (g_c 13 sc_law_machine_right.nd)) (fun _ _ _ _ _ => (f_one (t_ne (c.blk _ _ _ _ _) (e_call (c.blk _ _ _ _ _) G_law_reads U_law_reads (a_cons (e_var (i := 13)) a_nil)) (e_tup (a_cons e_str (a_cons e_int (a_cons e_bl a_nil))))))) (fun _ _ _ _ _ => (e_var (i := 13)))) (e_lst a_nil))))))))))))))))))))
abbrev x_law_log_right (K : Fg) (C : Cs) : WS := (wSeq (wAsgG (wgTup 2 (wgCons (wgName 2) (wgCons (wgName 3) wgNil))) (wTup (wCons (wMake C.Machine 1 0 (sp_Machine_init C) (fun ds _ => ds) (wCons (wVar 1) wNil) wNil) (wCons (wCB wLen (wCons (wVar 1) wNil)) wNil)))) (wSeq (wAsg 4 (wCB wLstOf (wCons (wCallB 0 2 (sp_law_log C) (wCons (wVar 1) (wCons (wC (.int 7)) wNil))) wNil))) (wSeq (wAsg 5 (wLc (wiSeq (wVar 4)) (wgName 10) wTrue (wCB wStr (wCons (wVar 10) wNil)) [10])) (wSeq (wAsg 6 (wIf (wB (wOp (wEq true) (wVar 5) (wLst wNil))) (wM1 wJoin (wC (.str " ")) (wVar 5)) (wC (.str "-")))) (wSeq (wIfS (wOr (wB (wOp (wEq true) (wCB wRepr (wCons (wCallA 2 0 (sp_log_text C) (fun ds _ => ds) (wCons (wVar 2) (wCons (wVar 4) wNil)) wNil) wNil)) (wCB wRepr (wCons (wVar 6) wNil)))) (wB (wOp (wEq true) (wCallA 0 2 (sp_log_text C) pm_10 wNil (wCons (wCB wTupOf (wCons (wVar 4) wNil)) (wCons (wVar 2) wNil))) (wVar 6)))) (wRet (wC (.bl false))) wNext) (wSeq (wIfS (wOr (wB (wOp (wEq true) (wCB wRepr (wCons (wCallA 2 0 (sp_law_reads_log C) (fun ds _ => ds) (wCons (wVar 2) (wCons (wVar 6) wNil)) wNil) wNil)) (wCB wRepr (wCons (wCB wTupOf (wCons (wVar 4) wNil)) wNil)))) (wB (wOp (wEq true) (wCallA 0 2 (sp_read_log C) pm_10 wNil (wCons (wVar 6) (wCons (wVar 2) wNil))) (wCB wTupOf (wCons (wVar 4) wNil))))) (wRet (wC (.bl false))) wNext) (wSeq (wAsg 7 (wCallB 0 1 (sp_law_take C) (wCons (wOp wAdd (wCB wLen (wCons (wVar 5) wNil)) (wC (.int 1))) wNil))) (wSeq (wAsg 8 (wCallB 0 1 (sp_law_pick C) (wCons (wLst (wCons (wCB wStr (wCons (wVar 3) wNil)) (wCons (wC (.str "-")) (wCons (wC (.str "x")) (wCons (wC (.str "")) (wCons (wC (.str "00")) (wCons (wC (.str "-1")) (wCons (wC (.str "1?")) (wCons (wC (.str "a")) wNil))))))))) wNil))) (wSeq (wIfS (wB (wOp (wEq true) (wCallA 2 0 (sp_law_reads_log C) (fun ds _ => ds) (wCons (wVar 2) (wCons (wM1 wJoin (wC (.str " ")) (wOp wAdd (wOp wAdd (wOp wAdd (wSl (wVar 5) woNone (woSome (wVar 7))) (wLst (wCons (wVar 8) wNil))) (wSl (wVar 5) (woSome (wVar 7)) woNone)) (wLst (wCons (wC (.str "?")) wNil)))) wNil)) wNil) (wTup (wCons (wC (.str "text")) (wCons (wVar 7) (wCons (wC (.bl true)) wNil)))))) (wRet (wC (.bl false))) wNext) (wSeq (wIfS (wB (wOp (wEq true) (wLc (wiSeq (wTup (wCons (wC .non) (wCons (wC (.int 0)) (wCons (wLst wNil) (wCons (wLst (wCons (wC (.str "0")) wNil)) wNil)))))) (wgName 11) (wB (wOp (wEq true) (wCallA 2 0 (sp_law_reads_log C) (fun ds _ => ds) (wCons (wVar 2) (wCons (wVar 11) wNil)) wNil) (wTup (wCons (wC (.str "text")) (wCons (wC (.int 0)) (wCons (wC (.bl true)) wNil)))))) (wVar 11) [11]) (wLst wNil))) (wRet (wC (.bl false))) wNext) (wSeq (wTry K (.ref C.BadLog) 9 (wDrop (wCallA 2 0 (sp_log_text C) (fun ds _ => ds) (wCons (wVar 2) (wCons (wOp wAdd (wVar 4) (wLst (wCons (wVar 3) wNil))) wNil)) wNil)) (fun a cls d => (wRet (wOp (wEq false) (wXf a cls d C.BadLog "at" (wVar 9)) (wCB wLen (wCons (wVar 4) wNil)))))) (wRet (wC (.bl false))))))))))))))
theorem dv_law_log_right (T : Txt P w K mg base C) (kb_log_text_10 : KBn K C.d_log_text ["machine", "log"] 0 ["log", "machine"] (@pm_10 Value) (@pm_10 V)) (kb_read_log_10 : KBn K C.d_read_log ["machine", "text"] 0 ["text", "machine"] (@pm_10 Value) (@pm_10 V)) (G_Machine_init : FnG P w K mg base 7 C.f_Machine_init C.d_Machine_init ["self", "tables"] (lSp K 2 (sp_Machine_init C))) (K_Machine_init : KBn K C.d_Machine_init ["self", "tables"] 2 [] (fun us _ => us) (fun us _ => us)) (G_law_log : FnG P w K mg base 3 C.f_law_log C.d_law_log ["box", "tables", "most"] (lSp K 3 (sp_law_log C))) (U_law_log : Dn K mg "_law_log" C.f_law_log C.d_law_log ["box", "tables", "most"] 3) (G_law_pick : FnG P w K mg base 3 C.f_law_pick C.d_law_pick ["box", "some"] (lSp K 2 (sp_law_pick C))) (U_law_pick : Dn K mg "_law_pick" C.f_law_pick C.d_law_pick ["box", "some"] 2) (G_law_reads_log : FnG P w K mg base 4 C.f_law_reads_log C.d_law_reads_log ["machine", "text"] (lSp K 2 (sp_law_reads_log C))) (U_law_reads_log : Dn K mg "_law_reads_log" C.f_law_reads_log C.d_law_reads_log ["machine", "text"] 2) (G_law_take : FnG P w K mg base 2 C.f_law_take C.d_law_take ["box", "many"] (lSp K 2 (sp_law_take C))) (U_law_take : Dn K mg "_law_take" C.f_law_take C.d_law_take ["box", "many"] 2) (G_log_text : FnG P w K mg base 7 C.f_log_text C.d_log_text ["machine", "log"] (lSp K 2 (sp_log_text C))) (U_log_text : Dn K mg "log_text" C.f_log_text C.d_log_text ["machine", "log"] 2) (G_read_log : FnG P w K mg base 3 C.f_read_log C.d_read_log ["machine", "text"] (lSp K 2 (sp_read_log C))) (U_read_log : Dn K mg "read_log" C.f_read_log C.d_read_log ["machine", "text"] 2) (cdv : Value) (A : Around) (outer : List Env) (s : Shared) (H : Hp) (E : XK) (c : Cok (cxOf (L2.CX P w) P w K mg base ["box", "tables", "machine", "many", "log", "words", "text", "at", "odd", "e", "deed", "value"] "_law_log_right" (defScope (top 37)) C.f_law_log_right cdv A outer s H E) (wishOf E) 8) :
    PSs (cxOf (L2.CX P w) P w K mg base ["box", "tables", "machine", "many", "log", "words", "text", "at", "odd", "e", "deed", "value"] "_law_log_right" (defScope (top 37)) C.f_law_log_right cdv A outer s H E) (defBody (top 37)) (lS K (wishOf E) (x_law_log_right K C)) :=
  (s_cons (s_asg (e_tup (a_cons (e_make c T.mk_Machine G_Machine_init T.Machine K_Machine_init (a_cons (e_var (i := 1)) a_nil)) (a_cons (e_blt cr_lenD ok_len T.b_len PyProof.Rows.Boot.len (a_cons (e_var (i := 1)) a_nil)) a_nil))) (g_two sc_law_log_right.nd rfl 2 3)) (s_cons (s_set sc_law_log_right.nd 4 (e_bty call_list_of ok_lstOf T.b_list PyProof.Rows.Boot.list (a_cons (e_callB c (i := 0) G_law_log U_law_log (a_cons (e_var (i := 1)) (a_cons e_int a_nil))) a_nil))) (s_cons (s_setLc 5 (own := [("deed", 10)]) rfl sc_law_log_right.nd (i_seq (e_var (i := 4))) (blk_ok (by kernel_rfl)) (fun _ _ _ _ _ => (g_c 10 sc_law_log_right.nd)) (fun _ _ _ _ _ => f_nil) (fun _ _ _ _ _ => (e_bty call_str_int ok_str T.b_str PyProof.Rows.Boot.str (a_cons (e_var (i := 10)) a_nil)))) (s_cons (s_set sc_law_log_right.nd 6 (e_if (t_ne c (e_var (i := 5)) (e_lst a_nil)) (e_join e_str (e_var (i := 5))) e_str)) (s_cons (s_if (t_pw (q_or (t_ne c (e_blt (cr_repr c) ok_repr T.b_repr PyProof.Rows.Boot.repr (a_cons (e_call c G_log_text U_log_text (a_cons (e_var (i := 2)) (a_cons (e_var (i := 4)) a_nil))) a_nil)) (e_blt (cr_repr c) ok_repr T.b_repr PyProof.Rows.Boot.repr (a_cons (e_var (i := 6)) a_nil))) (q_or1 (t_ne c (e_callK c G_log_text U_log_text.m U_log_text.kp kb_log_text_10 gr_10 (k_cons (e_bty call_tuple_of ok_tupOf T.b_tuple PyProof.Rows.Boot.tuple (a_cons (e_var (i := 4)) a_nil)) (k_cons (e_var (i := 2)) k_nil))) (e_var (i := 6)))))) (s_one (s_ret e_bl)) s_nil) (s_cons (s_if (t_pw (q_or (t_ne c (e_blt (cr_repr c) ok_repr T.b_repr PyProof.Rows.Boot.repr (a_cons (e_call c G_law_reads_log U_law_reads_log (a_cons (e_var (i := 2)) (a_cons (e_var (i := 6)) a_nil))) a_nil)) (e_blt (cr_repr c) ok_repr T.b_repr PyProof.Rows.Boot.repr (a_cons (e_bty call_tuple_of ok_tupOf T.b_tuple PyProof.Rows.Boot.tuple (a_cons (e_var (i := 4)) a_nil)) a_nil))) (q_or1 (t_ne c (e_callK c G_read_log U_read_log.m U_read_log.kp kb_read_log_10 gr_10 (k_cons (e_var (i := 6)) (k_cons (e_var (i := 2)) k_nil))) (e_bty call_tuple_of ok_tupOf T.b_tuple PyProof.Rows.Boot.tuple (a_cons (e_var (i := 4)) a_nil)))))) (s_one (s_ret e_bl)) s_nil) (s_cons (s_set sc_law_log_right.nd 7 (e_callB c (i := 0) G_law_take U_law_take (a_cons (e_add (e_blt cr_lenD ok_len T.b_len PyProof.Rows.Boot.len (a_cons (e_var (i := 5)) a_nil)) e_int) a_nil))) (s_cons (s_set sc_law_log_right.nd 8 (e_callB c (i := 0) G_law_pick U_law_pick (a_cons (e_lst (a_cons (e_bty call_str_int ok_str T.b_str PyProof.Rows.Boot.str (a_cons (e_var (i := 3)) a_nil)) (a_cons e_str (a_cons e_str (a_cons e_str (a_cons e_str (a_cons e_str (a_cons e_str (a_cons e_str a_nil))))))))) a_nil))) (s_cons (s_if (t_ne c (e_call c G_law_reads_log U_law_reads_log (a_cons (e_var (i := 2)) (a_cons (e_join e_str (e_add (e_add (e_add (e_slice (e_var (i := 5)) s_none (s_some (e_var (i := 7)))) (e_lst (a_cons (e_var (i := 8)) a_nil))) (e_slice (e_var (i := 5)) (s_some (e_var (i := 7))) s_none)) (e_lst (a_cons e_str a_nil)))) a_nil))) (e_tup (a_cons e_str (a_cons (e_var (i := 7)) (a_cons e_bl a_nil))))) (s_one (s_ret e_bl)) s_nil) (s_cons (s_if (t_ne c (e_lc (own := [("value", 11)]) rfl sc_law_log_right.nd (i_seq (e_tup (a_cons e_non (a_cons e_int (a_cons (e_lst a_nil) (a_cons (e_lst (a_cons e_str a_nil)) a_nil)))))) (blk_ok (by kernel_rfl)) (fun _ _ _ _ _ => (g_c 11 sc_law_log_right.nd)) (fun _ _ _ _ _ => (f_one (t_ne (c.blk _ _ _ _ _) (e_call (c.blk _ _ _ _ _) G_law_reads_log U_law_reads_log (a_cons (e_var (i := 2)) (a_cons (e_var (i := 11)) a_nil))) (e_tup (a_cons e_str (a_cons e_int (a_cons e_bl a_nil))))))) (fun _ _ _ _ _ => (e_var (i := 11)))) (e_lst a_nil)) (s_one (s_ret e_bl)) s_nil) (s_cons (s_try (i := 9) sc_law_log_right.nd c ⟨rfl, by decide, .inl T.BadLog⟩ (fun W' pn xe c' hp' => (s_one (s_drop (e_call c' G_log_text U_log_text (a_cons (e_var (i := 2)) (a_cons (e_add (e_var (i := 4)) (e_lst (a_cons (e_var (i := 3)) a_nil))) a_nil)))))) (fun a oe cls d pn hz hf => (s_one (s_ret (e_eqU c.u64' (e_xf T.xf_BadLog T.no_BadLog hz hf (e_var (i := 9))) (e_blt cr_lenD ok_len T.b_len PyProof.Rows.Boot.len (a_cons (e_var (i := 4)) a_nil))))))) (s_one (s_ret e_bl)))))))))))))
abbrev x_law (K : Fg) (C : Cs) : WS := (wSeq (wFor (wiRg1 (wCons (wC (.int 4)) wNil)) (wgName 1) (wSeq (wAsgO 2 (woCall 2 (so_law_box C) (wCons (wVar 0) (wCons (wVar 1) wNil)))) (wSeq (wAsg 3 (wCallB 2 2 (sp_law_tables C) (wCons (wLst (wCons (wC (.int 1)) (wCons (wC (.int 2)) (wCons (wC (.int 3)) (wCons (wC (.int 4)) (wCons (wC (.int 5)) wNil)))))) (wCons (wLst (wCons (wC (.int 1)) (wCons (wC (.int 2)) (wCons (wC (.int 3)) (wCons (wC (.int 4)) wNil))))) wNil)))) (wSeq (wAsg 3 (wIf (wB (wOp wGt (wCallB 2 1 (sp_law_take C) (wCons (wC (.int 9)) wNil)) (wC (.int 0)))) (wVar 3) (wOp wMul (wLst (wCons (wRgT (wCons (wC (.int 12)) wNil)) wNil)) (wC (.int 8))))) (wIfS (wOr (wNot (wB (wCallB 2 1 (sp_law_machine_right C) (wCons (wVar 3) wNil)))) (wNot (wB (wCallB 2 1 (sp_law_log_right C) (wCons (wVar 3) wNil))))) (wRet (wC (.bl false))) wNext))))) (wRet (wOrV (wOp wGt (wCallT 1 (sp_law_take C) (woCall 2 (so_law_box C) (wCons (wVar 0) (wCons (wC (.int 5)) wNil))) (wCons (wC (.int 12)) wNil)) (wC (.int 0))) (wOp (wEq false) (wCallA 2 0 (sp_law_reads_log C) (fun ds _ => ds) (wCons (wMake C.Machine 1 0 (sp_Machine_init C) (fun ds _ => ds) (wCons (wLst (wCons (wLst (wCons (wC (.int 0)) wNil)) wNil)) wNil) wNil) (wCons (wM1 wJoin (wC (.str " ")) (wOp wMul (wLst (wCons (wC (.str "0")) wNil)) (wC (.int 10001)))) wNil)) wNil) (wTup (wCons (wC (.str "text")) (wCons (wC (.int 10000)) (wCons (wC (.bl true)) wNil))))))))
theorem dv_law (T : Txt P w K mg base C) (G_Machine_init : FnG P w K mg base 7 C.f_Machine_init C.d_Machine_init ["self", "tables"] (lSp K 2 (sp_Machine_init C))) (K_Machine_init : KBn K C.d_Machine_init ["self", "tables"] 2 [] (fun us _ => us) (fun us _ => us)) (G_law_box : FnG P w K mg base 2 C.f_law_box C.d_law_box ["script", "k"] (lSpO K 2 (so_law_box C))) (U_law_box : Dn K mg "_law_box" C.f_law_box C.d_law_box ["script", "k"] 2) (G_law_log_right : FnG P w K mg base 9 C.f_law_log_right C.d_law_log_right ["box", "tables"] (lSp K 2 (sp_law_log_right C))) (U_law_log_right : Dn K mg "_law_log_right" C.f_law_log_right C.d_law_log_right ["box", "tables"] 2) (G_law_machine_right : FnG P w K mg base 11 C.f_law_machine_right C.d_law_machine_right ["box", "tables"] (lSp K 2 (sp_law_machine_right C))) (U_law_machine_right : Dn K mg "_law_machine_right" C.f_law_machine_right C.d_law_machine_right ["box", "tables"] 2) (G_law_reads_log : FnG P w K mg base 4 C.f_law_reads_log C.d_law_reads_log ["machine", "text"] (lSp K 2 (sp_law_reads_log C))) (U_law_reads_log : Dn K mg "_law_reads_log" C.f_law_reads_log C.d_law_reads_log ["machine", "text"] 2) (G_law_tables : FnG P w K mg base 4 C.f_law_tables C.d_law_tables ["box", "sizes", "kinds"] (lSp K 3 (sp_law_tables C))) (U_law_tables : Dn K mg "_law_tables" C.f_law_tables C.d_law_tables ["box", "sizes", "kinds"] 3) (G_law_take : FnG P w K mg base 2 C.f_law_take C.d_law_take ["box", "many"] (lSp K 2 (sp_law_take C))) (U_law_take : Dn K mg "_law_take" C.f_law_take C.d_law_take ["box", "many"] 2) (cdv : Value) (A : Around) (outer : List Env) (s : Shared) (H : Hp) (E : XK) (c : Cok (cxOf (L2.CX P w) P w K mg base ["script", "k", "box", "tables"] "law" (defScope (top 38)) C.f_law cdv A outer s H E) (wishOf E) 11) :
    PSs (cxOf (L2.CX P w) P w K mg base ["script", "k", "box", "tables"] "law" (defScope (top 38)) C.f_law cdv A outer s H E) (defBody (top 38)) (lS K (wishOf E) (x_law K C)) :=
  (s_cons (s_for (passes_of rfl) rfl (i_rng1 T.b_range (a_cons e_int a_nil)) (g_nm sc_law.nd 1) (s_cons (s_setO sc_law.nd 2 (o_call c G_law_box U_law_box (a_cons (e_var (i := 0)) (a_cons (e_var (i := 1)) a_nil)))) (s_cons (s_set sc_law.nd 3 (e_callB c (i := 2) G_law_tables U_law_tables (a_cons (e_lst (a_cons e_int (a_cons e_int (a_cons e_int (a_cons e_int (a_cons e_int a_nil)))))) (a_cons (e_lst (a_cons e_int (a_cons e_int (a_cons e_int (a_cons e_int a_nil))))) a_nil)))) (s_cons (s_set sc_law.nd 3 (e_if (t_gt (e_callB c (i := 2) G_law_take U_law_take (a_cons e_int a_nil)) e_int) (e_var (i := 3)) (e_mul (e_lst (a_cons (e_tupRg rfl T.b_tuple T.b_range e_int) a_nil)) e_int))) (s_one (s_if (t_pw (q_or (t_not (t_val (e_callB c (i := 2) G_law_machine_right U_law_machine_right (a_cons (e_var (i := 3)) a_nil)))) (q_or1 (t_not (t_val (e_callB c (i := 2) G_law_log_right U_law_log_right (a_cons (e_var (i := 3)) a_nil))))))) (s_one (s_ret e_bl)) s_nil)))))) (s_one (s_ret (e_or (e_gt (e_callT c G_law_take U_law_take (o_call c G_law_box U_law_box (a_cons (e_var (i := 0)) (a_cons e_int a_nil))) (a_cons e_int a_nil)) e_int) (e_or1 (e_eq c (e_call c G_law_reads_log U_law_reads_log (a_cons (e_make c T.mk_Machine G_Machine_init T.Machine K_Machine_init (a_cons (e_lst (a_cons (e_lst (a_cons e_int a_nil)) a_nil)) a_nil)) (a_cons (e_join e_str (e_mul (e_lst (a_cons e_str a_nil)) e_int)) a_nil))) (e_tup (a_cons e_str (a_cons e_int (a_cons e_bl a_nil))))))))))
end
end K04
set_option Elab.async false
set_option autoImplicit false
set_option linter.all false
set_option maxRecDepth 100000
set_option maxHeartbeats 3900000
namespace K04
open DL L2 PyProof.Rows PySem PySem.Spec
def subT (a b : String) : Bool := decide (a = b) || (decide (a = "bool") && decide (b = "int"))
theorem is_ty {K : Fg} {x : D} {t n : String} {Φ : D → Prop} (h : tyN x = some t) (hn : n ∈ ["int", "bool", "str", "list", "tuple"]) (q : Φ (.bl (subT t n))) : wIsI K [x, .raw (.ty n)] Φ := by
  have go : ∀ b, PySem.W.kitOne K (.type t) (.type n) = some b → subT t n = b → DTy K x (.type t) → wIsI K [x, .raw (.ty n)] Φ := fun b h1 h2 h3 => ⟨.type n, .type t, b, .ty n, h3, h1, h2 ▸ q⟩
  simp only [List.mem_cons, List.not_mem_nil, or_false] at hn
  cases x <;> cases h <;> rcases hn with rfl | rfl | rfl | rfl | rfl <;> first | exact go true (by kernel_rfl) (by decide) (by constructor) | exact go false (by kernel_rfl) (by decide) (by constructor)
theorem is_seq {K : Fg} {x : D} {Φ : D → Prop} (h : plain x) (q : Φ (.bl (seqD x).isSome)) : wIsT K [x, .tup [.raw (.ty "list"), .raw (.ty "tuple")]] Φ := by
  have go : ∀ (t : String) b, PySem.W.kitAny K (.type t) [.type "list", .type "tuple"] = some b → (seqD x).isSome = b → DTy K x (.type t) → wIsT K [x, .tup [.raw (.ty "list"), .raw (.ty "tuple")]] Φ := fun t b h1 h2 h3 =>
    ⟨_, [.type "list", .type "tuple"], .type t, b, .cons _ (.cons _ .nil), .cons (.ty _) (.cons (.ty _) .nil), h3, h1, h2 ▸ q⟩
  cases x <;> first
    | exact go _ true (by kernel_rfl) rfl (by constructor)
    | exact go _ false (by kernel_rfl) rfl (by constructor)
    | (cases h)
theorem none_of {α β : Type} {h : Option α} {f : α → β} (e : h.map f = none) : h = none := by cases h <;> first | rfl | cases e
section
variable {K : Fg} {C : Cs}
/-- the sem of a def that owns nothing -/
abbrev Sem0 (n m : Nat) (sp : Spc) (x : WS) : Prop := ∀ hl ds Ψ Ξ, (args hl ds).length = n → sp (hl.map (·.2)) ds Ψ Ξ → x (args hl ds ++ List.replicate (m - n) .un) (dEnds hl Ψ Ξ)
theorem m_is_integer : Sem0 1 1 (sp_is_integer C) (x_is_integer K C) := by
  rintro hl ds Ψ Ξ - ⟨h, x, rfl, hp, q⟩
  cases none_of h
  obtain ⟨t, ht⟩ := Option.isSome_iff_exists.mp hp
  simp only [x_is_integer, wRet, wAndV, wCB, wCons, wVar, wNil, wC, wNotV, args, List.map, List.nil_append, List.cons_append, List.getElem?_cons_zero]
  refine is_ty ht (by decide) ?_
  cases x <;> cases ht <;> first
    | exact q
    | (show if subT "int" "int" = true then _ else _; rw [if_pos (by decide)]; refine is_ty (t := "int") rfl (by decide) ?_; exact q)
    | (show if subT "bool" "int" = true then _ else _; rw [if_pos (by decide)]; refine is_ty (t := "bool") rfl (by decide) ?_; exact q)
theorem m_is_below : Sem0 2 2 (sp_is_below C) (x_is_below K C) := by
  rintro hl ds Ψ Ξ - ⟨h, x, m, rfl, hp, q⟩
  cases none_of h
  refine ⟨rfl, rfl, rfl, x, rfl, hp, ?_⟩
  cases x <;> first | exact q | skip
  rename_i v
  show if (decide (0 ≤ v)) = true then _ else _
  replace q : Ψ (.bl (decide (0 ≤ v) && decide (v < m))) none := q
  cases h : decide (0 ≤ v) <;> rw [h] at q <;> exact q
theorem m_is_sequence : Sem0 1 1 (sp_is_sequence C) (x_is_sequence K C) := by
  rintro hl ds Ψ Ξ - ⟨h, x, rfl, hp, q⟩
  cases none_of h
  simp only [x_is_sequence, wRet, wCB, wCons, wVar, wNil, wC, wTup, args, List.map, List.nil_append, List.cons_append, List.getElem?_cons_zero]
  refine ⟨show 2 ≤ sizeLine by decide, is_seq hp ?_⟩
  exact q
theorem m_fault_place : Sem0 2 4 (sp_fault_place C) (x_fault_place K C) := by
  rintro hl ds Ψ Ξ - ⟨h, x, xs, m, rfl, hx, hp, q⟩
  cases none_of h
  have loop : ∀ (xs : List D) (i : Nat) (a b : Sl), (∀ y ∈ xs, plain y) → Ψ (faultD m xs i) none →
      wForL (wgTup 2 (wgCons (wgName 2) (wgCons (wgName 3) wgNil))) (wIfS (wNot (wB (wCallA 2 0 (sp_is_below C) (fun ds _ => ds) (wCons (wVar 3) (wCons (wVar 1) wNil)) wNil))) (wRet (wVar 2)) wNext)
        ((xs.zipIdx i).map fun p => .tup [.int (p.2 : Nat), p.1]) [.val x, .val (.int m), a, b] { dEnds none Ψ Ξ with nx := fun ρ => (dEnds none Ψ Ξ).rt .non ρ } := by
    intro xs
    induction xs with
    | nil => intro i a b _ q; exact q
    | cons y ys ih =>
      intro i a b hp q
      refine ⟨rfl, rfl, rfl, rfl, rfl, y, m, rfl, hp y List.mem_cons_self, ?_⟩
      show if (!belowD y m) = true then _ else _
      unfold faultD at q
      cases hb : belowD y m <;> rw [hb] at q
      · exact q
      · exact ih (i + 1) _ _ (fun z hz => hp z (List.mem_cons_of_mem _ hz)) q
  have := loop xs 0 .un .un hp q
  cases x <;> cases hx <;> exact this
end
end K04
set_option Elab.async false
set_option autoImplicit false
set_option linter.all false
set_option maxRecDepth 100000
set_option maxHeartbeats 3900000
namespace K04
open DL L2 PyProof.Rows PySem PySem.Spec
section
variable {K : Fg} {C : Cs}
theorem seq_cases {x : D} {xs : List D} (h : seqD x = some xs) : x = .lst xs ∨ x = .tup xs := by cases x <;> cases h <;> simp
theorem fault_is (m : Int) : ∀ (xs : List D) (i : Nat), (faultD m xs i = .non ∧ isNo (faultD m xs i) = true ∧ DL.isNon (faultD m xs i) = some true) ∨ ∃ j : Nat, faultD m xs i = .int j ∧ isNo (faultD m xs i) = false ∧ DL.isNon (faultD m xs i) = some false
  | [], i => .inl ⟨rfl, rfl, rfl⟩
  | x :: xs, i => by
    unfold faultD
    split
    · exact fault_is m xs (i + 1)
    · exact .inr ⟨i, rfl, rfl, rfl⟩
theorem m_is_table : Sem0 1 1 (sp_is_table C) (x_is_table K C) := by
  rintro hl ds Ψ Ξ - ⟨h, x, rfl, hp, q⟩
  cases none_of h
  simp only [x_is_table, wSeq, wNext, wBreak, wCont, wAsg, wRet, wRetN, wDrop, wIfS, wRetO, wgName, wgNil, wgCons, wgTup, wAsgG, wOp, wUn, wCB, wC, wVar, wNil, wCons, wTup, wLst, wB, wAnd, wOr, wNot, wAndV, wOrV, wNotV, wIf, wChain, wAdd, wSub, wMul, wMod, wDiv, wPow, wCmp, wIsN, DL.isNon, wLen, wAbs, wMin2, wMax2, wInt, wFld, wFldO, wM1, wCallA, wCallB, wMake, wRaise, wNeg, wIxO, wLenO, wApp, wSetO, wFset, wPar, wParO, wAsgO, woLst, woCall, wFor, wiSeq, wiRg1, wiEnum, dEnds, outs, args, List.getElem?_cons_zero, List.getElem?_cons_succ, List.nil_append, List.cons_append, List.map_cons, List.map_nil, List.set_cons_zero, List.set_cons_succ, List.append_nil, List.replicate_zero, List.replicate_succ, Option.map_none, Option.map_some, List.length_cons, List.length_nil, sp_is_sequence, sp_fault_place]
  refine ⟨trivial, trivial, trivial, x, rfl, hp.1, ?_⟩
  cases hx : seqD x with
  | none => simp only [isTab, hx] at q; simpa using q
  | some xs =>
    have hpl := hp.2 xs hx
    simp only [isTab, hx] at q
    obtain rfl | rfl := seq_cases hx
    all_goals
      simp
      split
      · rename_i h1
        split
        · rename_i h2
          have e : decide (xs.length ≤ 12) = false := decide_eq_false (by omega)
          simp only [e, Bool.and_false, Bool.false_and] at q; exact q
        · rename_i h2
          have e1 : decide (1 ≤ xs.length) = true := decide_eq_true (by omega)
          have e2 : decide (xs.length ≤ 12) = true := decide_eq_true (by omega)
          rw [e1, e2] at q
          refine ⟨_, xs, _, ⟨rfl, rfl⟩, rfl, hpl, ?_⟩
          rcases fault_is (xs.length : Int) xs 0 with ⟨-, a, b⟩ | ⟨j, -, a, b⟩ <;> rw [a] at q
          · exact .inr ⟨b, q⟩
          · exact .inl ⟨b, q⟩
      · rename_i h1
        have e : decide (1 ≤ xs.length) = false := decide_eq_false (by omega)
        simp only [e, Bool.false_and] at q; exact q
/-- a comprehension, item by item -/
theorem lc_gen {i : Nat} {we : WE} {vs : List Nat} {R : Rho → Prop} {P : D → D → Prop} {Φ : List D → Rho → Prop} : ∀ (ds acc : List D) (ρ : Rho), R ρ → acc.length + ds.length ≤ sizeLine →
    (∀ d ∈ ds, ∀ ρ' (Ψ : D → Rho → Prop), R ρ' → (∀ y ρ3, P d y → R (wipeR ρ3 vs) → Ψ y ρ3) → we (ρ'.set i (.val d)) χ0 Ψ) → (∀ ys ρ', Paired P ds ys → R ρ' → Φ (acc ++ ys) ρ') → wLcL (wgName i) wTrue we vs ds acc ρ Φ
  | [], acc, ρ, hR, _, _, hΦ => by
    have := hΦ [] ρ .nil hR
    rw [List.append_nil] at this
    exact this
  | d :: ds, acc, ρ, hR, hl, hs, hΦ => by
    simp only [wLcL, wgName, wTrue, ↓reduceIte]
    refine hs d List.mem_cons_self ρ _ hR fun y ρ3 hy h3 => ⟨by simp only [List.length_cons] at hl; omega, ?_⟩
    refine lc_gen ds (acc ++ [y]) _ h3 (by simp only [List.length_append, List.length_cons, List.length_nil] at hl ⊢; omega) (fun d' hd' => hs d' (List.mem_cons_of_mem _ hd')) fun ys ρ' h1 h2 => ?_
    rw [List.append_assoc]
    exact hΦ (y :: ys) ρ' (.cons hy h1) h2
theorem paired_map {f : D → D} : ∀ {ds ys : List D}, Paired (fun d y => y = f d) ds ys → ys = ds.map f
  | _, _, .nil => rfl
  | _, _, .cons h t => by rw [h, paired_map t]; rfl
theorem lc_map {i : Nat} {we : WE} {vs : List Nat} {R : Rho → Prop} {Φ : List D → Rho → Prop} (f : D → D) (ds : List D) (ρ : Rho) (hR : R ρ) (hl : ds.length ≤ sizeLine)
    (hs : ∀ d ∈ ds, ∀ ρ' (Ψ : D → Rho → Prop), R ρ' → (∀ ρ3, R (wipeR ρ3 vs) → Ψ (f d) ρ3) → we (ρ'.set i (.val d)) χ0 Ψ) (hΦ : ∀ ρ', R ρ' → Φ (ds.map f) ρ') : wLcL (wgName i) wTrue we vs ds [] ρ Φ :=
  lc_gen (P := fun d y => y = f d) ds [] ρ hR (by simpa using hl) (fun d hd ρ' Ψ h1 h2 => hs d hd ρ' Ψ h1 fun ρ3 h3 => h2 _ ρ3 rfl h3) fun ys ρ' h1 h2 => by rw [List.nil_append, paired_map h1]; exact hΦ ρ' h2
theorem big : 1000000 ≤ sizeLine := by rw [sizeLine_eq]; omega
theorem len_lst (x : D) (xs : List D) (h : seqD x = some xs) {Φ : D → Prop} (q : Φ (.int xs.length)) : wLen [x] Φ := by obtain rfl | rfl := seq_cases h <;> exact q
theorem tab_seq {x : D} (h : isTab x = true) : ∃ xs, seqD x = some xs := by
  unfold isTab at h
  cases hx : seqD x with
  | none => rw [hx] at h; cases h
  | some xs => exact ⟨xs, rfl⟩
theorem eq_ints {a b : Int} {Φ : D → Prop} (q : Φ (.bl (!decide (a = b)))) : wEq true (.int a) (.int b) Φ := ⟨.int a, .int b, rfl, rfl, rfl, rfl, by
  have : PyData.eqv (.int a) (.int b) = decide (a = b) := by simp [PyData.eqv, Bool.beq_eq_decide_eq]
  rw [this]; exact q⟩
theorem m_check_tables : Sem0 1 3 (sp_check_tables C) (x_check_tables K C) := by
  rintro hl ds Ψ Ξ - ⟨h, x, rfl, hp, q⟩
  cases none_of h
  simp only [x_check_tables, wSeq, wNext, wBreak, wCont, wAsg, wRet, wRetN, wDrop, wIfS, wRetO, wgName, wgNil, wgCons, wgTup, wAsgG, wOp, wUn, wCB, wC, wVar, wNil, wCons, wTup, wLst, wB, wAnd, wOr, wNot, wAndV, wOrV, wNotV, wIf, wChain, wAdd, wSub, wMul, wMod, wDiv, wPow, wCmp, wIsN, DL.isNon, wLen, wAbs, wMin2, wMax2, wInt, wFld, wFldO, wM1, wCallA, wCallB, wMake, wRaise, wNeg, wIxO, wLenO, wApp, wSetO, wFset, wPar, wParO, wAsgO, woLst, woCall, wFor, wiSeq, wiRg1, wiEnum, dEnds, outs, args, List.getElem?_cons_zero, List.getElem?_cons_succ, List.nil_append, List.cons_append, List.map_cons, List.map_nil, List.set_cons_zero, List.set_cons_succ, List.append_nil, List.replicate_zero, List.replicate_succ, Option.map_none, Option.map_some, List.length_cons, List.length_nil, sp_is_sequence]
  refine ⟨trivial, trivial, trivial, x, rfl, hp.1, ?_⟩
  cases hx : seqD x with
  | none => simp only [chkTabs, hx] at q; simpa using q
  | some xs =>
    have hpl := hp.2 xs hx
    have mid : ∀ (y : D) (ys : List D), xs = y :: ys → xs.length ≤ 8 → (match tabsFault (lenD y) (y :: ys) 0 with | none => Ψ (.tup ((y :: ys).map tupD)) none | some i => Ξ C.BadMachine "at" (.int (i : Nat))) →
      wForL (wgTup 2 (wgCons (wgName 1) (wgCons (wgName 2) wgNil)))
        (wIfS (wOr (wNot (wB (wCallA 1 0 (sp_is_table C) (fun ds _ => ds) (wCons (wVar 2) wNil) wNil))) (wB (wOp (wEq true) (wCB wLen (wCons (wVar 2) wNil)) (wCB wLen (wCons (wOp wIx (wVar 0) (wC (.int 0))) wNil)))))
          (wRaise C.BadMachine "at" (wCons (wVar 1) wNil)) wNext) (enD xs) [.val x, .un, .un]
        { nx := fun ρ' => wLc (wiSeq (wVar 0)) (wgName 2) wTrue (wCB wTupOf (wCons (wVar 2) wNil)) [2] ρ' (fun C f d _ => Ξ C f d) fun x _ => wTupOf [x] fun z => Ψ z none,
          rt := fun d _ => Ψ d none, bk := fun _ => False, ct := fun _ => False, xc := fun C f d _ => Ξ C f d } := by
      intro y ys hxy hle hq
      have hat : atI xs 0 = some y := by rw [hxy]; simp [atI, ixN]
      have hn : isTab y = true ∨ tabsFault (lenD y) (y :: ys) 0 = some 0 := by
        cases h : isTab y with
        | true => exact .inl rfl
        | false => exact .inr (by unfold tabsFault; rw [h]; rfl)
      have fin : ∀ (a b : Sl), (∀ z ∈ xs, ∃ zs, seqD z = some zs) → Ψ (.tup ((y :: ys).map tupD)) none → (wLc (wiSeq (wVar 0)) (wgName 2) wTrue (wCB wTupOf (wCons (wVar 2) wNil)) [2] [.val x, a, b] (fun C f d _ => Ξ C f d) fun x _ => wTupOf [x] fun z => Ψ z none) := by
        intro a b hz hq
        have go : wLcL (wgName 2) wTrue (wCB wTupOf (wCons (wVar 2) wNil)) [2] xs [] [.val x, a, .un] fun ys _ => wTupOf [.lst ys] fun z => Ψ z none := by
          refine lc_map (R := fun ρ => ρ = [.val x, a, .un]) tupD xs _ rfl (Nat.le_trans hle (by have := big; omega)) (fun d hd ρ' Φ h1 h2 => ?_) fun ρ' h1 => ?_
          · subst h1
            obtain ⟨zs, hz⟩ := hz d hd
            have e := h2 [.val x, a, .val d] rfl
            obtain rfl | rfl := seq_cases hz <;> exact e
          · rw [hxy]; exact hq
        obtain rfl | rfl := seq_cases hx <;> exact go
      have loop : ∀ (zs : List D) (i : Nat) (a b : Sl), (∀ z ∈ zs, plain2 z) → (isTab y = true ∨ ∃ r, zs = y :: r) → (∀ z ∈ xs, z ∈ zs ∨ isTab z = true) → (match tabsFault (lenD y) zs i with | none => Ψ (.tup ((y :: ys).map tupD)) none | some i => Ξ C.BadMachine "at" (.int (i : Nat))) →
          wForL (wgTup 2 (wgCons (wgName 1) (wgCons (wgName 2) wgNil)))
            (wIfS (wOr (wNot (wB (wCallA 1 0 (sp_is_table C) (fun ds _ => ds) (wCons (wVar 2) wNil) wNil))) (wB (wOp (wEq true) (wCB wLen (wCons (wVar 2) wNil)) (wCB wLen (wCons (wOp wIx (wVar 0) (wC (.int 0))) wNil)))))
              (wRaise C.BadMachine "at" (wCons (wVar 1) wNil)) wNext) ((zs.zipIdx i).map fun p => .tup [.int (p.2 : Nat), p.1]) [.val x, a, b]
            { nx := fun ρ' => wLc (wiSeq (wVar 0)) (wgName 2) wTrue (wCB wTupOf (wCons (wVar 2) wNil)) [2] ρ' (fun C f d _ => Ξ C f d) fun x _ => wTupOf [x] fun z => Ψ z none,
              rt := fun d _ => Ψ d none, bk := fun _ => False, ct := fun _ => False, xc := fun C f d _ => Ξ C f d } := by
        intro zs
        induction zs with
        | nil =>
          intro i a b _ _ hall hq
          exact fin a b (fun z hz => tab_seq ((hall z hz).resolve_left (by simp))) hq
        | cons z zs ih =>
          intro i a b hpz hy hall hq
          refine ⟨rfl, rfl, rfl, rfl, rfl, z, rfl, hpz z List.mem_cons_self, ?_⟩
          show if (!isTab z) = true then _ else _
          unfold tabsFault at hq
          cases hb : isTab z with
          | false =>
            rw [hb] at hq
            exact hq
          | true =>
            rw [hb] at hq
            have hy' : isTab y = true := hy.elim id fun ⟨r, e⟩ => by cases e; exact hb
            obtain ⟨us, hu⟩ := tab_seq hb
            obtain ⟨ws, hw⟩ := tab_seq hy'
            have e1 : lenD z = us.length := by unfold lenD; rw [hu]; rfl
            have e2 : lenD y = ws.length := by unfold lenD; rw [hw]; rfl
            have tail : ∀ b : Bool, decide (lenD z = lenD y) = b → (if (!b) = true then Ξ C.BadMachine "at" (.int (i : Nat)) else wForL (wgTup 2 (wgCons (wgName 1) (wgCons (wgName 2) wgNil)))
                (wIfS (wOr (wNot (wB (wCallA 1 0 (sp_is_table C) (fun ds _ => ds) (wCons (wVar 2) wNil) wNil))) (wB (wOp (wEq true) (wCB wLen (wCons (wVar 2) wNil)) (wCB wLen (wCons (wOp wIx (wVar 0) (wC (.int 0))) wNil)))))
                  (wRaise C.BadMachine "at" (wCons (wVar 1) wNil)) wNext) ((zs.zipIdx (i + 1)).map fun p => .tup [.int (p.2 : Nat), p.1]) [.val x, .val (.int (i : Nat)), .val z]
                { nx := fun ρ' => wLc (wiSeq (wVar 0)) (wgName 2) wTrue (wCB wTupOf (wCons (wVar 2) wNil)) [2] ρ' (fun C f d _ => Ξ C f d) fun x _ => wTupOf [x] fun z => Ψ z none,
                  rt := fun d _ => Ψ d none, bk := fun _ => False, ct := fun _ => False, xc := fun C f d _ => Ξ C f d }) := by
              intro b hb2
              rw [hb2] at hq
              cases b with
              | false => exact hq
              | true => exact ih (i + 1) _ _ (fun u hu => hpz u (List.mem_cons_of_mem _ hu)) (.inl hy') (fun u hu => (hall u hu).elim (fun m => (List.mem_cons.mp m).elim (fun e => .inr (e ▸ hb)) .inl) .inr) hq
            have key := tail _ rfl
            rw [e1, e2] at key
            rw [if_neg (show ¬ ((!true) = true) by decide)]
            simp only [wB, wOp, wCB, wCons, wVar, wNil, wC, List.set_cons_succ, List.set_cons_zero, List.getElem?_cons_zero, List.getElem?_cons_succ]
            refine len_lst z us hu ?_
            have hix : ∀ {Φ : D → Prop}, Φ y → wIx x (.int 0) Φ := fun {Φ} qq => by obtain rfl | rfl := seq_cases hx <;> exact ⟨y, hat, qq⟩
            refine hix ?_
            refine len_lst y ws hw ?_
            refine eq_ints ?_
            have ed : decide ((us.length : Int) = (ws.length : Int)) = decide (us.length = ws.length) := decide_eq_decide.mpr (by omega)
            rw [ed]
            exact key
      exact loop xs 0 .un .un hpl (.inr ⟨ys, hxy⟩) (fun z hz => .inl hz) (by rw [hxy]; exact hq)
    simp only [chkTabs, hx] at q
    have done : ∀ {A : Prop}, (xs.length ≤ 8 → 1 ≤ xs.length → A) → (if 1 ≤ (xs.length : Int) then if 8 < (xs.length : Int) then Ξ C.BadMachine "at" (.int (-1)) else A else Ξ C.BadMachine "at" (.int (-1))) := by
      intro A hA
      cases xs with
      | nil => simpa using q
      | cons y ys =>
        rw [if_pos (by simp only [List.length_cons]; omega)]
        split
        · rename_i h2
          have : ¬ (y :: ys).length ≤ 8 := by simp only [List.length_cons] at h2 ⊢; omega
          simp only [this, if_false] at q; exact q
        · rename_i h2
          exact hA (by simp only [List.length_cons] at h2 ⊢; omega) (by simp)
    obtain rfl | rfl := seq_cases hx
    all_goals
      simp
      refine done fun h1 h2 => ?_
      cases xs with
      | nil => simp at h2
      | cons y ys =>
        refine mid y ys rfl h1 ?_
        simp only [h1, ↓reduceIte] at q
        cases hf : tabsFault (lenD y) (y :: ys) 0 <;> simp only [hf] at q <;> exact q
end
end K04
set_option Elab.async false
set_option autoImplicit false
set_option linter.all false
set_option maxRecDepth 100000
set_option maxHeartbeats 3900000
namespace K04
open DL L2 PyProof.Rows PySem PySem.Spec
section
variable {K : Fg} {C : Cs}
/-- the sem of a def whose first argument is an object of one's own -/
theorem lenD_tup (x : D) : lenD (tupD x) = lenD x := rfl
theorem m_Machine_init : Sem0 2 2 (sp_Machine_init C) (x_Machine_init K C) := by
  rintro hl ds Ψ Ξ - ⟨h, x, rfl, hp, q⟩
  match hl, h with
  | some (l, o), h =>
    cases (Option.some.inj h : o = .i C.Machine [] [])
    simp only [x_Machine_init, wSeq, wNext, wBreak, wCont, wAsg, wRet, wRetN, wDrop, wIfS, wRetO, wgName, wgNil, wgCons, wgTup, wAsgG, wOp, wUn, wCB, wC, wVar, wNil, wCons, wTup, wLst, wB, wAnd, wOr, wNot, wAndV, wOrV, wNotV, wIf, wChain, wAdd, wSub, wMul, wMod, wDiv, wPow, wCmp, wIsN, DL.isNon, wLen, wAbs, wMin2, wMax2, wInt, wFld, wFldO, wM1, wCallA, wCallB, wMake, wRaise, wNeg, wIxO, wLenO, wApp, wSetO, wFset, wPar, wParO, wAsgO, woLst, woCall, wFor, wiSeq, wiRg1, wiEnum, dEnds, outs, args, List.getElem?_cons_zero, List.getElem?_cons_succ, List.nil_append, List.cons_append, List.map_cons, List.map_nil, List.set_cons_zero, List.set_cons_succ, List.append_nil, List.replicate_zero, List.replicate_succ, Option.map_none, Option.map_some, List.length_cons, List.length_nil, sp_check_tables]
    refine ⟨⟨_, _, rfl⟩, trivial, trivial, trivial, x, rfl, hp, ?_⟩
    cases hc : chkTabs x with
    | error i => rw [hc] at q; exact q
    | ok rs =>
      rw [hc] at q
      cases rs with
      | nil => simp only [chkTabs] at hc; split at hc <;> first | cases hc | (split at hc <;> first | cases hc | (split at hc <;> cases hc))
      | cons r rs =>
        obtain ⟨zs, hz⟩ : ∃ zs, seqD r = some zs := by
          simp only [chkTabs] at hc
          split at hc
          · split at hc
            · split at hc
              · simp only [List.map_cons] at hc; cases hc; exact ⟨_, rfl⟩
              · cases hc
            · cases hc
          · cases hc
        have hl : lenD r = zs.length := by unfold lenD; rw [hz]; rfl
        simp
        refine ⟨.tup (r :: rs), by simp [lookD], by decide, .tup (r :: rs), by simp [lookD], r, by simp [atI, ixN], ?_⟩
        obtain rfl | rfl := seq_cases hz <;> exact ⟨⟨by decide, by decide⟩, q⟩
theorem eqv_int (a : Int) : PyData.eqv (.int a) (.int a) = true := by simp [PyData.eqv]
/-! data and PyData -/
theorem py_row (r : List Nat) : pyOf (rowD r) = some (.tuple (r.map fun n => .int (n : Nat))) := by
  have : ∀ r : List Nat, pyOfL (r.map fun n => D.int (n : Nat)) = some (r.map fun n => .int (n : Nat)) := fun r => by
    induction r with
    | nil => rfl
    | cons n r ih => simp [pyOfL, pyOf, ih]
  simp [rowD, pyOf, this]
theorem py_rows (t : Tb) : pyOf (.tup (t.map rowD)) = some (.tuple (t.map fun r => .tuple (r.map fun n => .int (n : Nat)))) := by
  have : ∀ t : Tb, pyOfL (t.map rowD) = some (t.map fun r => .tuple (r.map fun n => .int (n : Nat))) := fun t => by
    induction t with
    | nil => rfl
    | cons r t ih => simp [pyOfL, py_row, ih]
  simp [pyOf, this]
theorem shaped_row (r : List Nat) : SeqAt.shaped (.tuple (r.map fun n => .int (n : Nat))) = true ∧ PyData.depth (.tuple (r.map fun n => .int (n : Nat))) ≤ 1 := by
  have a : ∀ r : List Nat, PyData.canLayAll0 (r.map fun n => .int (n : Nat)) = true := fun r => by induction r with
    | nil => rfl
    | cons n r ih => simp [PyData.canLayAll0, PyData.canLay0, ih]
  have b : ∀ r : List Nat, PyData.depthAll (r.map fun n => .int (n : Nat)) = 0 := fun r => by induction r with
    | nil => rfl
    | cons n r ih => simp [PyData.depthAll, PyData.depth, ih]
  simp [SeqAt.shaped, PyData.canLay0, PyData.depth, a, b]
theorem shaped_rows (t : Tb) : SeqAt.shaped (.tuple (t.map fun r => .tuple (r.map fun n => .int (n : Nat)))) = true := by
  have a : ∀ t : Tb, PyData.canLayAll0 (t.map fun r => .tuple (r.map fun n => .int (n : Nat))) = true := fun t => by induction t with
    | nil => rfl
    | cons r t ih =>
      have := (Bool.and_eq_true_iff.mp (shaped_row r).1).1
      simp only [List.map_cons, PyData.canLayAll0, this, ih, Bool.and_self]
  have b : ∀ t : Tb, PyData.depthAll (t.map fun r => .tuple (r.map fun n => .int (n : Nat))) ≤ 1 := fun t => by induction t with
    | nil => exact Nat.zero_le _
    | cons r t ih =>
      have := (shaped_row r).2
      (simp only [List.map_cons, PyData.depthAll])
      omega
  have hb := b t
  refine Bool.and_eq_true_iff.mpr ⟨a t, decide_eq_true ?_⟩
  simp only [PyData.depth]
  omega
theorem eq_same {x : D} {p : PyData} {Φ : D → Prop} {neg : Bool} (h : pyOf x = some p) (hs : SeqAt.shaped p = true) (q : Φ (.bl !neg)) : wEq neg x x Φ :=
  ⟨p, p, h, h, hs, hs, by rw [SeqAt.eqv_refl p (SeqAt.canLay_of_shaped hs)]; cases neg <;> exact q⟩
theorem m_Machine_eq (hI : InsC K C.Machine) (hk : PySem.W.kitOne K (.ref C.Machine) (.ref C.Machine) = some true) : Sem0 2 2 (sp_Machine_eq C) (x_Machine_eq K C) := by
  rintro hl ds Ψ Ξ - ⟨h, t, ht, rfl, q⟩
  cases none_of h
  refine ⟨.ref C.Machine, .ref C.Machine, true, .own _, .obj _ _ hI, hk, ?_⟩
  refine ⟨rfl, .tup (t.map rowD), by simp [lookD], rfl, .tup (t.map rowD), by simp [lookD], ?_⟩
  exact eq_same (py_rows t) (shaped_rows t) q
theorem look_deeds (C : Cs) (t : Tb) : lookD ["tables", "deeds", "states"] [.tup (t.map rowD), .int ((t.map rowD).length : Nat), .int (lenD ((t.map rowD).headD .non) : Nat)] "deeds" = some (.int (t.length : Nat)) := by simp [lookD]; decide
theorem len_le {n : Nat} (h : n ≤ 10000) : n ≤ sizeLine := Nat.le_trans h (by have := big; omega)
theorem m_log_fault : Sem0 2 2 (sp_log_fault C) (x_log_fault K C) := by
  rintro hl ds Ψ Ξ - ⟨h, t, x, rfl, hp, q⟩
  cases none_of h
  simp only [x_log_fault, wSeq, wNext, wBreak, wCont, wAsg, wRet, wRetN, wDrop, wIfS, wRetO, wgName, wgNil, wgCons, wgTup, wAsgG, wOp, wUn, wCB, wC, wVar, wNil, wCons, wTup, wLst, wB, wAnd, wOr, wNot, wAndV, wOrV, wNotV, wIf, wChain, wAdd, wSub, wMul, wMod, wDiv, wPow, wCmp, wIsN, DL.isNon, wLen, wAbs, wMin2, wMax2, wInt, wFld, wFldO, wM1, wCallA, wCallB, wMake, wRaise, wNeg, wIxO, wLenO, wApp, wSetO, wFset, wPar, wParO, wAsgO, woLst, woCall, wFor, wiSeq, wiRg1, wiEnum, dEnds, outs, args, List.getElem?_cons_zero, List.getElem?_cons_succ, List.nil_append, List.cons_append, List.map_cons, List.map_nil, List.set_cons_zero, List.set_cons_succ, List.append_nil, List.replicate_zero, List.replicate_succ, Option.map_none, Option.map_some, List.length_cons, List.length_nil, sp_is_sequence, sp_fault_place]
  refine ⟨trivial, trivial, trivial, x, rfl, hp.1, ?_⟩
  cases hx : seqD x with
  | none => simp only [logF, hx] at q; simpa using q
  | some xs =>
    have hpl := hp.2 xs hx
    simp only [logF, hx] at q
    have key : (if 10000 < (xs.length : Int) then Ψ (.int (-1)) none else Ψ (faultD (t.length : Int) xs 0) none) := by
      split
      · rename_i h1
        rw [if_neg (by omega)] at q; exact q
      · rename_i h1
        rw [if_pos (by omega)] at q; exact q
    obtain rfl | rfl := seq_cases hx
    all_goals
      simp
      split
      · rename_i h1; rw [if_pos h1] at key; exact key
      · rename_i h1; rw [if_neg h1] at key
        exact ⟨rfl, .int (t.length : Nat), look_deeds C t, _, xs, _, ⟨rfl, rfl⟩, rfl, hpl, key⟩
theorem m_check_log : Sem0 2 3 (sp_check_log C) (x_check_log K C) := by
  rintro hl ds Ψ Ξ - ⟨h, t, x, rfl, hp, q⟩
  cases none_of h
  simp only [x_check_log, wSeq, wNext, wBreak, wCont, wAsg, wRet, wRetN, wDrop, wIfS, wRetO, wgName, wgNil, wgCons, wgTup, wAsgG, wOp, wUn, wCB, wC, wVar, wNil, wCons, wTup, wLst, wB, wAnd, wOr, wNot, wAndV, wOrV, wNotV, wIf, wChain, wAdd, wSub, wMul, wMod, wDiv, wPow, wCmp, wIsN, DL.isNon, wLen, wAbs, wMin2, wMax2, wInt, wFld, wFldO, wM1, wCallA, wCallB, wMake, wRaise, wNeg, wIxO, wLenO, wApp, wSetO, wFset, wPar, wParO, wAsgO, woLst, woCall, wFor, wiSeq, wiRg1, wiEnum, dEnds, outs, args, List.getElem?_cons_zero, List.getElem?_cons_succ, List.nil_append, List.cons_append, List.map_cons, List.map_nil, List.set_cons_zero, List.set_cons_succ, List.append_nil, List.replicate_zero, List.replicate_succ, Option.map_none, Option.map_some, List.length_cons, List.length_nil, sp_log_fault]
  refine ⟨trivial, trivial, trivial, t, x, rfl, hp, ?_⟩
  have hx : logF t.length x = .non ∧ (∃ xs, seqD x = some xs) ∨ ∃ i, logF t.length x = .int i := by
    unfold logF
    cases hx : seqD x with
    | none => exact .inr ⟨_, rfl⟩
    | some xs =>
      simp only
      split
      · exact (fault_is (t.length : Int) xs 0).elim (fun z => .inl ⟨z.1, xs, rfl⟩) fun ⟨j, z, _⟩ => .inr ⟨_, z⟩
      · exact .inr ⟨_, rfl⟩
  rcases hx with ⟨e, xs, hs⟩ | ⟨i, e⟩
  · rw [e] at q ⊢
    refine ⟨trivial, true, rfl, ?_⟩
    have : tupD x = .tup xs := by unfold tupD; rw [hs]; rfl
    simp only [this] at q
    obtain rfl | rfl := seq_cases hs <;> exact q
  · rw [e] at q ⊢
    exact ⟨trivial, false, rfl, q⟩
end
end K04
set_option Elab.async false
set_option autoImplicit false
set_option linter.all false
set_option maxRecDepth 100000
set_option maxHeartbeats 3900000
namespace K04
open DL L2 PyProof.Rows PySem PySem.Spec
section
variable {K : Fg} {C : Cs}
/-! ### digits -/
theorem dig_len : ∀ n, n < 100 → 1 ≤ (dig n).length ∧ (dig n).length ≤ 2 := by decide +kernel
theorem dig_ne : ∀ n, n < 100 → ∀ m, m < 100 → dig n = dig m → n = m := by decide +kernel
theorem dig_sp : ∀ n, n < 100 → 32 ∉ (dig n).cps.toList ∧ 10 ∉ (dig n).cps.toList := by decide +kernel
theorem wstr {n : Nat} (h : n < 100) {Φ : D → Prop} (q : Φ (.str (dig n))) : wStr [.int (n : Nat)] Φ := by
  refine ⟨?_, q⟩
  have : ((n : Int).natAbs).log2 ≤ (n : Int).natAbs := Nat.log2_le_self _
  simp only [Int.natAbs_natCast] at this ⊢
  omega
theorem sum_le : ∀ (ws : List Str) (m : Nat), (∀ w ∈ ws, w.length ≤ m) → (ws.map (·.length)).sum ≤ ws.length * m
  | [], _, _ => by simp
  | w :: ws, m, h => by
    have h1 := h w List.mem_cons_self
    have h2 := sum_le ws m fun v hv => h v (List.mem_cons_of_mem _ hv)
    (simp only [List.map_cons, List.sum_cons, List.length_cons, Nat.add_mul, Nat.one_mul])
    omega
theorem wjoin {x : D} {sep : Str} {ws : List Str} (hx : x = .lst (ws.map D.str)) (h : (ws.map (·.length)).sum + ws.length * sep.length ≤ 16777216) {Φ : D → Prop} (q : Φ (.str (Txt.join sep ws))) : wJoin sep x Φ := by
  subst hx; exact ⟨ws, rfl, h, q⟩
theorem numsD_map (ns : List Nat) (f : D → D) (g : Nat → Str) (h : ∀ n ∈ ns, f (.int (n : Nat)) = .str (g n)) : (numsD ns).map f = (ns.map g).map D.str := by
  unfold numsD
  (rw [List.map_map, List.map_map])
  exact List.map_congr_left fun n hn => h n hn
theorem m_numbers_text : Sem0 1 2 (sp_numbers_text C) (x_numbers_text K C) := by
  rintro hl ds Ψ Ξ - ⟨h, x, ns, rfl, hx, hs, hl, q⟩
  cases none_of h
  have hlen : (numsD ns).length ≤ sizeLine := by unfold numsD; rw [List.length_map]; exact len_le hl
  have go : wLcL (wgName 1) wTrue (wCB wStr (wCons (wVar 1) wNil)) [1] (numsD ns) [] [.val x, .un] fun ys _ => wJoin " " (.lst ys) fun z => Ψ z none := by
    refine lc_map (R := fun ρ => ρ = [.val x, .un]) (fun d => match d with | .int i => .str ((toString i : String) : Str) | d => d) (numsD ns) _ rfl hlen (fun d hd ρ' Φ h1 h2 => ?_) fun ρ' h1 => ?_
    · subst h1
      obtain ⟨n, hn, rfl⟩ := List.mem_map.mp hd
      simp only [wCB, wCons, wVar, wNil, List.set_cons_succ, List.set_cons_zero, List.getElem?_cons_zero, List.getElem?_cons_succ]
      refine wstr (hs n hn) ?_
      exact h2 [.val x, .val (.int (n : Nat))] rfl
    · rw [numsD_map ns _ dig fun n _ => rfl]
      refine wjoin rfl ?_ q
      have h1 : ((ns.map dig).map (·.length)).sum ≤ (ns.map dig).length * 2 := sum_le _ 2 fun w hw => by
        obtain ⟨n, hn, rfl⟩ := List.mem_map.mp hw
        exact (dig_len n (hs n hn)).2
      have h2 : ((" " : Str)).length = 1 := by decide
      rw [List.length_map] at h1 ⊢
      rw [h2]
      omega
  obtain rfl | rfl := seq_cases hx <;> exact go
theorem m_numbers_by_word : Sem0 1 2 (sp_numbers_by_word C) (x_numbers_by_word K C) := by
  rintro hl ds Ψ Ξ - ⟨h, m, rfl, hm, q⟩
  cases none_of h
  have er : rgD 0 m = numsD (List.range m) := by unfold rgD numsD; simp
  have e62 : (-(2 ^ 62 : Int) ≤ (m : Int)) ∧ (m : Int) < 2 ^ 62 := by omega
  refine ⟨e62, ?_⟩
  show wDcL _ _ _ _ _ (rgD 0 ((m : Int).toNat)) [] [] _ _
  rw [Int.toNat_natCast, er]
  have loop : ∀ (l pre : List Nat), (pre ++ l).Nodup → (∀ n ∈ pre ++ l, n < 100) → (pre ++ l).length ≤ 100 → Ψ (.dic ((pre ++ l).map fun n => (.inr (dig n) : Key)) (numsD (pre ++ l))) none →
      wDcL (wgName 1) wTrue (wCB wStr (wCons (wVar 1) wNil)) (wVar 1) [1] (numsD l) (pre.map fun n => (.inr (dig n) : Key)) (numsD pre) [.val (.int (m : Nat)), .un] fun ks ys _ => Ψ (.dic ks ys) none := by
    intro l
    induction l with
    | nil => intro pre _ _ _ q; rw [List.append_nil] at q; exact q
    | cons n l ih =>
      intro pre hnd h100 hlen q
      have hn : n < 100 := h100 n (by simp)
      have e : pre ++ n :: l = (pre ++ [n]) ++ l := by simp
      rw [e] at hnd h100 hlen q
      have hnot : n ∉ pre := fun hm => by
        have h1 := (List.nodup_append.mp (List.nodup_append.mp hnd).1).2.2
        exact h1 n hm n (by simp) rfl
      show wDcL _ _ _ _ _ (.int (n : Nat) :: numsD l) _ _ _ _
      simp only [wDcL, wgName, wTrue, ↓reduceIte, wCB, wCons, wVar, wNil, List.set_cons_succ, List.set_cons_zero, List.getElem?_cons_zero, List.getElem?_cons_succ]
      refine wstr hn ⟨.inr (dig n), rfl, fun hm => ?_, ?_, ?_⟩
      · obtain ⟨k, hk, ek⟩ := List.mem_map.mp hm
        have e2 : dig k = dig n := Sum.inr.inj ek
        exact hnot (dig_ne k (h100 k (by simp [hk])) n hn e2 ▸ hk)
      · have := big
        simp only [List.length_append, List.length_cons, List.length_nil, List.length_map] at hlen ⊢
        omega
      · have := ih (pre ++ [n]) hnd h100 hlen q
        simp only [numsD, List.map_append, List.map_cons, List.map_nil] at this ⊢
        exact this
  have hr : ∀ n ∈ List.range m, n < 100 := fun n hn => by have := List.mem_range.mp hn; omega
  exact loop (List.range m) [] (by rw [List.nil_append]; exact List.nodup_range) (by rw [List.nil_append]; exact hr) (by rw [List.nil_append, List.length_range]; exact hm) (by rw [List.nil_append]; exact q)
end
end K04
set_option Elab.async false
set_option autoImplicit false
set_option linter.all false
set_option maxRecDepth 100000
set_option maxHeartbeats 3900000
namespace K04
open DL L2 PyProof.Rows PySem PySem.Spec
section
variable {K : Fg} {C : Cs}
theorem join_len (sep : Str) (ws : List Str) (m : Nat) (h : ∀ w ∈ ws, w.length ≤ m) : (Txt.join sep ws).length ≤ ws.length * (m + sep.length) := by
  have e : (Txt.join sep ws).length = (ws.map (·.length)).sum + (ws.length - 1) * sep.length := PySem.size_glued sep ws
  have h1 := sum_le ws m h
  have h2 : (ws.length - 1) * sep.length ≤ ws.length * sep.length := Nat.mul_le_mul_right _ (Nat.sub_le _ _)
  rw [e, Nat.mul_add]
  omega
theorem numT_len {ns : List Nat} (h : ∀ n ∈ ns, n < 100) : (numT ns).length ≤ ns.length * 3 := by
  have := join_len " " (ns.map dig) 2 fun w hw => by
    obtain ⟨n, hn, rfl⟩ := List.mem_map.mp hw
    exact (dig_len n (h n hn)).2
  have h2 : ((" " : Str)).length = 1 := by decide
  rw [h2, List.length_map] at this
  exact this
theorem Good.lt {t : Tb} (g : Good t) : ∀ r ∈ t, ∀ n ∈ r, n < 100 := fun r hr n hn => by
  obtain ⟨h1, h2, h3, h4⟩ := g.row r hr
  have := h4 n hn
  omega
theorem Good.head {t : Tb} (g : Good t) : 1 ≤ (t.headD []).length ∧ (t.headD []).length ≤ 12 := by
  cases t with
  | nil => exact absurd rfl g.ne
  | cons r t => exact ⟨(g.row r List.mem_cons_self).1, (g.row r List.mem_cons_self).2.1⟩
theorem look_st (C : Cs) (t : Tb) : lookD ["tables", "deeds", "states"] [.tup (t.map rowD), .int ((t.map rowD).length : Nat), .int (lenD ((t.map rowD).headD .non) : Nat)] "states" = some (.int ((t.headD []).length : Nat)) := by
  have e : lenD ((t.map rowD).headD .non) = (t.headD []).length := by
    cases t with
    | nil => rfl
    | cons r t => simp [lenD, rowD, seqD]
  rw [e]
  have a : ¬ ("tables" : Str) = "states" := by decide
  have b : ¬ ("deeds" : Str) = "states" := by decide
  simp [lookD, a, b]
theorem look_tb (C : Cs) (t : Tb) : lookD ["tables", "deeds", "states"] [.tup (t.map rowD), .int ((t.map rowD).length : Nat), .int (lenD ((t.map rowD).headD .non) : Nat)] "tables" = some (.tup (t.map rowD)) := by simp [lookD]
theorem m_machine_text : Sem0 1 3 (sp_machine_text C) (x_machine_text K C) := by
  rintro hl ds Ψ Ξ - ⟨h, t, ht, rfl, q⟩
  cases none_of h
  have hd := ht.head
  have d2 := dig_len (t.headD []).length (by omega)
  have s7 : (("states " : Str)).length = 7 := by decide
  have e0 : (Str.empty : Str) ++ ("states " : Str) = "states " := by decide
  have loop : ∀ (rs : Tb) (done : List Str) (l : Addr) (a : Sl), (∀ r ∈ rs, r ∈ t) → done.length + rs.length ≤ 9 → Ψ (.str (Txt.join "\n" (done ++ rs.map numT))) none → (∀ w ∈ done ++ rs.map numT, w.length ≤ 40) →
      wForL (wgName 2) (wApp 1 (wCallA 1 0 (sp_numbers_text C) (fun ds _ => ds) (wCons (wVar 2) wNil) wNil)) (rs.map rowD) [.val (mach C t), .own l (.l (done.map D.str)), a]
        { dEnds none Ψ Ξ with nx := fun ρ => wRet (wM1 wJoin (wC (.str "\n")) (wVar 1)) ρ (dEnds none Ψ Ξ) } := by
    intro rs
    induction rs with
    | nil =>
      intro done l a _ hlen q hw
      simp only [List.map_nil, List.append_nil, List.length_nil] at q hw hlen
      show wJoin "\n" (.lst (done.map D.str)) (fun z => Ψ z none)
      refine wjoin rfl ?_ q
      have h1 := sum_le done 40 hw
      have h2 : (("\n" : Str)).length = 1 := by decide
      rw [h2]; omega
    | cons r rs ih =>
      intro done l a hm hlen q hw
      have hr := hm r List.mem_cons_self
      have g := ht.row r hr
      refine ⟨⟨l, _, rfl⟩, rfl, rfl, rfl, rowD r, r, rfl, rfl, ht.lt r hr, by omega, ?_, ?_⟩
      · simp only [List.length_map, List.length_cons] at hlen ⊢; have := big; omega
      · have := ih (done ++ [numT r]) l (.val (rowD r)) (fun r' h' => hm r' (List.mem_cons_of_mem _ h')) (by simp only [List.length_append, List.length_cons, List.length_nil] at hlen ⊢; omega) (by simpa [List.append_assoc] using q) (by simpa [List.append_assoc] using hw)
        simp only [List.map_append, List.map_cons, List.map_nil] at this
        exact this
  have hn : (((t.headD []).length : Int).natAbs).log2 < 1920 := by
    have : (((t.headD []).length : Int).natAbs).log2 ≤ ((t.headD []).length : Int).natAbs := Nat.log2_le_self _
    simp only [Int.natAbs_natCast] at this ⊢
    omega
  have hS : (("states " : Str) ++ dig (t.headD []).length).length ≤ 40 := by
    have : (("states " : Str) ++ dig (t.headD []).length).length = ("states " : Str).length + (dig (t.headD []).length).length := Array.size_append
    rw [this, s7]; omega
  have hb := big
  refine ⟨?_, ?_⟩
  · rw [e0, s7]; omega
  · refine ⟨rfl, .int ((t.headD []).length : Nat), look_st C t, hn, ?_, ?_, fun l => ⟨rfl, .tup (t.map rowD), look_tb C t, ?_⟩⟩
    · rw [e0]; exact Nat.le_trans hS (by omega)
    · show 1 ≤ sizeLine; omega
    · have := loop t [("states " : Str) ++ dig (t.headD []).length] l .un (fun r h => h) (by have := ht.le; simp only [List.length_cons, List.length_nil]; omega) q (fun w hw => ?_)
      · rw [e0]; exact this
      · rcases List.mem_append.mp hw with h | h
        · rw [List.mem_singleton.mp h]; exact hS
        · obtain ⟨r, hr, rfl⟩ := List.mem_map.mp h
          have h1 := numT_len (ht.lt r hr)
          have h2 := (ht.row r hr).2.1
          omega
end
end K04
set_option Elab.async false
set_option autoImplicit false
set_option linter.all false
set_option maxRecDepth 100000
set_option maxHeartbeats 3900000
namespace K04
open DL L2 PyProof.Rows PySem PySem.Spec
section
variable {K : Fg} {C : Cs}
theorem mem_join {y : Str} {ps : List Str} {p : Str} {c : Nat} (hp : p ∈ ps) (hc : c ∈ p.cps) : c ∈ (Txt.join y ps).cps := by
  cases ps with
  | nil => cases hp
  | cons q qs =>
    refine (mem_glFold y c qs q.cps).mpr ?_
    rcases List.mem_cons.mp hp with rfl | h
    · exact .inl hc
    · exact .inr (.inr ⟨p, h, hc⟩)
theorem split_back (s y : Str) : Txt.join y (Txt.split s y) = s := by exact (StrLaws.glued_eq_join y _).trans (StrLaws.join_split s y)
theorem split_mem {s y p : Str} {c : Nat} (hp : p ∈ Txt.split s y) (hc : c ∈ p.cps) : c ∈ s.cps := by
  have := mem_join (y := y) hp hc
  rwa [split_back] at this
theorem part_len : ∀ {ps : List Str} {y p : Str}, p ∈ ps → p.length ≤ (Txt.join y ps).length := by
  intro ps y p hp
  have e : (Txt.join y ps).length = (ps.map (·.length)).sum + (ps.length - 1) * y.length := PySem.size_glued y ps
  have h : ∀ ps : List Str, p ∈ ps → p.length ≤ (ps.map (·.length)).sum := fun ps hp => by
    induction ps with
    | nil => cases hp
    | cons q qs ih =>
      (simp only [List.map_cons, List.sum_cons])
      rcases List.mem_cons.mp hp with rfl | h
      · omega
      · have := ih h; omega
  have := h ps hp
  omega
theorem okS_part {s y p : Str} (h : okS s) (hp : p ∈ Txt.split s y) : okS p := by
  refine ⟨?_, fun c hc => h.2 c (split_mem hp hc)⟩
  have := part_len (y := y) hp
  rw [split_back] at this
  exact Nat.le_trans this h.1
theorem eq_strs {a b : Str} {neg : Bool} {Φ : D → Prop} (ha : okS a) (hb : okS b) (q : Φ (.bl (if neg = true then !decide (a = b) else decide (a = b)))) : wEq neg (.str a) (.str b) Φ := by
  have sh : ∀ {a : Str}, okS a → SeqAt.shaped (.str a) = true := fun {a} h => by
    have : PyData.strOk a = true := by
      unfold PyData.strOk
      rw [Array.all_eq_true']
      exact fun c hc => decide_eq_true (h.2 c hc)
    simp [SeqAt.shaped, PyData.canLay0, PyData.depth, this]
  have e : PyData.eqv (.str a) (.str b) = decide (a = b) := by simp [PyData.eqv, Bool.beq_eq_decide_eq]
  exact ⟨.str a, .str b, rfl, rfl, sh ha, sh hb, by rw [e]; exact q⟩
theorem eqF_ints {a b : Int} {Φ : D → Prop} (q : Φ (.bl (decide (a = b)))) : wEq false (.int a) (.int b) Φ := ⟨.int a, .int b, rfl, rfl, rfl, rfl, by
  have : PyData.eqv (.int a) (.int b) = decide (a = b) := by simp [PyData.eqv, Bool.beq_eq_decide_eq]
  rw [this]; exact q⟩
theorem valD_l (w : Str) : ∀ l : List Nat, valD (l.map fun n => (.inr (dig n) : Key)) (numsD l) (.inr w) = (l.find? fun n => decide (dig n = w)).map fun n => .int (n : Nat)
  | [] => rfl
  | n :: l => by
    show (if (.inr (dig n) : Key) = .inr w then some (.int (n : Nat)) else valD (l.map fun n => (.inr (dig n) : Key)) (numsD l) (.inr w)) = _
    by_cases h : dig n = w
    · rw [if_pos (by rw [h])]; simp [h]
    · rw [if_neg (fun z => h (Sum.inr.inj z)), valD_l w l]; simp [h]
theorem get_word {m : Nat} {w : Str} : valD ((List.range m).map fun n => (.inr (dig n) : Key)) (numsD (List.range m)) (.inr w) = (numW m w).map fun n => .int (n : Nat) := valD_l w (List.range m)
theorem two_le {n : Nat} (h : n ≤ 1000000) : n + 2 ≤ sizeLine := by rw [sizeLine_eq]; omega
theorem m_told_states : Sem0 1 3 (sp_told_states C) (x_told_states K C) := by
  rintro hl ds Ψ Ξ - ⟨h, s, rfl, hs, q⟩
  cases none_of h
  have ok : ∀ w ∈ Txt.split s " ", okS w := fun w hw => okS_part hs hw
  have o2 : okS "states" := ⟨by decide, by decide⟩
  simp only [x_told_states, wSeq, wNext, wBreak, wCont, wAsg, wRet, wRetN, wDrop, wIfS, wRetO, wgName, wgNil, wgCons, wgTup, wAsgG, wOp, wUn, wCB, wC, wVar, wNil, wCons, wTup, wLst, wB, wAnd, wOr, wNot, wAndV, wOrV, wNotV, wIf, wChain, wAdd, wSub, wMul, wMod, wDiv, wPow, wCmp, wIsN, DL.isNon, wLen, wAbs, wMin2, wMax2, wInt, wFld, wFldO, wM1, wCallA, wCallB, wMake, wRaise, wNeg, wIxO, wLenO, wApp, wSetO, wFset, wPar, wParO, wAsgO, woLst, woCall, wFor, wiSeq, wiRg1, wiEnum, dEnds, outs, args, List.getElem?_cons_zero, List.getElem?_cons_succ, List.nil_append, List.cons_append, List.map_cons, List.map_nil, List.set_cons_zero, List.set_cons_succ, List.append_nil, List.replicate_zero, List.replicate_succ, Option.map_none, Option.map_some, List.length_cons, List.length_nil, sp_numbers_by_word, wDGet2, wDGet]
  refine ⟨trivial, trivial, trivial, 13, rfl, by omega, ?_⟩
  refine ⟨by decide, two_le hs.1, ?_⟩
  unfold toldS at q
  generalize hw : Txt.split s " " = ws at q ok
  have no : ∀ {A : Prop}, ws.length ≠ 2 → Ξ C.BadText "at" (.int 1) → (if (!decide (((ws.map D.str).length : Int) = 2)) = true then Ξ C.BadText "at" (.int 1) else A) := fun {A} h1 h2 => by
    rw [if_pos]
    · exact h2
    · rw [List.length_map]
      simp
      omega
  match ws, ok with
  | [], _ => exact eq_ints (no (by simp) q)
  | [a], _ => exact eq_ints (no (by simp) q)
  | a :: b :: c :: r, _ => exact eq_ints (no (by simp) q)
  | [a, b], ok =>
    refine eq_ints ?_
    have oa := ok a (by simp)
    show wIx (.lst [.str a, .str b]) (.int 0) _
    refine ⟨.str a, by simp [atI, ixN], eq_strs oa o2 ?_⟩
    by_cases ha : a = "states"
    · simp only [ha, ↓reduceIte] at q ⊢
      rw [if_neg (by simp)]
      show wIx (.lst [.str "states", .str b]) (.int 1) _
      refine ⟨.str b, by simp [atI, ixN], .inr b, rfl, ?_⟩
      rw [get_word]
      cases hn : numW 13 b with
      | none =>
        rw [hn] at q
        exact eqF_ints q
      | some n =>
        rw [hn] at q
        refine eqF_ints ?_
        by_cases h0 : n = 0
        · subst h0; exact q
        · have e : decide ((n : Int) = 0) = false := decide_eq_false (by omega)
          rw [e]
          simp only [h0, ↓reduceIte] at q
          show wIx (.lst [.str "states", .str b]) (.int 1) _
          exact ⟨.str b, by simp [atI, ixN], .inr b, .int (n : Nat), rfl, by rw [get_word, hn]; rfl, q⟩
    · simp only [ha, ↓reduceIte] at q ⊢
      simpa [ha] using q
theorem numsW_all {m : Nat} : ∀ {ws : List Str} {ns : List Nat}, numsW m ws = some ns → ws.length = ns.length ∧ (∀ w ∈ ws, ∃ n, numW m w = some n) ∧ ws.map (fun w => (numW m w).getD 0) = ns
  | [], ns, h => by cases h; exact ⟨rfl, (fun _ h => nomatch h), rfl⟩
  | w :: ws, ns, h => by
    unfold numsW at h
    cases h1 : numW m w with
    | none => (rw [h1] at h; cases h)
    | some n =>
      cases h2 : numsW m ws with
      | none => (rw [h1, h2] at h; cases h)
      | some ms =>
        rw [h1, h2] at h
        cases h
        obtain ⟨a, b, c⟩ := numsW_all h2
        refine ⟨by simp [a], fun v hv => ?_, by simp [h1, c]⟩
        (rcases List.mem_cons.mp hv with rfl | hv)
        · exact ⟨n, h1⟩
        · exact b v hv
theorem numW_lt {m n : Nat} {w : Str} (h : numW m w = some n) : n < m ∧ dig n = w := by
  unfold numW at h
  have h1 := List.mem_of_find?_eq_some h
  have h2 := List.find?_some h
  exact ⟨List.mem_range.mp h1, of_decide_eq_true h2⟩
theorem m_told_table : Sem0 2 5 (sp_told_table C) (x_told_table K C) := by
  rintro hl ds Ψ Ξ - ⟨h, s, m, rfl, hs, hm, q⟩
  cases none_of h
  simp only [x_told_table, wSeq, wNext, wBreak, wCont, wAsg, wRet, wRetN, wDrop, wIfS, wRetO, wgName, wgNil, wgCons, wgTup, wAsgG, wOp, wUn, wCB, wC, wVar, wNil, wCons, wTup, wLst, wB, wAnd, wOr, wNot, wAndV, wOrV, wNotV, wIf, wChain, wAdd, wSub, wMul, wMod, wDiv, wPow, wCmp, wIsN, DL.isNon, wLen, wAbs, wMin2, wMax2, wInt, wFld, wFldO, wM1, wCallA, wCallB, wMake, wRaise, wNeg, wIxO, wLenO, wApp, wSetO, wFset, wPar, wParO, wAsgO, woLst, woCall, wFor, wiSeq, wiRg1, wiEnum, dEnds, outs, args, List.getElem?_cons_zero, List.getElem?_cons_succ, List.nil_append, List.cons_append, List.map_cons, List.map_nil, List.set_cons_zero, List.set_cons_succ, List.append_nil, List.replicate_zero, List.replicate_succ, Option.map_none, Option.map_some, List.length_cons, List.length_nil, sp_numbers_by_word, wDGet2, wDGet]
  refine ⟨trivial, trivial, trivial, m, rfl, by omega, ?_⟩
  refine ⟨by decide, two_le hs.1, ?_⟩
  unfold toldT at q
  generalize hw : Txt.split s " " = ws at q
  refine eq_ints ?_
  by_cases hl : ws.length = m
  · rw [if_pos hl] at q
    have e : decide ((((ws.map D.str).length : Nat) : Int) = (m : Int)) = true := decide_eq_true (by rw [List.length_map]; omega)
    rw [e]
    simp only [Bool.not_true, Bool.false_eq_true, ↓reduceIte]
    have fin : ∀ a, (∀ w ∈ ws, ∃ n, numW m w = some n) → Ψ (rowD (ws.map fun w => (numW m w).getD 0)) none →
        wLc (wiSeq (wVar 3)) (wgName 4) wTrue (wDGet (wVar 2) (wVar 4)) [4] [.val (.str s), .val (.int m), .val (wordsD m), .val (.lst (ws.map D.str)), a] (fun C f d _ => Ξ C f d) fun x _ => wTupOf [x] fun z => Ψ z none := by
      intro a hn hq
      show wLcL _ _ _ _ (ws.map D.str) [] [.val (.str s), .val (.int m), .val (wordsD m), .val (.lst (ws.map D.str)), .un] _
      refine lc_map (R := fun ρ => ρ = [.val (.str s), .val (.int m), .val (wordsD m), .val (.lst (ws.map D.str)), .un]) (fun d => match d with | .str w => .int (((numW m w).getD 0 : Nat) : Int) | d => d) (ws.map D.str) _ rfl (by rw [List.length_map]; have := big; omega) (fun d hd ρ' Φ h1 h2 => ?_) fun ρ' h1 => ?_
      · subst h1
        obtain ⟨w, hw, rfl⟩ := List.mem_map.mp hd
        obtain ⟨n, hn⟩ := hn w hw
        have h3 := h2 [.val (.str s), .val (.int m), .val (wordsD m), .val (.lst (ws.map D.str)), .val (.str w)] rfl
        simp only [hn, Option.getD_some] at h3
        exact ⟨.inr w, .int (n : Nat), rfl, by rw [get_word, hn]; rfl, h3⟩
      · rw [List.map_map]
        have : rowD (ws.map fun w => (numW m w).getD 0) = .tup (ws.map ((fun d => match d with | .str w => .int (((numW m w).getD 0 : Nat) : Int) | d => d) ∘ D.str)) := by
          unfold rowD; rw [List.map_map]; rfl
        rw [this] at hq
        exact hq
    have loop : ∀ (vs : List Str) (a : Sl), (∀ w ∈ ws, w ∈ vs ∨ ∃ n, numW m w = some n) → (match numsW m vs with | some _ => (match numsW m ws with | some r => Ψ (rowD r) none | none => Ψ .non none) | none => Ψ .non none) →
        wForL (wgName 4) (wIfS (wB (wDIn true (wVar 4) (wVar 2))) (wRet (wC .non)) wNext) (vs.map D.str) [.val (.str s), .val (.int m), .val (wordsD m), .val (.lst (ws.map D.str)), a]
          { nx := fun ρ' => wLc (wiSeq (wVar 3)) (wgName 4) wTrue (wDGet (wVar 2) (wVar 4)) [4] ρ' (fun C f d _ => Ξ C f d) fun x _ => wTupOf [x] fun z => Ψ z none, rt := fun d _ => Ψ d none, bk := fun _ => False, ct := fun _ => False, xc := fun C f d _ => Ξ C f d } := by
      intro vs
      induction vs with
      | nil =>
        intro a hall hq
        have hall' : ∀ w ∈ ws, ∃ n, numW m w = some n := fun w hw => (hall w hw).resolve_left (by simp)
        have hsome : ∀ us : List Str, (∀ w ∈ us, ∃ n, numW m w = some n) → ∃ r, numsW m us = some r := fun us => by
          induction us with
          | nil => exact fun _ => ⟨[], rfl⟩
          | cons u us ih =>
            intro h
            obtain ⟨n, hn⟩ := h u List.mem_cons_self
            obtain ⟨r, hr⟩ := ih fun w hw => h w (List.mem_cons_of_mem _ hw)
            exact ⟨n :: r, by unfold numsW; rw [hn, hr]⟩
        obtain ⟨r, hr⟩ := hsome ws hall'
        have hq' : Ψ (rowD r) none := by simpa [numsW, hr] using hq
        refine fin a hall' ?_
        rw [(numsW_all hr).2.2]
        exact hq'
      | cons v vs ih =>
        intro a hall hq
        refine ⟨.inr v, rfl, ?_⟩
        show if (if true = true then !(valD _ _ (.inr v)).isSome else _) = true then _ else _
        rw [get_word]
        cases hn : numW m v with
        | none =>
          have : numsW m (v :: vs) = none := by unfold numsW; rw [hn]
          rw [this] at hq
          exact hq
        | some n =>
          refine ih _ (fun w hw => (hall w hw).elim (fun h => (List.mem_cons.mp h).elim (fun e => .inr ⟨n, e ▸ hn⟩) .inl) .inr) ?_
          cases h2 : numsW m vs with
          | none =>
            have : numsW m (v :: vs) = none := by unfold numsW; rw [hn, h2]
            rw [this] at hq
            exact hq
          | some r =>
            have : numsW m (v :: vs) = some (n :: r) := by unfold numsW; rw [hn, h2]
            rw [this] at hq
            exact hq
    refine loop ws .un (fun w hw => .inl hw) ?_
    cases h2 : numsW m ws <;> rw [h2] at q <;> exact q
  · rw [if_neg hl] at q
    have e : decide ((((ws.map D.str).length : Nat) : Int) = (m : Int)) = false := decide_eq_false (by rw [List.length_map]; omega)
    rw [e]
    exact q
end
end K04
set_option Elab.async false
set_option autoImplicit false
set_option linter.all false
set_option maxRecDepth 100000
set_option maxHeartbeats 3900000
namespace K04
open DL L2 PyProof.Rows PySem PySem.Spec
section
variable {K : Fg} {C : Cs}
theorem plain_row (r : List Nat) : plain2 (rowD r) := ⟨rfl, fun xs h y hy => by
  cases h
  obtain ⟨n, hn, rfl⟩ := List.mem_map.mp hy
  rfl⟩
theorem fault_none (m : Nat) : ∀ (r : List Nat) (i : Nat), (∀ n ∈ r, n < m) → faultD (m : Int) (numsD r) i = .non
  | [], _, _ => rfl
  | n :: r, i, h => by
    have h1 := h n List.mem_cons_self
    have e : belowD (.int (n : Nat)) (m : Int) = true := by
      show (decide (0 ≤ (n : Int)) && decide ((n : Int) < (m : Int))) = true
      rw [decide_eq_true (by omega), decide_eq_true (by omega)]; rfl
    show (if belowD (.int (n : Nat)) (m : Int) = true then faultD (m : Int) (numsD r) (i + 1) else _) = _
    rw [if_pos e]
    exact fault_none m r (i + 1) fun k hk => h k (List.mem_cons_of_mem _ hk)
theorem isTab_row {r : List Nat} (h1 : 1 ≤ r.length) (h2 : r.length ≤ 12) (h : ∀ n ∈ r, n < r.length) : isTab (rowD r) = true := by
  have e : (numsD r).length = r.length := List.length_map ..
  show (decide (1 ≤ (numsD r).length) && decide ((numsD r).length ≤ 12) && isNo (faultD ((numsD r).length : Int) (numsD r) 0)) = true
  rw [e, fault_none r.length r 0 h, decide_eq_true h1, decide_eq_true h2]
  rfl
theorem lenD_row (r : List Nat) : lenD (rowD r) = r.length := List.length_map ..
theorem tabs_none {n : Nat} : ∀ (t : Tb) (i : Nat), (∀ r ∈ t, isTab (rowD r) = true ∧ r.length = n) → tabsFault n (t.map rowD) i = none
  | [], _, _ => rfl
  | r :: t, i, h => by
    obtain ⟨h1, h2⟩ := h r List.mem_cons_self
    show (if (isTab (rowD r) && decide (lenD (rowD r) = n)) = true then _ else _) = _
    rw [h1, lenD_row, h2]
    simp only [decide_true, Bool.and_self, ↓reduceIte]
    exact tabs_none t (i + 1) fun q hq => h q (List.mem_cons_of_mem _ hq)
theorem chk_good {t : Tb} {x : D} (g : Good t) (hx : seqD x = some (t.map rowD)) : chkTabs x = .ok (t.map rowD) := by
  match t, g, hx with
  | [], g, _ => exact absurd rfl g.ne
  | r :: t, g, hx =>
    simp only [chkTabs, hx, List.map_cons]
    have hle := g.le
    simp only [List.length_cons] at hle
    have hf : tabsFault (lenD (rowD r)) (rowD r :: t.map rowD) 0 = none := tabs_none (r :: t) 0 fun q hq => by
      obtain ⟨h1, h2, h3, h4⟩ := g.row q hq
      exact ⟨isTab_row h1 h2 h4, by rw [lenD_row]; exact h3⟩
    simp only [List.length_cons, List.length_map, hle, ↓reduceIte, hf]
    have : t.map (tupD ∘ rowD) = t.map rowD := List.map_congr_left fun q _ => rfl
    rw [List.map_map, this]
    rfl
theorem plain_tb {t : Tb} {x : D} (hx : seqD x = some (t.map rowD)) : plain3 x := ⟨by obtain rfl | rfl := seq_cases hx <;> rfl, fun xs h y hy => by
  rw [hx] at h; cases h
  obtain ⟨r, _, rfl⟩ := List.mem_map.mp hy
  exact plain_row r⟩
/-- Machine(..) of good tables -/
theorem mk_good {t : Tb} {x : D} {Ψ : D → Option OD → Prop} {Ξ : Addr → Str → D → Prop} (g : Good t) (hx : seqD x = some (t.map rowD)) (q : Ψ .non (some (machO C (t.map rowD)))) : sp_Machine_init C (some (.i C.Machine [] [])) [x] Ψ Ξ :=
  ⟨rfl, x, rfl, plain_tb hx, by rw [chk_good g hx]; exact q⟩
theorem numsW_lt {m : Nat} : ∀ {ws : List Str} {ns : List Nat}, numsW m ws = some ns → ∀ n ∈ ns, n < m
  | [], ns, h, n, hn => by cases h; cases hn
  | w :: ws, ns, h, n, hn => by
    unfold numsW at h
    cases h1 : numW m w with
    | none => (rw [h1] at h; cases h)
    | some k =>
      cases h2 : numsW m ws with
      | none => (rw [h1, h2] at h; cases h)
      | some ms =>
        rw [h1, h2] at h
        cases h
        rcases List.mem_cons.mp hn with rfl | hn
        · exact (numW_lt h1).1
        · exact numsW_lt h2 n hn
theorem toldT_is {m : Nat} {l : Str} {r : List Nat} (h : toldT m l = some r) : r.length = m ∧ ∀ n ∈ r, n < m := by
  unfold toldT at h
  split at h
  · rename_i hl
    exact ⟨by rw [← (numsW_all h).1]; exact hl, numsW_lt h⟩
  · cases h
theorem rows_good {m : Nat} (h1 : 1 ≤ m) (h2 : m ≤ 12) : ∀ {ls : List Str} {i : Nat} {t : Tb}, i ≤ 8 → readRows m ls i = .ok t → t.length = ls.length ∧ i + t.length ≤ 8 ∧ ∀ r ∈ t, r.length = m ∧ ∀ n ∈ r, n < m
  | [], i, t, hi, h => by cases h; exact ⟨rfl, hi, fun _ h => nomatch h⟩
  | l :: ls, i, t, hi, h => by
    unfold readRows at h
    cases hr : toldT m l with
    | none => rw [hr] at h; cases h
    | some r =>
      rw [hr] at h
      simp only at h
      split at h
      · cases h
      · rename_i h8
        cases hs : readRows m ls (i + 1) with
        | error e => rw [hs] at h; cases h
        | ok rs =>
          rw [hs] at h
          cases h
          obtain ⟨a, b, c⟩ := rows_good h1 h2 (by omega) hs
          refine ⟨by simp [a], by simp only [List.length_cons]; omega, fun q hq => ?_⟩
          (rcases List.mem_cons.mp hq with rfl | hq)
          · exact toldT_is hr
          · exact c q hq
theorem toldS_is {l : Str} {m : Nat} (h : toldS l = some m) : 1 ≤ m ∧ m ≤ 12 := by
  unfold toldS at h
  split at h
  · split at h
    · split at h
      · rename_i n hn
        split at h
        · cases h
        · cases h
          have := (numW_lt hn).1
          omega
      · cases h
    · cases h
  · cases h
end
end K04
set_option Elab.async false
set_option autoImplicit false
set_option linter.all false
set_option maxRecDepth 100000
set_option maxHeartbeats 3900000
namespace K04
open DL L2 PyProof.Rows PySem PySem.Spec
section
variable {K : Fg} {C : Cs}
theorem cut1 (x : D) (xs : List D) : DL.cutD (x :: xs) (some 1) none = xs := by
  have h1 : HT.sIx (x :: xs).length 0 (some 1) = 1 := by simp [HT.sIx]; try omega
  have h2 : HT.sIx (x :: xs).length (x :: xs).length none = (x :: xs).length := by simp [HT.sIx]
  unfold DL.cutD
  rw [h1, h2]
  simp
theorem split_ne (s y : Str) : Txt.split s y ≠ [] := by
  unfold Txt.split
  split
  · simp
  · split
    · simp
    · intro h
      have := (congrArg List.length h)
      rw [PySem.length_partsBetween] at this
      cases this
theorem good_of {m : Nat} {ls : List Str} {t : Tb} (h1 : 1 ≤ m ∧ m ≤ 12) (hne : ls ≠ []) (h : readRows m ls 0 = .ok t) : Good t := by
  obtain ⟨a, b, c⟩ := rows_good h1.1 h1.2 (by omega) h
  have ht : t ≠ [] := fun z => by rw [z] at a; exact hne (List.length_eq_zero_iff.mp a.symm)
  refine ⟨ht, by omega, fun r hr => ?_⟩
  have e : (t.headD []).length = m := by
    cases t with
    | nil => exact absurd rfl ht
    | cons q t => exact (c q List.mem_cons_self).1
  obtain ⟨d, f⟩ := c r hr
  rw [e, d]
  exact ⟨h1.1, h1.2, rfl, f⟩
theorem rows_loop {m : Nat} (hm : m ≤ 12) {s0 L : D} {l0 : Addr} {Ξ : Addr → Str → D → Prop} {nx bk ct : Rho → Prop} {rt : D → Rho → Prop} {Nx : Tb → Prop} (hN : ∀ rows a b c, Nx rows → nx [.val s0, .val L, .val (.int m), .own l0 (.l (rows.map rowD)), a, b, c]) :
    ∀ (vs : List Str) (i : Nat) (done : Tb) (a b c : Sl), (∀ v ∈ vs, okS v) → done.length = i → i ≤ 8 → (match readRows m vs i with | .ok t => Nx (done ++ t) | .error e => Ξ C.BadText "at" (.int e)) →
      wForL (wgTup 2 (wgCons (wgName 4) (wgCons (wgName 5) wgNil)))
        (wSeq (wAsg 6 (wCallA 2 0 (sp_told_table C) (fun ds _ => ds) (wCons (wVar 5) (wCons (wVar 2) wNil)) wNil))
          (wSeq (wIfS (wOr (wB (wOp (wIsN false) (wVar 6) (wC .non))) (wB (wOp (wEq false) (wVar 4) (wC (.int 8))))) (wRaise C.BadText "at" (wCons (wOp wAdd (wVar 4) (wC (.int 2))) wNil)) wNext) (wApp 3 (wVar 6))))
        (((vs.map D.str).zipIdx i).map fun p => .tup [.int (p.2 : Nat), p.1]) [.val s0, .val L, .val (.int m), .own l0 (.l (done.map rowD)), a, b, c]
        { nx := nx, rt := rt, bk := bk, ct := ct, xc := fun C f d _ => Ξ C f d } := by
  intro vs
  induction vs with
  | nil =>
    intro i done a b c _ _ _ q
    simp only [readRows, List.append_nil] at q
    exact hN done a b c q
  | cons v vs ih =>
    intro i done a b c ok hd hi q
    refine ⟨rfl, rfl, rfl, rfl, rfl, v, m, rfl, ok v List.mem_cons_self, hm, ?_⟩
    unfold readRows at q
    cases hr : toldT m v with
    | none =>
      rw [hr] at q
      exact ⟨rfl, true, rfl, q⟩
    | some r =>
      rw [hr] at q
      simp only at q
      refine ⟨rfl, false, rfl, ?_⟩
      simp only [Bool.false_eq_true, ↓reduceIte, wB, wOp, wVar, wC, List.set_cons_succ, List.set_cons_zero, List.getElem?_cons_succ, List.getElem?_cons_zero]
      refine eqF_ints ?_
      by_cases h8 : i = 8
      · rw [if_pos h8] at q
        rw [decide_eq_true (show ((i : Int) = 8) by omega)]
        exact q
      · rw [if_neg h8] at q
        rw [decide_eq_false (show ¬ ((i : Int) = 8) by omega)]
        refine ⟨⟨l0, _, rfl⟩, ?_, ?_⟩
        · show (done.map rowD).length < sizeLine
          rw [List.length_map]; have := big; omega
        · have := ih (i + 1) (done ++ [r]) (.val (.int (i : Nat))) (.val (.str v)) (.val (rowD r)) (fun w hw => ok w (List.mem_cons_of_mem _ hw)) (by simp [hd]) (by omega) (by
            cases hs : readRows m vs (i + 1) with
            | error e => rw [hs] at q; exact q
            | ok t => rw [hs] at q; simpa [List.append_assoc] using q)
          simp only [List.map_append, List.map_cons, List.map_nil] at this
          exact this
theorem m_read_machine : Sem0 1 7 (sp_read_machine C) (x_read_machine K C) := by
  rintro hl ds Ψ Ξ - ⟨h, x, rfl, hp, hs, q⟩
  cases none_of h
  obtain ⟨t, ht⟩ := Option.isSome_iff_exists.mp hp
  simp only [x_read_machine, wSeq, wNext, wBreak, wCont, wAsg, wRet, wRetN, wDrop, wIfS, wRetO, wgName, wgNil, wgCons, wgTup, wAsgG, wOp, wUn, wCB, wC, wVar, wNil, wCons, wTup, wLst, wB, wAnd, wOr, wNot, wAndV, wOrV, wNotV, wIf, wChain, wAdd, wSub, wMul, wMod, wDiv, wPow, wCmp, wIsN, DL.isNon, wLen, wAbs, wMin2, wMax2, wInt, wFld, wFldO, wM1, wCallA, wCallB, wMake, wRaise, wNeg, wIxO, wLenO, wApp, wSetO, wFset, wPar, wParO, wAsgO, woLst, woCall, wFor, wiSeq, wiRg1, wiEnum, dEnds, outs, args, List.getElem?_cons_zero, List.getElem?_cons_succ, List.nil_append, List.cons_append, List.map_cons, List.map_nil, List.set_cons_zero, List.set_cons_succ, List.append_nil, List.replicate_zero, List.replicate_succ, Option.map_none, Option.map_some, List.length_cons, List.length_nil]
  refine is_ty ht (by decide) ?_
  by_cases hstr : ∃ s, x = .str s
  · obtain ⟨s, rfl⟩ := hstr
    cases ht
    have e1 : subT "str" "str" = true := by decide
    rw [e1]
    simp only [Bool.not_true, Bool.false_eq_true, ↓reduceIte]
    have q : (match readT s with | .ok t => Ψ (mach C t) none | .error i => Ξ C.BadText "at" (.int i)) := q
    refine ⟨by decide, two_le hs.1, ?_⟩
    unfold readT at q
    have hb := split_back s "\n"
    have hne := split_ne s "\n"
    have ok : ∀ l ∈ Txt.split s "\n", okS l := fun l hl => okS_part hs hl
    generalize Txt.split s "\n" = ls at q hne ok
    match ls, hne, ok with
    | l :: ls, _, ok =>
      simp only at q
      refine ⟨.str l, by simp [atI, ixN], trivial, trivial, rfl, l, rfl, ok l (by simp), ?_⟩
      cases hm : toldS l with
      | none => rw [hm] at q; exact q
      | some m =>
        rw [hm] at q
        have hm12 := toldS_is hm
        simp only at q ⊢
        refine eqF_ints ?_
        by_cases hls : ls = []
        · subst hls
          simpa using q
        · rw [if_neg hls] at q
          have e : decide ((((l :: ls).map D.str).length : Int) = 1) = false := decide_eq_false (by
            rw [List.length_map, List.length_cons]
            have : ls.length ≠ 0 := fun z => hls (List.length_eq_zero_iff.mp z)
            omega)
          rw [e]
          (simp only [Bool.false_eq_true, ↓reduceIte])
          refine ⟨Nat.zero_le _, fun l0 => ?_⟩
          show wForL _ _ (enD (DL.cutD (.str l :: ls.map D.str) (some 1) none)) _ _
          rw [cut1]
          refine rows_loop hm12.2 (Nx := fun t => Good t ∧ Ψ (mach C t) none) (fun rows a b c hN => ?_) ls 0 [] .un .un .un (fun w hw => ok w (List.mem_cons_of_mem _ hw)) rfl (by omega) ?_
          · exact ⟨trivial, trivial, mk_good hN.1 rfl ⟨rfl, _, _, rfl, hN.2⟩⟩
          · cases hs : readRows m ls 0 with
            | error e => rw [hs] at q; exact q
            | ok t => rw [hs] at q; exact ⟨good_of hm12 hls hs, q⟩
  · have e1 : subT t "str" = false := by
      cases x <;> cases ht <;> first | decide | exact absurd ⟨_, rfl⟩ hstr
    rw [e1]
    have : readM x = .error 0 := by cases x <;> first | rfl | exact absurd ⟨_, rfl⟩ hstr
    rw [this] at q
    exact q
end
end K04
set_option Elab.async false
set_option autoImplicit false
set_option linter.all false
set_option maxRecDepth 100000
set_option maxHeartbeats 3900000
namespace K04
open DL L2 PyProof.Rows PySem PySem.Spec
section
variable {K : Fg} {C : Cs}
theorem seq_nums {x : D} {ns : List Nat} (h : seqD x = some (numsD ns)) : plain2 x := ⟨by obtain rfl | rfl := seq_cases h <;> rfl, fun xs e y hy => by
  rw [h] at e; cases e
  obtain ⟨n, _, rfl⟩ := List.mem_map.mp hy
  rfl⟩
theorem m_log_text : Sem0 2 2 (sp_log_text C) (x_log_text K C) := by
  rintro hl ds Ψ Ξ - ⟨h, t, x, ht, rfl, q⟩
  cases none_of h
  simp only [x_log_text, wSeq, wNext, wBreak, wCont, wAsg, wRet, wRetN, wDrop, wIfS, wRetO, wgName, wgNil, wgCons, wgTup, wAsgG, wOp, wUn, wCB, wC, wVar, wNil, wCons, wTup, wLst, wB, wAnd, wOr, wNot, wAndV, wOrV, wNotV, wIf, wChain, wAdd, wSub, wMul, wMod, wDiv, wPow, wCmp, wIsN, DL.isNon, wLen, wAbs, wMin2, wMax2, wInt, wFld, wFldO, wM1, wCallA, wCallB, wMake, wRaise, wNeg, wIxO, wLenO, wApp, wSetO, wFset, wPar, wParO, wAsgO, woLst, woCall, wFor, wiSeq, wiRg1, wiEnum, dEnds, outs, args, List.getElem?_cons_zero, List.getElem?_cons_succ, List.nil_append, List.cons_append, List.map_cons, List.map_nil, List.set_cons_zero, List.set_cons_succ, List.append_nil, List.replicate_zero, List.replicate_succ, Option.map_none, Option.map_some, List.length_cons, List.length_nil, sp_check_log, sp_numbers_text]
  rcases q with ⟨ns, hx, hn, hlen, q⟩ | ⟨i, hp, hi, q⟩
  · refine ⟨trivial, trivial, trivial, t, x, rfl, seq_nums hx, ?_⟩
    have e : logF t.length x = .non := by
      unfold logF
      rw [hx]
      simp only
      rw [if_pos (by unfold numsD; rw [List.length_map]; omega)]
      exact fault_none t.length ns 0 hn
    rw [e]
    have e2 : tupD x = rowD ns := by unfold tupD; rw [hx]; rfl
    rw [e2]
    show wEq false (.int ((numsD ns).length : Nat)) (.int 0) _
    refine eqF_ints ?_
    have el : (numsD ns).length = ns.length := List.length_map ..
    by_cases h0 : ns = []
    · subst h0; exact q
    · have hne : ns.length ≠ 0 := fun z => h0 (List.length_eq_zero_iff.mp z)
      rw [el, decide_eq_false (show ¬ ((ns.length : Int) = 0) by omega)]
      refine ⟨trivial, trivial, trivial, rowD ns, ns, rfl, rfl, fun n h => ?_, by omega, ?_⟩
      · have := hn n h; have := ht.le; omega
      · unfold logT at q; rw [if_neg h0] at q; exact q
  · refine ⟨trivial, trivial, trivial, t, x, rfl, hp, ?_⟩
    rw [hi]
    exact q
theorem okS_dash : okS "-" := ⟨by decide, by decide⟩
theorem ws_loop {m : Nat} {s0 L : D} {l0 : Addr} {Ξ : Addr → Str → D → Prop} {nx bk ct : Rho → Prop} {rt : D → Rho → Prop} {Nx : List Nat → Prop} (hN : ∀ ns a b, Nx ns → nx [.val s0, .val L, .val (wordsD m), .own l0 (.l (numsD ns)), a, b]) :
    ∀ (vs : List Str) (i : Nat) (done : List Nat) (a b : Sl), done.length = i → i ≤ 10000 → (match readWs m vs i with | .ok t => Nx (done ++ t) | .error e => Ξ C.BadText "at" (.int e)) →
      wForL (wgTup 2 (wgCons (wgName 4) (wgCons (wgName 5) wgNil)))
        (wSeq (wIfS (wOr (wB (wDIn true (wVar 5) (wVar 2))) (wB (wOp (wEq false) (wVar 4) (wC (.int 10000))))) (wRaise C.BadText "at" (wCons (wVar 4) wNil)) wNext) (wApp 3 (wDGet (wVar 2) (wVar 5))))
        (((vs.map D.str).zipIdx i).map fun p => .tup [.int (p.2 : Nat), p.1]) [.val s0, .val L, .val (wordsD m), .own l0 (.l (numsD done)), a, b]
        { nx := nx, rt := rt, bk := bk, ct := ct, xc := fun C f d _ => Ξ C f d } := by
  intro vs
  induction vs with
  | nil =>
    intro i done a b _ _ q
    simp only [readWs, List.append_nil] at q
    exact hN done a b q
  | cons v vs ih =>
    intro i done a b hd hi q
    refine ⟨rfl, rfl, .inr v, rfl, ?_⟩
    show if (if true = true then !(valD _ _ (.inr v)).isSome else _) = true then _ else _
    rw [get_word]
    unfold readWs at q
    cases hr : numW m v with
    | none =>
      rw [hr] at q
      exact q
    | some n =>
      rw [hr] at q
      simp only at q
      simp only [Bool.false_eq_true, ↓reduceIte, wB, wOp, wVar, wC, List.set_cons_succ, List.set_cons_zero, List.getElem?_cons_succ, List.getElem?_cons_zero, Option.map_some, Option.isSome_some, Bool.not_true]
      refine eqF_ints ?_
      by_cases h8 : i = 10000
      · rw [if_pos h8] at q
        rw [decide_eq_true (show ((i : Int) = 10000) by omega)]
        exact q
      · rw [if_neg h8] at q
        rw [decide_eq_false (show ¬ ((i : Int) = 10000) by omega)]
        refine ⟨⟨l0, _, rfl⟩, .inr v, .int (n : Nat), rfl, by rw [get_word, hr]; rfl, ?_, ?_⟩
        · show (numsD done).length < sizeLine
          unfold numsD; rw [List.length_map]; have := big; omega
        · have := ih (i + 1) (done ++ [n]) (.val (.int (i : Nat))) (.val (.str v)) (by simp [hd]) (by omega) (by
            cases hs : readWs m vs (i + 1) with
            | error e => rw [hs] at q; exact q
            | ok t => rw [hs] at q; simpa [List.append_assoc] using q)
          simp only [numsD, List.map_append, List.map_cons, List.map_nil] at this ⊢
          exact this
theorem m_read_log : Sem0 2 6 (sp_read_log C) (x_read_log K C) := by
  rintro hl ds Ψ Ξ - ⟨h, t, x, ht, rfl, hp, hs, q⟩
  cases none_of h
  obtain ⟨ty, hty⟩ := Option.isSome_iff_exists.mp hp
  simp only [x_read_log, wSeq, wNext, wBreak, wCont, wAsg, wRet, wRetN, wDrop, wIfS, wRetO, wgName, wgNil, wgCons, wgTup, wAsgG, wOp, wUn, wCB, wC, wVar, wNil, wCons, wTup, wLst, wB, wAnd, wOr, wNot, wAndV, wOrV, wNotV, wIf, wChain, wAdd, wSub, wMul, wMod, wDiv, wPow, wCmp, wIsN, DL.isNon, wLen, wAbs, wMin2, wMax2, wInt, wFld, wFldO, wM1, wCallA, wCallB, wMake, wRaise, wNeg, wIxO, wLenO, wApp, wSetO, wFset, wPar, wParO, wAsgO, woLst, woCall, wFor, wiSeq, wiRg1, wiEnum, dEnds, outs, args, List.getElem?_cons_zero, List.getElem?_cons_succ, List.nil_append, List.cons_append, List.map_cons, List.map_nil, List.set_cons_zero, List.set_cons_succ, List.append_nil, List.replicate_zero, List.replicate_succ, Option.map_none, Option.map_some, List.length_cons, List.length_nil]
  refine is_ty hty (by decide) ?_
  by_cases hstr : ∃ s, x = .str s
  · obtain ⟨s, rfl⟩ := hstr
    cases hty
    have e1 : subT "str" "str" = true := by decide
    rw [e1]
    simp only [Bool.not_true, Bool.false_eq_true, ↓reduceIte]
    refine eq_strs hs okS_dash ?_
    simp only [readL] at q
    by_cases hd : s = "-"
    · simp only [hd, ↓reduceIte] at q
      simp only [hd, decide_true, Bool.false_eq_true, ↓reduceIte]
      exact ⟨Nat.zero_le _, q⟩
    · simp only [hd, ↓reduceIte] at q
      simp only [hd, decide_false, Bool.false_eq_true, ↓reduceIte]
      refine ⟨rfl, .int (t.length : Nat), look_deeds C t, trivial, trivial, rfl, t.length, rfl, by have := ht.le; omega, Nat.zero_le _, fun l0 => ?_⟩
      refine ⟨by decide, two_le hs.1, ?_⟩
      refine ws_loop (Nx := fun ns => Ψ (rowD ns) none) (fun ns a b hN => ?_) _ 0 [] .un .un rfl (by omega) ?_
      · exact hN
      · cases hr : readWs t.length (Txt.split s " ") 0 <;> rw [hr] at q <;> exact q
  · have e1 : subT ty "str" = false := by
      cases x <;> cases hty <;> first | decide | exact absurd ⟨_, rfl⟩ hstr
    rw [e1]
    have : readL t.length x = .error 0 := by cases x <;> first | rfl | exact absurd ⟨_, rfl⟩ hstr
    rw [this] at q
    exact q
end
end K04
set_option Elab.async false
set_option autoImplicit false
set_option linter.all false
set_option maxRecDepth 100000
set_option maxHeartbeats 3900000
namespace K04
open DL L2 PyProof.Rows PySem PySem.Spec
section
variable {K : Fg} {C : Cs}
theorem at3 (a b c : Int) : atI [D.int a, .int b, .int c] 0 = some (.int a) ∧ atI [D.int a, .int b, .int c] 1 = some (.int b) ∧ atI [D.int a, .int b, .int c] 2 = some (.int c) := by simp [atI, ixN]
theorem ix3 : ixN 3 0 = some 0 ∧ ixN 3 1 = some 1 ∧ ixN 3 2 = some 2 := by decide
theorem m_law_take : Sem0 2 4 (sp_law_take C) (x_law_take K C) := by
  rintro hl ds Ψ Ξ - ⟨o, m, h, ⟨a, b, c, ha, rfl⟩, rfl, hm, hm2, q⟩
  match hl, h with
  | some (l, o), h =>
    cases (Option.some.inj h : o = .l [.int a, .int b, .int c])
    refine ⟨⟨l, _, rfl⟩, .int a, (at3 a b c).1, ?_⟩
    show if decide ((0 : Int) < a) = true then _ else _
    have nn : ∀ x y : Int, 0 < y → 0 ≤ x % y ∧ x % y < y := fun x y h => ⟨Int.emod_nonneg _ (by omega), Int.emod_lt_of_pos _ h⟩
    by_cases h0 : (0 : Int) < a
    · rw [if_pos (decide_eq_true h0)]
      refine ⟨⟨l, _, rfl⟩, .int a, (at3 a b c).1, hm, ⟨l, _, rfl⟩, .int a, (at3 a b c).1, ⟨hm, by omega⟩, ⟨l, _, rfl⟩, 0, ix3.1, ?_⟩
      refine ⟨.l [.int (a / m), .int b, .int c], rfl, q _ _ (nn a m hm).1 (nn a m hm).2 ⟨a / m, b, c, ?_, rfl⟩⟩
      exact Int.ediv_nonneg (by omega) (by omega)
    · rw [if_neg (by rw [decide_eq_false h0]; exact Bool.false_ne_true)]
      refine ⟨⟨l, _, rfl⟩, .int c, (at3 a b c).2.2, ⟨l, _, rfl⟩, 2, ix3.2.2, ?_⟩
      refine ⟨⟨l, _, rfl⟩, .int b, (at3 a b (c + 1)).2.1, ⟨l, _, rfl⟩, .int (c + 1), (at3 a b (c + 1)).2.2, .inl (by decide), .inr (by decide), by decide, ?_⟩
      refine ⟨.inr (by decide), by decide, ⟨l, _, rfl⟩, 1, ix3.2.1, .inr (by decide), ⟨l, _, rfl⟩, _, (at3 a _ (c + 1)).2.1, ⟨by decide, by decide⟩, hm, ?_⟩
      refine ⟨.l [.int a, .int _, .int (c + 1)], rfl, q _ _ (nn _ m hm).1 (nn _ m hm).2 ⟨a, _, c + 1, ha, rfl⟩⟩
theorem at_of {xs : List D} {d : Int} (h0 : 0 ≤ d) (h1 : d < (xs.length : Int)) : ∃ x, atI xs d = some x ∧ x ∈ xs := by
  have hlt : d.toNat < xs.length := by omega
  refine ⟨xs[d.toNat], ?_, List.getElem_mem hlt⟩
  unfold atI ixN
  rw [if_pos h0, if_pos h1]
  simp [hlt]
theorem m_law_pick : Sem0 2 2 (sp_law_pick C) (x_law_pick K C) := by
  rintro hl ds Ψ Ξ - ⟨o, xs, h, ho, rfl, hne, hlen, q⟩
  match hl, h with
  | some (l, o'), h =>
    cases (Option.some.inj h : o' = o)
    have hpos : 0 < xs.length := List.length_pos_iff.mpr hne
    refine ⟨⟨l, _, rfl⟩, rfl, o, _, rfl, ho, rfl, by omega, by omega, fun d o2 h0 h1 h2 => ⟨o2, rfl, ?_⟩⟩
    obtain ⟨x, hx, hm⟩ := at_of h0 h1
    exact ⟨x, hx, o2, rfl, q x o2 hm h2⟩
/-- a range -/
theorem rg_nums (m : Nat) : rgD 0 m = numsD (List.range m) := by unfold rgD numsD; simp
/-- draws, one by one: the object is the slot 0 -/
theorem draws {i : Nat} {rest : Rho} {l : Addr} {m : Int} {we : WE} {Φ : List D → Rho → Prop} {R : Rho → Prop} (ds : List D) (ρ : Rho) (hm : 0 < m) (hl : ds.length ≤ sizeLine) (hR : R ρ)
    (hs : ∀ d ∈ ds, ∀ ρ' (Ψ : D → Rho → Prop), R ρ' → (∀ x ρ3, (∃ k : Nat, x = .int k ∧ (k : Int) < m) → R (wipeR ρ3 [i]) → Ψ x ρ3) → we (ρ'.set i (.val d)) χ0 Ψ)
    (hΦ : ∀ ns ρ', ns.length = ds.length → (∀ n ∈ ns, ((n : Nat) : Int) < m) → R ρ' → Φ (numsD ns) ρ') : wLcL (wgName i) wTrue we [i] ds [] ρ Φ := by
  refine lc_gen (P := fun _ y => ∃ k : Nat, y = .int k ∧ (k : Int) < m) ds [] ρ hR (by simpa using hl) (fun d hd ρ' Ψ h1 h2 => hs d hd ρ' Ψ h1 fun x ρ3 h3 h4 => h2 x ρ3 h3 h4) fun ys ρ' hp h2 => ?_
  have : ∃ ns : List Nat, ys = numsD ns ∧ ns.length = ds.length ∧ ∀ n ∈ ns, ((n : Nat) : Int) < m := by
    clear hs hΦ hl hR
    induction hp with
    | nil => exact ⟨[], rfl, rfl, fun _ h => nomatch h⟩
    | cons h t ih =>
      obtain ⟨k, rfl, hk⟩ := h
      obtain ⟨ns, rfl, h1, h2⟩ := ih
      exact ⟨k :: ns, rfl, by simp [h1], fun n hn => (List.mem_cons.mp hn).elim (fun e => e ▸ hk) (h2 n)⟩
  obtain ⟨ns, rfl, h3, h4⟩ := this
  rw [List.nil_append]
  exact hΦ ns ρ' h3 h4 h2
theorem nat_of {d m : Int} (h0 : 0 ≤ d) (h1 : d < m) : ∃ k : Nat, D.int d = .int k ∧ (k : Int) < m := ⟨d.toNat, by rw [Int.toNat_of_nonneg h0], by rw [Int.toNat_of_nonneg h0]; exact h1⟩
theorem m_law_log : Sem0 3 4 (sp_law_log C) (x_law_log K C) := by
  rintro hl ds Ψ Ξ - ⟨o, t, h, ho, ht, rfl, q⟩
  match hl, h with
  | some (l, o'), h =>
    cases (Option.some.inj h : o' = o)
    have h8 := ht.le
    have hpos : 0 < t.length := List.length_pos_iff.mpr ht.ne
    have el : (t.map rowD).length = t.length := List.length_map ..
    refine ⟨⟨l, _, rfl⟩, rfl, o, 8, rfl, ho, rfl, by decide, by decide, fun d o2 h0 h1 h2 => ⟨o2, rfl, ⟨by omega, by omega⟩, ?_⟩⟩
    show wLcL _ _ _ _ (rgD 0 d.toNat) [] [.own l o2, .val (tbsD t), .val (.int 7), .un] _
    have hlen : (rgD 0 d.toNat).length = d.toNat := by unfold rgD; simp
    refine draws (R := fun ρ => ∃ o, GoodB o ∧ ρ = [.own l o, .val (tbsD t), .val (.int 7), .un]) (m := (t.length : Int)) (rest := []) (l := l) _ _ (by omega) (by rw [hlen]; have := big; omega) ⟨o2, h2, rfl⟩ (fun x hx ρ' Φ hR hk => ?_) fun ns ρ' h3 h4 hR => ?_
    · obtain ⟨o3, ho3, rfl⟩ := hR
      refine ⟨⟨l, _, rfl⟩, rfl, o3, ((t.map rowD).length : Nat), rfl, ho3, rfl, by omega, by omega, fun d o4 h5 h6 h7 => ⟨o4, rfl, ?_⟩⟩
      rw [el] at h6
      exact hk _ [.own l o4, .val (tbsD t), .val (.int 7), .val x] (nat_of h5 h6) ⟨o4, h7, rfl⟩
    · obtain ⟨o3, ho3, rfl⟩ := hR
      refine ⟨o3, rfl, q ns o3 (fun n hn => by have := h4 n hn; omega) (by rw [h3, hlen]; omega) ho3⟩
end
end K04
set_option Elab.async false
set_option autoImplicit false
set_option linter.all false
set_option maxRecDepth 100000
set_option maxHeartbeats 3900000
namespace K04
open DL L2 PyProof.Rows PySem PySem.Spec
section
variable {K : Fg} {C : Cs}
abbrev szD : D := .lst [.int 1, .int 2, .int 3, .int 4, .int 5]
abbrev kdD : D := .lst [.int 1, .int 2, .int 3, .int 4]
def RowOk (m : Nat) (r : List Nat) : Prop := r.length = m ∧ ∀ n ∈ r, n < m
def St (l0 l1 : Addr) (m : Nat) (rows : Tb) (P8 : Sl → Prop) (ρ : Rho) : Prop := ∃ (o : OD) (s5 : Sl) (st b : Int) (s8 s9 : Sl), GoodB o ∧ 0 ≤ b ∧ b < m ∧ P8 s8 ∧
  ρ = [.own l0 o, .val szD, .val kdD, .val (.int (m : Nat)), .own l1 (.l (rows.map rowD)), s5, .val (.int st), .val (.int b), s8, s9]
def Tab8 (m : Nat) (s : Sl) : Prop := ∃ r, RowOk m r ∧ s = .val (.lst (numsD r))
variable {l0 l1 : Addr} {m : Nat} {rows : Tb} {P8 : Sl → Prop}
theorem St.set9 {ρ : Rho} {s : Sl} (h : St l0 l1 m rows P8 ρ) : St l0 l1 m rows P8 (ρ.set 9 s) := by
  obtain ⟨o, s5, st, b, s8, s9, h1, h2, h3, h4, rfl⟩ := h
  exact ⟨o, s5, st, b, s8, s, h1, h2, h3, h4, rfl⟩
theorem St.set8 {ρ : Rho} {r : List Nat} (h : St l0 l1 m rows P8 ρ) (hr : RowOk m r) : St l0 l1 m rows (Tab8 m) (ρ.set 8 (.val (.lst (numsD r)))) := by
  obtain ⟨o, s5, st, b, s8, s9, h1, h2, h3, h4, rfl⟩ := h
  exact ⟨o, s5, st, b, _, s9, h1, h2, h3, ⟨r, hr, rfl⟩, rfl⟩
/-- [.. for state in range(many)] -/
theorem comp_St (hm : m ≤ 5) {elt : WE} (he : ∀ ρ (s : Nat) (Ψ : D → Rho → Prop), St l0 l1 m rows P8 ρ → s < m → (∀ (v : Nat) ρ3, v < m → St l0 l1 m rows P8 ρ3 → Ψ (.int v) ρ3) → elt (ρ.set 9 (.val (.int (s : Nat)))) χ0 Ψ) {ρ : Rho} {χ : XC} {Φ : D → Rho → Prop}
    (h : St l0 l1 m rows P8 ρ) (q : ∀ r ρ1, RowOk m r → St l0 l1 m rows P8 ρ1 → Φ (.lst (numsD r)) ρ1) : wLc (wiRg1 (wCons (wVar 3) wNil)) (wgName 9) wTrue elt [9] ρ χ Φ := by
  have go : wLcL (wgName 9) wTrue elt [9] (rgD 0 m) [] (wipeR ρ [9]) fun ys ρ2 => Φ (.lst ys) (backR ρ ρ2 [9]) := by
    have hlen : (rgD 0 m).length = m := by unfold rgD; simp
    rw [rg_nums] at hlen ⊢
    by_cases h0 : m = 0
    · subst h0
      exact q [] _ ⟨rfl, fun _ h => nomatch h⟩ (St.set9 (St.set9 h))
    refine draws (R := St l0 l1 m rows P8) (m := (m : Int)) (rest := []) (l := l0) _ _ (by omega) (by rw [hlen]; have := big; omega) (St.set9 h) (fun x hx ρ' Ψ hR hk => ?_) fun ns ρ' h3 h4 hR => ?_
    · obtain ⟨s, hs, rfl⟩ := List.mem_map.mp hx
      exact he ρ' s Ψ hR (List.mem_range.mp hs) fun v ρ3 hv h3 => hk _ ρ3 ⟨v, rfl, by omega⟩ (St.set9 h3)
    · exact q ns _ ⟨by rw [h3, hlen], fun n hn => by have := h4 n hn; omega⟩ (St.set9 hR)
  obtain ⟨o, s5, st, b, s8, s9, h1, h2, h3, h4, rfl⟩ := h
  refine ⟨⟨by omega, by omega⟩, ?_⟩
  rw [Int.toNat_natCast]
  exact go
theorem if_St {k : Int} {we : WE} (hwe : ∀ ρ χ (Φ : D → Rho → Prop), St l0 l1 m rows (Tab8 m) ρ → (∀ r ρ1, RowOk m r → St l0 l1 m rows (Tab8 m) ρ1 → Φ (.lst (numsD r)) ρ1) → we ρ χ Φ) {ρ : Rho} {Δ : DE} (h : St l0 l1 m rows (Tab8 m) ρ)
    (q : ∀ ρ', St l0 l1 m rows (Tab8 m) ρ' → Δ.nx ρ') : wIfS (wB (wOp (wEq false) (wVar 6) (wC (.int k)))) (wAsg 8 we) wNext ρ Δ := by
  have h' := h
  obtain ⟨o, s5, st, b, s8, s9, h1, h2, h3, h4, rfl⟩ := h'
  simp only [wIfS, wB, wOp, wVar, wC, List.getElem?_cons_succ, List.getElem?_cons_zero]
  refine eqF_ints ?_
  cases hk : decide (st = k)
  · exact q _ h
  · exact hwe _ _ _ h fun r ρ1 hr hρ => q _ (hρ.set8 hr)
theorem seqI {w u : WS} {ρ : Rho} {Δ : DE} (h : w ρ { Δ with nx := fun ρ' => u ρ' Δ }) : wSeq w u ρ Δ := h
theorem asgI {i : Nat} {wa : WE} {ρ : Rho} {Δ : DE} (h : wa ρ Δ.xc fun d ρ1 => Δ.nx (ρ1.set i (.val d))) : wAsg i wa ρ Δ := h
theorem mem_sz {d : D} (h : d ∈ [D.int 1, .int 2, .int 3, .int 4, .int 5]) : ∃ m : Nat, d = .int m ∧ 1 ≤ m ∧ m ≤ 5 := by
  simp only [List.mem_cons, List.not_mem_nil, or_false] at h
  rcases h with rfl | rfl | rfl | rfl | rfl
  · exact ⟨1, rfl, by decide, by decide⟩
  · exact ⟨2, rfl, by decide, by decide⟩
  · exact ⟨3, rfl, by decide, by decide⟩
  · exact ⟨4, rfl, by decide, by decide⟩
  · exact ⟨5, rfl, by decide, by decide⟩
theorem mem_kd {d : D} (h : d ∈ [D.int 1, .int 2, .int 3, .int 4]) : ∃ m : Nat, d = .int m ∧ 1 ≤ m ∧ m ≤ 4 := by
  simp only [List.mem_cons, List.not_mem_nil, or_false] at h
  rcases h with rfl | rfl | rfl | rfl
  · exact ⟨1, rfl, by decide, by decide⟩
  · exact ⟨2, rfl, by decide, by decide⟩
  · exact ⟨3, rfl, by decide, by decide⟩
  · exact ⟨4, rfl, by decide, by decide⟩
theorem good_rows {m : Nat} {rows : Tb} (h1 : 1 ≤ m) (h2 : m ≤ 12) (hr : ∀ r ∈ rows, RowOk m r) (hne : rows ≠ []) (h8 : rows.length ≤ 8) : Good rows := by
  refine ⟨hne, h8, fun r h => ?_⟩
  have e : (rows.headD []).length = m := by
    cases rows with
    | nil => exact absurd rfl hne
    | cons q t => exact (hr q List.mem_cons_self).1
  obtain ⟨a, b⟩ := hr r h
  rw [e, a]
  exact ⟨h1, h2, rfl, b⟩
theorem m_law_tables : Sem0 3 10 (sp_law_tables C) (x_law_tables K C) := by
  rintro hl ds Ψ Ξ - ⟨o, h, ho, rfl, q⟩
  match hl, h with
  | some (l0, o'), h =>
    cases (Option.some.inj h : o' = o)
    refine ⟨⟨l0, _, rfl⟩, rfl, o, _, rfl, ho, rfl, by simp, by decide, fun d o2 hd h2 => ⟨o2, rfl, Nat.zero_le _, fun l1 => ?_⟩⟩
    obtain ⟨m, rfl, hm1, hm5⟩ := mem_sz hd
    refine ⟨⟨l0, _, rfl⟩, rfl, o2, _, rfl, h2, rfl, by simp, by decide, fun d o3 hd h3 => ⟨o3, rfl, ?_⟩⟩
    obtain ⟨n, rfl, hn1, hn4⟩ := mem_kd hd
    refine ⟨⟨by omega, by omega⟩, ?_⟩
    show wForL _ _ (rgD 0 (n : Int).toNat) _ _
    rw [Int.toNat_natCast]
    have loop : ∀ (es : List D) (rows : Tb) (o : OD) (s5 s6 s7 s8 s9 : Sl), GoodB o → (∀ r ∈ rows, RowOk m r) → 1 ≤ rows.length + es.length → rows.length + es.length ≤ 8 →
        wForL (wgName 5) (wSeq (wAsgG (wgTup 2 (wgCons (wgName 6) (wgCons (wgName 7) wgNil))) (wTup (wCons (wCallB 0 1 (sp_law_take C) (wCons (wC (.int 6)) wNil)) (wCons (wCallB 0 1 (sp_law_take C) (wCons (wVar 3) wNil)) wNil))))
          (wSeq (wAsg 8 (wLc (wiRg1 (wCons (wVar 3) wNil)) (wgName 9) wTrue (wCallB 0 1 (sp_law_take C) (wCons (wVar 3) wNil)) [9]))
          (wSeq (wIfS (wB (wOp (wEq false) (wVar 6) (wC (.int 0)))) (wAsg 8 (wLc (wiRg1 (wCons (wVar 3) wNil)) (wgName 9) wTrue (wOp wMod (wCB wInt (wCons (wOp wAdd (wVar 9) (wVar 7)) wNil)) (wVar 3)) [9])) wNext)
          (wSeq (wIfS (wB (wOp (wEq false) (wVar 6) (wC (.int 1)))) (wAsg 8 (wLc (wiRg1 (wCons (wVar 3) wNil)) (wgName 9) wTrue (wCB wMin2 (wCons (wOp wSub (wVar 3) (wC (.int 1))) (wCons (wOp wAdd (wVar 9) (wC (.int 1))) wNil))) [9])) wNext)
          (wSeq (wIfS (wB (wOp (wEq false) (wVar 6) (wC (.int 2)))) (wAsg 8 (wOp wMul (wLst (wCons (wVar 7) wNil)) (wVar 3))) wNext)
          (wSeq (wIfS (wB (wOp (wEq false) (wVar 6) (wC (.int 3)))) (wAsg 8 (wLc (wiRg1 (wCons (wVar 3) wNil)) (wgName 9) wTrue (wCB wMax2 (wCons (wVar 9) (wCons (wVar 7) wNil))) [9])) wNext)
          (wApp 4 (wCB wTupOf (wCons (wVar 8) wNil)))))))))
          es [.own l0 o, .val szD, .val kdD, .val (.int (m : Nat)), .own l1 (.l (rows.map rowD)), s5, s6, s7, s8, s9]
          { dEnds (some (l0, o3)) Ψ Ξ with nx := fun ρ => wRet (wVar 4) ρ (dEnds (some (l0, o3)) Ψ Ξ) } := by
      intro es
      induction es with
      | nil =>
        intro rows o s5 s6 s7 s8 s9 ho hr h1 h8
        simp only [List.length_nil, Nat.add_zero] at h1 h8
        exact ⟨o, rfl, q rows o (good_rows hm1 (by omega) hr (fun z => by rw [z] at h1; simp at h1) h8) ho⟩
      | cons e es ih =>
        intro rows o s5 s6 s7 s8 s9 ho hr h1 h8
        refine ⟨⟨l0, _, rfl⟩, rfl, o, _, rfl, ho, rfl, by decide, by decide, fun d o4 a1 a2 h4 => ⟨o4, rfl, ⟨l0, _, rfl⟩, rfl, o4, _, rfl, h4, rfl, by omega, by omega, fun b o5 b1 b2 h5 => ⟨o5, rfl, by show 2 ≤ sizeLine; decide, rfl, rfl, ?_⟩⟩⟩
        have s0 : St l0 l1 m rows (fun _ => True) [.own l0 o5, .val szD, .val kdD, .val (.int (m : Nat)), .own l1 (.l (rows.map rowD)), .val e, .val (.int d), .val (.int b), s8, s9] := ⟨o5, _, d, b, s8, s9, h5, b1, b2, trivial, rfl⟩
        refine seqI (asgI (comp_St hm5 (fun ρ s Ψ hρ hs hk => ?_) s0 fun r ρ1 hr1 hρ1 => ?_))
        · obtain ⟨o6, t5, st, b6, t8, t9, g1, g2, g3, g4, rfl⟩ := hρ
          refine ⟨⟨l0, _, rfl⟩, rfl, o6, _, rfl, g1, rfl, by omega, by omega, fun d o7 c1 c2 h7 => ⟨o7, rfl, ?_⟩⟩
          obtain ⟨v, hv, hv2⟩ := nat_of c1 c2
          rw [hv]
          exact hk v _ (by omega) ⟨o7, t5, st, b6, t8, _, h7, g2, g3, g4, rfl⟩
        refine seqI (if_St (fun ρ χ Φ hρ hq => comp_St hm5 (fun ρ s Ψ hρ hs hk => ?_) hρ hq) (hρ1.set8 hr1) fun ρ2 hρ2 => ?_)
        · obtain ⟨o6, t5, st, b6, t8, t9, g1, g2, g3, g4, rfl⟩ := hρ
          refine ⟨by omega, ?_⟩
          obtain ⟨v, hv, hv2⟩ := nat_of (d := ((s : Int) + b6) % (m : Int)) (Int.emod_nonneg _ (by omega)) (Int.emod_lt_of_pos _ (by omega))
          show Ψ (.int (((s : Int) + b6) % (m : Int))) _
          rw [hv]
          exact hk v _ (by omega) ⟨o6, t5, st, b6, t8, _, g1, g2, g3, g4, rfl⟩
        refine seqI (if_St (fun ρ χ Φ hρ hq => comp_St hm5 (fun ρ s Ψ hρ hs hk => ?_) hρ hq) hρ2 fun ρ3 hρ3 => ?_)
        · obtain ⟨o6, t5, st, b6, t8, t9, g1, g2, g3, g4, rfl⟩ := hρ
          obtain ⟨v, hv, hv2⟩ := nat_of (d := if (s : Int) + 1 < (m : Int) - 1 then (s : Int) + 1 else (m : Int) - 1) (m := (m : Int)) (by split <;> omega) (by split <;> omega)
          show Ψ (.int (if (s : Int) + 1 < (m : Int) - 1 then (s : Int) + 1 else (m : Int) - 1)) _
          rw [hv]
          exact hk v _ (by omega) ⟨o6, t5, st, b6, t8, _, g1, g2, g3, g4, rfl⟩
        refine seqI (if_St (fun ρ χ Φ hρ hq => ?_) hρ3 fun ρ4 hρ4 => ?_)
        · have hρ' := hρ
          obtain ⟨o6, t5, st, b6, t8, t9, g1, g2, g3, g4, rfl⟩ := hρ'
          refine ⟨by show 1 ≤ sizeLine; decide, by omega, by omega, by show 1 * ((m : Int).toNat) ≤ sizeLine; rw [Int.toNat_natCast]; have := big; omega, ?_⟩
          have e : (List.replicate (m : Int).toNat [D.int b6]).flatten = numsD (List.replicate m b6.toNat) := by
            rw [Int.toNat_natCast]
            unfold numsD
            rw [List.map_replicate, Int.toNat_of_nonneg g2]
            exact List.flatten_replicate_singleton
          rw [e]
          exact hq _ _ ⟨List.length_replicate .., fun n hn => by rw [List.eq_of_mem_replicate hn]; omega⟩ hρ
        refine seqI (if_St (fun ρ χ Φ hρ hq => comp_St hm5 (fun ρ s Ψ hρ hs hk => ?_) hρ hq) hρ4 fun ρ5 hρ5 => ?_)
        · obtain ⟨o6, t5, st, b6, t8, t9, g1, g2, g3, g4, rfl⟩ := hρ
          obtain ⟨v, hv, hv2⟩ := nat_of (d := if b6 > (s : Int) then b6 else (s : Int)) (m := (m : Int)) (by split <;> omega) (by split <;> omega)
          show Ψ (.int (if b6 > (s : Int) then b6 else (s : Int))) _
          rw [hv]
          exact hk v _ (by omega) ⟨o6, t5, st, b6, t8, _, g1, g2, g3, g4, rfl⟩
        · obtain ⟨o6, t5, st, b6, t8, t9, g1, g2, g3, ⟨r2, hr2, rfl⟩, rfl⟩ := hρ5
          refine ⟨⟨l1, _, rfl⟩, ?_, ?_⟩
          · show (rows.map rowD).length < sizeLine
            rw [List.length_map]; have := big; simp only [List.length_cons] at h8; omega
          · have := ih (rows ++ [r2]) o6 t5 (.val (.int st)) (.val (.int b6)) (.val (.lst (numsD r2))) t9 g1 (fun r hr' => (List.mem_append.mp hr').elim (hr r) fun h => by rw [List.mem_singleton.mp h]; exact hr2) (by simp only [List.length_append, List.length_cons, List.length_nil]; omega) (by simp only [List.length_append, List.length_cons, List.length_nil] at h8 ⊢; omega)
            simp only [List.map_append, List.map_cons, List.map_nil] at this
            exact this
    have hlen : (rgD 0 n).length = n := by unfold rgD; simp
    exact loop (rgD 0 n) [] o3 .un .un .un .un .un h3 (fun _ h => nomatch h) (by rw [hlen]; simp; omega) (by rw [hlen]; simp; omega)
end
end K04
set_option Elab.async false
set_option autoImplicit false
set_option linter.all false
set_option maxRecDepth 100000
set_option maxHeartbeats 3900000
namespace K04
open DL L2 PyProof.Rows PySem PySem.Spec
section
variable {K : Fg} {C : Cs}
theorem at_int {ns : List Int} {i : Int} (h0 : 0 ≤ i) (h1 : i < (ns.length : Int)) : ∃ n, atI ns i = some n := by
  have hlt : i.toNat < ns.length := by omega
  refine ⟨ns[i.toNat], ?_⟩
  unfold atI ixN
  rw [if_pos h0, if_pos h1]
  simp [hlt]
theorem at2 (x y : D) (b : Bool) : atI [x, y] (if b = true then 1 else 0) = some (if b = true then y else x) := by cases b <;> simp [atI, ixN]
abbrev roE (Ψ : OD → Prop) : DE := { nx := fun _ => False, rt := fun _ _ => False, bk := fun _ => False, ct := fun _ => False, xc := χ0, ro := fun _ od _ => Ψ od }
theorem m_law_box : ∀ ds Ψ, ds.length = 2 → so_law_box C ds Ψ → x_law_box K C (args none ds ++ List.replicate (3 - 2) .un) (roE Ψ) := by
  rintro ds Ψ - ⟨ns, k, rfl, hk0, hk1, hn, q⟩
  have fin : ∀ v : Int, wRetO (woLst (wCons (wOp wIx (wLst (wCons (wC (.int 0)) (wCons (wVar 2) wNil))) (wCB wInt (wCons (wOp wGe (wVar 2) (wOp wPow (wC (.int 10)) (wC (.int 18)))) wNil))) (wCons (wOp wAdd (wOp wMod (wCB wInt (wCons (wOp wAdd (wOp wMul (wOp wMod (wCB wInt (wCons (wVar 2) wNil)) (wC (.int 2147483477))) (wC (.int 36551))) (wOp wMul (wC (.int 31013)) (wVar 1))) wNil)) (wC (.int 2147483477))) (wC (.int 1))) (wCons (wC (.int 0)) wNil))))
      [.val (.scr ns), .val (.int k), .val (.int v)] (roE Ψ) := by
    intro v
    refine ⟨by show 2 ≤ sizeLine; decide, ⟨by decide, by decide, by decide⟩, _, at2 _ _ _, by decide, .inr ⟨by decide, by decide⟩, .inl ⟨by decide, by decide⟩, by decide, by show 3 ≤ sizeLine; decide, fun l => q _ ?_⟩
    cases hb : decide ((10 : Int) ^ (18 : Int).toNat ≤ v)
    · exact ⟨0, (v % 2147483477 * 36551 + 31013 * k) % 2147483477 + 1, 0, Int.le_refl _, congrArg (fun z => OD.l [z, .int ((v % 2147483477 * 36551 + 31013 * k) % 2147483477 + 1), .int 0]) (show (if decide ((10 : Int) ^ (18 : Int).toNat ≤ v) = true then D.int v else D.int 0) = D.int 0 by rw [hb]; rfl)⟩
    · have h1 := of_decide_eq_true hb
      have h2 : (0 : Int) ≤ (10 : Int) ^ (18 : Int).toNat := by decide
      exact ⟨v, (v % 2147483477 * 36551 + 31013 * k) % 2147483477 + 1, 0, by omega, congrArg (fun z => OD.l [z, .int ((v % 2147483477 * 36551 + 31013 * k) % 2147483477 + 1), .int 0]) (show (if decide ((10 : Int) ^ (18 : Int).toNat ≤ v) = true then D.int v else D.int 0) = D.int v by rw [hb]; rfl)⟩
  refine ⟨.inl ⟨by decide, by decide⟩, ?_⟩
  show if decide (k < (ns.length : Int)) = true then _ else _
  by_cases h1 : k < (ns.length : Int)
  · rw [if_pos (decide_eq_true h1)]
    obtain ⟨n, hn⟩ := at_int hk0 h1
    exact ⟨n, hn, fin _⟩
  · rw [if_neg (by rw [decide_eq_false h1]; exact Bool.false_ne_true)]
    show if decide ((0 : Int) < (ns.length : Int)) = true then _ else _
    by_cases h2 : (0 : Int) < (ns.length : Int)
    · rw [if_pos (decide_eq_true h2)]
      obtain ⟨n, hn⟩ := at_int (ns := ns) (i := k % (ns.length : Int)) (Int.emod_nonneg _ (by omega)) (Int.emod_lt_of_pos _ h2)
      exact ⟨h2, n, hn, by decide, .inr ⟨by decide, by decide⟩, fin _⟩
    · rw [if_neg (by rw [decide_eq_false h2]; exact Bool.false_ne_true)]
      exact fin _
/-- the caught error, told -/
theorem m_law_reads (hx : exmD K C.BadText (.ref C.BadText) = some true) (hE : ExcC K C.BadText) (hk : PySem.W.kitOne K (.ref C.BadText) (.ref C.AgeError) = some true) : Sem0 1 2 (sp_law_reads C) (x_law_reads K C) := by
  rintro hl ds Ψ Ξ - ⟨h, x, rfl, hp, hs, q⟩
  cases none_of h
  refine ⟨rfl, rfl, rfl, x, rfl, hp, hs, ?_⟩
  cases hr : readM x with
  | ok t => rw [hr] at q; exact q
  | error i =>
    rw [hr] at q
    refine ⟨true, hx, fun _ a dd => ?_, fun z => by cases z⟩
    refine ⟨rfl, rfl, rfl, rfl, ⟨rfl, rfl, C.BadText, .ref C.AgeError, true, rfl, .own _, hE, hk, by show 3 ≤ sizeLine; decide, q⟩⟩
theorem m_law_reads_log (hx : exmD K C.BadText (.ref C.BadText) = some true) (hE : ExcC K C.BadText) (hk : PySem.W.kitOne K (.ref C.BadText) (.ref C.AgeError) = some true) : Sem0 2 3 (sp_law_reads_log C) (x_law_reads_log K C) := by
  rintro hl ds Ψ Ξ - ⟨h, t, x, ht, rfl, hp, hs, q⟩
  cases none_of h
  refine ⟨rfl, rfl, rfl, t, x, ht, rfl, hp, hs, ?_⟩
  cases hr : readL t.length x with
  | ok t => rw [hr] at q; exact q
  | error i =>
    rw [hr] at q
    refine ⟨true, hx, fun _ a dd => ?_, fun z => by cases z⟩
    refine ⟨rfl, rfl, rfl, rfl, ⟨rfl, rfl, C.BadText, .ref C.AgeError, true, rfl, .own _, hE, hk, by show 3 ≤ sizeLine; decide, q⟩⟩
end
end K04
set_option Elab.async false
set_option autoImplicit false
set_option linter.all false
set_option maxRecDepth 100000
set_option maxHeartbeats 3900000
namespace K04
open DL L2 PyProof.Rows PySem PySem.Spec
/-! ### words -/
def Has (c : Nat) (s : Str) : Prop := c ∈ TL.tl s
theorem sp_split {ws : List Str} (hne : ws ≠ []) (h : ∀ w ∈ ws, 32 ∉ TL.tl w) : Txt.split (Txt.join " " ws) " " = ws := TL.split_join (s := 32) (S := []) (by decide +kernel) (by decide +kernel) hne h
theorem nl_split {ws : List Str} (hne : ws ≠ []) (h : ∀ w ∈ ws, 10 ∉ TL.tl w) : Txt.split (Txt.join "\n" ws) "\n" = ws := TL.split_join (s := 10) (S := []) (by decide +kernel) (by decide +kernel) hne h
theorem tl_jn (y : Str) : ∀ ws : List Str, TL.tl (Txt.join y ws) = TL.joinL (TL.tl y) (ws.map TL.tl) := fun ws => by rw [TL.join_eq]; exact TL.tl_join y ws
theorem joinL_snoc (y : List Nat) : ∀ {ws : List (List Nat)} (w : List Nat), ws ≠ [] → TL.joinL y (ws ++ [w]) = TL.joinL y ws ++ (y ++ w)
  | [], _, h => absurd rfl h
  | [a], w, _ => rfl
  | a :: b :: r, w, _ => by
    show a ++ (y ++ TL.joinL y (b :: r ++ [w])) = (a ++ (y ++ TL.joinL y (b :: r))) ++ (y ++ w)
    rw [joinL_snoc y w (by simp)]
    simp only [List.append_assoc]
theorem join_snoc (y : Str) {ws : List Str} (w : Str) (h : ws ≠ []) : Txt.join y (ws ++ [w]) = Txt.join y ws ++ y ++ w := by
  refine TL.ext_tl ?_
  rw [tl_jn, List.map_append, List.map_cons, List.map_nil, joinL_snoc _ _ (by simpa using h), TL.tl_append, TL.tl_append, tl_jn, List.append_assoc]
theorem joinL_last (y : List Nat) (z : List Nat) : ∀ (ws : List (List Nat)) (w : List Nat), TL.joinL y (ws ++ [w]) ++ z = TL.joinL y (ws ++ [w ++ z])
  | [], w => rfl
  | a :: r, w => by
    cases hr : r ++ [w] with
    | nil => simp at hr
    | cons b t =>
      have e2 : r ++ [w ++ z] ≠ [] := by simp
      cases hq : r ++ [w ++ z] with
      | nil => exact absurd hq e2
      | cons b' t' =>
        rw [List.cons_append, List.cons_append, hr, hq]
        show a ++ (y ++ TL.joinL y (b :: t)) ++ z = a ++ (y ++ TL.joinL y (b' :: t'))
        rw [← hr, ← hq, ← joinL_last y z r w]
        simp only [List.append_assoc]
theorem join_last (y : Str) (ws : List Str) (w z : Str) : Txt.join y (ws ++ [w]) ++ z = Txt.join y (ws ++ [w ++ z]) := by
  refine TL.ext_tl ?_
  rw [TL.tl_append, tl_jn, tl_jn, List.map_append, List.map_append, List.map_cons, List.map_cons, List.map_nil, joinL_last, TL.tl_append]
theorem join_cons (y : Str) (w : Str) {ws : List Str} (h : ws ≠ []) : Txt.join y (w :: ws) = w ++ y ++ Txt.join y ws := by
  refine TL.ext_tl ?_
  cases ws with
  | nil => exact absurd rfl h
  | cons v vs =>
    rw [tl_jn, TL.tl_append, TL.tl_append, tl_jn, List.map_cons, List.map_cons, List.append_assoc]
    rfl
/-- a text that ends in a blank has an empty last word -/
theorem spl_end : ∀ (l acc : List Nat), TL.spl [32] 0 acc (l ++ [32]) = TL.spl [32] 0 acc l ++ [[]]
  | [], acc => by
    rw [List.nil_append, TL.spl_hit (by decide), TL.spl_nil, TL.spl_nil]
    rfl
  | c :: r, acc => by
    rw [List.cons_append]
    by_cases h : c = 32
    · subst h
      rw [TL.spl_hit (by simp [TL.pre]), TL.spl_hit (by simp [TL.pre])]
      show acc :: TL.spl [32] 0 [] (r ++ [32]) = acc :: TL.spl [32] 0 [] r ++ [[]]
      rw [spl_end r []]
      rfl
    · rw [TL.spl_miss (by simp [TL.pre, h]), TL.spl_miss (by simp [TL.pre, h]), spl_end r]
theorem split_end (x : Str) : Txt.split (x ++ " ") " " = Txt.split x " " ++ [("" : Str)] := by
  refine TL.map_tl_inj ?_
  have hy : TL.tl (" " : Str) = [32] := by decide +kernel
  rw [TL.split_spl _ _ (by rw [hy]; simp) (TL.kind_ok (by decide +kernel)), List.map_append, TL.split_spl _ _ (by rw [hy]; simp) (TL.kind_ok (by decide +kernel)), TL.tl_append, hy, spl_end]
  rfl
/-- words that are no numbers -/
def Bad (w : Str) : Prop := ∀ n, n < 13 → dig n ≠ w
theorem bad_num {w : Str} (h : Bad w) {m : Nat} (hm : m ≤ 13) : numW m w = none := by
  unfold numW
  rw [List.find?_eq_none]
  intro n hn
  have := List.mem_range.mp hn
  simpa using h n (by omega)
theorem bads : Bad "" ∧ Bad "13" ∧ Bad "-1" ∧ Bad "X" ∧ Bad "?" ∧ Bad "-" ∧ Bad "x" ∧ Bad "00" ∧ Bad "1?" ∧ Bad "a" := by
  unfold Bad; decide +kernel
theorem bad_q : ∀ k, k < 13 → Bad (dig k ++ "?") ∧ Bad ("0" ++ dig k) := by unfold Bad; decide +kernel
theorem numW_dig {m n : Nat} (h : n < m) (hm : m ≤ 100) : numW m (dig n) = some n := by
  unfold numW
  cases hf : (List.range m).find? fun k => decide (dig k = dig n) with
  | none =>
    rw [List.find?_eq_none] at hf
    exact absurd (hf n (List.mem_range.mpr h)) (by simp)
  | some k =>
    have h1 := List.mem_range.mp (List.mem_of_find?_eq_some hf)
    have h2 : dig k = dig n := by simpa using List.find?_some hf
    rw [dig_ne k (by omega) n (by omega) h2]
theorem numsW_dig {m : Nat} (hm : m ≤ 100) : ∀ r : List Nat, (∀ n ∈ r, n < m) → numsW m (r.map dig) = some r
  | [], _ => rfl
  | n :: r, h => by
    rw [List.map_cons]
    unfold numsW
    rw [numW_dig (h n List.mem_cons_self) hm, numsW_dig hm r fun k hk => h k (List.mem_cons_of_mem _ hk)]
theorem numsW_bad {m : Nat} {w : Str} (hm : m ≤ 13) (hb : Bad w) : ∀ ws : List Str, w ∈ ws → numsW m ws = none
  | [], h => nomatch h
  | v :: vs, h => by
    unfold numsW
    (rcases List.mem_cons.mp h with rfl | h)
    · rw [bad_num hb hm]
    · rw [numsW_bad hm hb vs h]
      cases numW m v <;> rfl
theorem numT_split {r : List Nat} (hne : r ≠ []) (h : ∀ n ∈ r, n < 100) : Txt.split (numT r) " " = r.map dig := sp_split (by simpa using hne) fun w hw => by
  obtain ⟨n, hn, rfl⟩ := List.mem_map.mp hw
  exact (dig_sp n (h n hn)).1
theorem toldT_row {r : List Nat} {m : Nat} (hr : r.length = m) (h1 : 1 ≤ m) (hm : m ≤ 12) (h : ∀ n ∈ r, n < m) : toldT m (numT r) = some r := by
  unfold toldT
  rw [numT_split (fun z => by rw [z] at hr; simp at hr; omega) fun n hn => by have := h n hn; omega, List.length_map, if_pos hr]
  exact numsW_dig (by omega) r h
theorem head_split {n : Nat} (h : n < 100) : Txt.split ("states " ++ dig n) " " = [("states" : Str), dig n] := by
  have e : ("states " : Str) ++ dig n = Txt.join " " [("states" : Str), dig n] := by
    rw [join_cons " " "states" (by simp)]
    have : ("states " : Str) = ("states" : Str) ++ " " := by decide
    rw [this]; rfl
  rw [e]
  refine sp_split (by simp) fun w hw => ?_
  rcases List.mem_cons.mp hw with rfl | hw
  · decide
  · rw [List.mem_singleton.mp hw]; exact (dig_sp n h).1
theorem toldS_head {n : Nat} (h1 : 1 ≤ n) (h2 : n ≤ 12) : toldS ("states " ++ dig n) = some n := by
  unfold toldS
  rw [head_split (by omega)]
  simp only [↓reduceIte]
  rw [numW_dig (by omega) (by omega)]
  simp only
  rw [if_neg (by omega)]
theorem last_T {m : Nat} {s w : Str} {us : List Str} (hm : m ≤ 13) (hb : Bad w) (h : Txt.split s " " = us ++ [w]) : toldT m s = none := by
  unfold toldT
  split
  · rw [h]; exact numsW_bad hm hb _ (by simp)
  · rfl
theorem last_S {s w : Str} {us : List Str} (hb : Bad w) (h : Txt.split s " " = us ++ [w]) : toldS s = none := by
  unfold toldS
  rw [h]
  match us with
  | [] => rfl
  | [a] =>
    show (if a = "states" then (match numW 13 w with | some n => if n = 0 then none else some n | none => none) else none) = none
    rw [bad_num hb (by omega)]
    split <;> rfl
  | a :: b :: r => cases r <;> rfl
theorem len_T {m : Nat} {s : Str} (h : (Txt.split s " ").length ≠ m) : toldT m s = none := if_neg h
theorem len_S {s : Str} (h : (Txt.split s " ").length ≠ 2) : toldS s = none := by
  unfold toldS
  split
  · rename_i e; rw [e] at h; simp at h
  · rfl
end K04
set_option Elab.async false
set_option autoImplicit false
set_option linter.all false
set_option maxRecDepth 100000
set_option maxHeartbeats 3900000
namespace K04
open DL L2 PyProof.Rows PySem PySem.Spec
def headL (t : Tb) : Str := "states " ++ dig (t.headD []).length
def linesL (t : Tb) : List Str := headL t :: t.map numT
theorem machT_lines (t : Tb) : machT t = Txt.join "\n" (linesL t) := rfl
/-- a text of ASCII signs, none a line feed, not long -/
structure Ln (s : Str) : Prop where
  nl : 10 ∉ TL.tl s
  asc : ∀ c ∈ TL.tl s, c < 128
  len : s.length ≤ 100
theorem mem_joinL {y : List Nat} {c : Nat} : ∀ {ws : List (List Nat)}, c ∈ TL.joinL y ws → c ∈ y ∨ ∃ w ∈ ws, c ∈ w
  | [], h => nomatch h
  | [w], h => .inr ⟨w, by simp, h⟩
  | w :: v :: r, h => by
    have h : c ∈ w ++ (y ++ TL.joinL y (v :: r)) := h
    (rcases List.mem_append.mp h with h | h)
    · exact .inr ⟨w, by simp, h⟩
    · (rcases List.mem_append.mp h with h | h)
      · exact .inl h
      · rcases mem_joinL h with h | ⟨u, hu, hc⟩
        · exact .inl h
        · exact .inr ⟨u, List.mem_cons_of_mem _ hu, hc⟩
theorem mem_jn {y : Str} {ws : List Str} {c : Nat} (h : c ∈ TL.tl (Txt.join y ws)) : c ∈ TL.tl y ∨ ∃ w ∈ ws, c ∈ TL.tl w := by
  rw [tl_jn] at h
  rcases mem_joinL h with h | ⟨w, hw, hc⟩
  · exact .inl h
  · obtain ⟨v, hv, rfl⟩ := List.mem_map.mp hw
    exact .inr ⟨v, hv, hc⟩
theorem dig_asc : ∀ n, n < 100 → ∀ c ∈ TL.tl (dig n), c < 128 := by decide +kernel
theorem Ln.join {ws : List Str} {y : Str} (hy : 10 ∉ TL.tl y ∧ (∀ c ∈ TL.tl y, c < 128)) (h : ∀ w ∈ ws, 10 ∉ TL.tl w ∧ ∀ c ∈ TL.tl w, c < 128) (hl : (Txt.join y ws).length ≤ 100) : Ln (Txt.join y ws) :=
  ⟨fun hc => (mem_jn hc).elim hy.1 fun ⟨w, hw, hc⟩ => (h w hw).1 hc, fun c hc => (mem_jn hc).elim (hy.2 c) fun ⟨w, hw, hc⟩ => (h w hw).2 c hc, hl⟩
theorem sp_ok : 10 ∉ TL.tl (" " : Str) ∧ ∀ c ∈ TL.tl (" " : Str), c < 128 := by decide +kernel
theorem dig_ok {n : Nat} (h : n < 100) : 10 ∉ TL.tl (dig n) ∧ ∀ c ∈ TL.tl (dig n), c < 128 := ⟨(dig_sp n h).2, dig_asc n h⟩
theorem Ln.num {r : List Nat} (h : ∀ n ∈ r, n < 100) (hl : r.length ≤ 12) : Ln (numT r) := by
  refine Ln.join sp_ok (fun w hw => ?_) ?_
  · obtain ⟨n, hn, rfl⟩ := List.mem_map.mp hw
    exact dig_ok (h n hn)
  · have : (numT r).length ≤ r.length * 3 := numT_len h
    exact Nat.le_trans this (by omega)
theorem app_len (a b : Str) : (a ++ b).length = a.length + b.length := Array.size_append
theorem Ln.app {a b : Str} (ha : Ln a) (hb : 10 ∉ TL.tl b ∧ ∀ c ∈ TL.tl b, c < 128) (hl : (a ++ b).length ≤ 100) : Ln (a ++ b) := by
  have e := TL.tl_append a b
  refine ⟨fun hc => ?_, fun c hc => ?_, hl⟩
  · rw [e] at hc; exact (List.mem_append.mp hc).elim ha.nl hb.1
  · rw [e] at hc; exact (List.mem_append.mp hc).elim (ha.asc c) (hb.2 c)
theorem st_ok : 10 ∉ TL.tl ("states " : Str) ∧ ∀ c ∈ TL.tl ("states " : Str), c < 128 := by decide +kernel
theorem Ln.head {t : Tb} (g : Good t) : Ln (headL t) := by
  have h := g.head
  have d := dig_len (t.headD []).length (by omega)
  exact Ln.app ⟨st_ok.1, st_ok.2, by decide⟩ (dig_ok (by omega)) (by
    have h7 : ("states " : Str).length = 7 := by decide
    rw [app_len, h7]; omega)
theorem Ln.lines {t : Tb} (g : Good t) : ∀ l ∈ linesL t, Ln l := fun l hl => by
  rcases List.mem_cons.mp hl with rfl | h
  · exact Ln.head g
  · obtain ⟨r, hr, rfl⟩ := List.mem_map.mp h
    exact Ln.num (g.lt r hr) (g.row r hr).2.1
/-! reading lines -/
theorem readT_join {l : Str} {ls : List Str} (h : ∀ w ∈ l :: ls, 10 ∉ TL.tl w) : readT (Txt.join "\n" (l :: ls)) = (match toldS l with | none => .error 1 | some m => if ls = [] then .error 2 else readRows m ls 0) := by
  unfold readT
  rw [nl_split (by simp) h]
  all_goals rfl
theorem rows_ok {m : Nat} (h1 : 1 ≤ m) (h2 : m ≤ 12) : ∀ (t : Tb) (i : Nat), (∀ r ∈ t, RowOk m r) → i + t.length ≤ 8 → readRows m (t.map numT) i = .ok t
  | [], _, _, _ => rfl
  | r :: t, i, hr, hl => by
    obtain ⟨a, b⟩ := hr r List.mem_cons_self
    simp only [List.length_cons] at hl
    rw [List.map_cons]
    unfold readRows
    rw [toldT_row a h1 h2 b, rows_ok h1 h2 t (i + 1) (fun q hq => hr q (List.mem_cons_of_mem _ hq)) (by omega)]
    simp only
    rw [if_neg (by omega)]
theorem rows_bad {m : Nat} {bad : Str} {rest : List Str} (h1 : 1 ≤ m) (h2 : m ≤ 12) (hb : toldT m bad = none) : ∀ (t : Tb) (i : Nat), (∀ r ∈ t, RowOk m r) → i + t.length ≤ 8 → readRows m (t.map numT ++ bad :: rest) i = .error (i + t.length + 2 : Nat)
  | [], i, _, _ => by
    show readRows m (bad :: rest) i = _
    unfold readRows
    rw [hb]
    rfl
  | r :: t, i, hr, hl => by
    obtain ⟨a, b⟩ := hr r List.mem_cons_self
    simp only [List.length_cons] at hl
    rw [List.map_cons, List.cons_append]
    unfold readRows
    rw [toldT_row a h1 h2 b, rows_bad h1 h2 hb t (i + 1) (fun q hq => hr q (List.mem_cons_of_mem _ hq)) (by omega)]
    simp only
    rw [if_neg (by omega), List.length_cons]
    have : i + 1 + t.length + 2 = i + (t.length + 1) + 2 := by omega
    rw [this]
theorem rows_nine {m : Nat} {r : List Nat} (h1 : 1 ≤ m) (h2 : m ≤ 12) (hr0 : RowOk m r) : ∀ (t : Tb) (i : Nat), (∀ r ∈ t, RowOk m r) → i + t.length = 8 → readRows m (t.map numT ++ [numT r]) i = .error 10
  | [], i, _, hl => by
    simp only [List.length_nil, Nat.add_zero] at hl
    subst hl
    show readRows m [numT r] 8 = _
    unfold readRows
    rw [toldT_row hr0.1 h1 h2 hr0.2]
    rfl
  | q :: t, i, hr, hl => by
    obtain ⟨a, b⟩ := hr q List.mem_cons_self
    simp only [List.length_cons] at hl
    rw [List.map_cons, List.cons_append]
    unfold readRows
    rw [toldT_row a h1 h2 b, rows_nine h1 h2 hr0 t (i + 1) (fun q hq => hr q (List.mem_cons_of_mem _ hq)) (by omega)]
    simp only
    rw [if_neg (by omega)]
theorem Good.rows {t : Tb} (g : Good t) : ∀ r ∈ t, RowOk (t.headD []).length r := fun r hr => by
  obtain ⟨a, b, c, d⟩ := g.row r hr
  exact ⟨c, fun n hn => by have := d n hn; omega⟩
theorem read_ok {t : Tb} (g : Good t) : readT (machT t) = .ok t := by
  have h := g.head
  rw [machT_lines]
  unfold linesL
  rw [readT_join fun w hw => (Ln.lines g w hw).nl]
  unfold headL
  rw [toldS_head h.1 h.2]
  simp only
  rw [if_neg (by simpa using g.ne), rows_ok h.1 h.2 t 0 g.rows (by have := g.le; omega)]
/-- a line that is bent, at its place -/
theorem read_bent {t : Tb} (g : Good t) {at_ : Nat} {s : Str} (hs : Ln s) (hat : at_ < (linesL t).length) (h0 : at_ = 0 → toldS s = none) (h1 : at_ ≠ 0 → toldT (t.headD []).length s = none) :
    readT (Txt.join "\n" ((linesL t).take at_ ++ [s] ++ (linesL t).drop (at_ + 1))) = .error (at_ + 1 : Nat) := by
  have h := g.head
  have hn : ∀ w ∈ (linesL t).take at_ ++ [s] ++ (linesL t).drop (at_ + 1), 10 ∉ TL.tl w := fun w hw => by
    rcases List.mem_append.mp hw with hw | hw
    · rcases List.mem_append.mp hw with hw | hw
      · exact (Ln.lines g w (List.mem_of_mem_take hw)).nl
      · rw [List.mem_singleton.mp hw]; exact hs.nl
    · exact (Ln.lines g w (List.mem_of_mem_drop hw)).nl
  cases at_ with
  | zero =>
    simp only [List.take_zero, List.nil_append, List.cons_append] at hn ⊢
    rw [readT_join hn, h0 rfl]
    rfl
  | succ k =>
    have e : (linesL t).take (k + 1) ++ [s] ++ (linesL t).drop (k + 1 + 1) = headL t :: ((t.take k).map numT ++ s :: (t.map numT).drop (k + 1)) := by
      unfold linesL
      simp [List.map_take]
    rw [e] at hn ⊢
    rw [readT_join hn]
    have hh : toldS (headL t) = some (t.headD []).length := toldS_head h.1 h.2
    rw [hh]
    simp only
    have hk : k < t.length := by unfold linesL at hat; simp at hat; omega
    rw [if_neg (by simp), rows_bad h.1 h.2 (h1 (by omega)) (t.take k) 0 (fun r hr => g.rows r (List.mem_of_mem_take hr)) (by rw [List.length_take]; have := g.le; omega), List.length_take]
    have : 0 + min k t.length + 2 = k + 1 + 1 := by omega
    rw [this]
end K04
set_option Elab.async false
set_option autoImplicit false
set_option linter.all false
set_option maxRecDepth 100000
set_option maxHeartbeats 3900000
namespace K04
open DL L2 PyProof.Rows PySem PySem.Spec
/-- what a bent line is: neither a head nor a row -/
structure Bt (m ul : Nat) (d : Str) : Prop where
  ln : Ln d
  hd : ul = 1 → toldS d = none
  rw_ : ul + 1 = m → toldT m d = none
/-- a line by its words: the last one is a number -/
structure Lw (m : Nat) (us : List Str) (k : Nat) (line : Str) : Prop where
  k13 : k < 13
  eq : line = Txt.join " " (us ++ [dig k])
  ok : ∀ w ∈ us, 32 ∉ TL.tl w ∧ 10 ∉ TL.tl w ∧ ∀ c ∈ TL.tl w, c < 128
  len : line.length ≤ 50
  m12 : m ≤ 12
theorem Bt.last {m ul : Nat} {d w : Str} {us : List Str} (hm : m ≤ 12) (h : Ln d) (hb : Bad w) (e : Txt.split d " " = us ++ [w]) : Bt m ul d := ⟨h, fun _ => last_S hb e, fun _ => last_T (by omega) hb e⟩
theorem Bt.long {m ul : Nat} {d : Str} (h : Ln d) (e : (Txt.split d " ").length = ul + 2) : Bt m ul d := ⟨h, fun z => len_S (by omega), fun z => len_T (by omega)⟩
section
variable {m k : Nat} {us : List Str} {line : Str}
theorem Lw.ws (h : Lw m us k line) : ∀ w ∈ us ++ [dig k], 32 ∉ TL.tl w ∧ 10 ∉ TL.tl w ∧ ∀ c ∈ TL.tl w, c < 128 := fun w hw => by
  rcases List.mem_append.mp hw with hw | hw
  · exact h.ok w hw
  · rw [List.mem_singleton.mp hw]
    have := h.k13
    exact ⟨(dig_sp k (by omega)).1, dig_ok (by omega)⟩
theorem Lw.split (h : Lw m us k line) : Txt.split line " " = us ++ [dig k] := by rw [h.eq]; exact sp_split (by simp) fun w hw => (h.ws w hw).1
theorem Lw.ln (h : Lw m us k line) : Ln line := by
  have e := h.eq
  have l := h.len
  rw [e] at l ⊢
  exact Ln.join sp_ok (fun w hw => (h.ws w hw).2) (by omega)
theorem one_len : (" " : Str).length = 1 := by decide
theorem Lw.b1 (h : Lw m us k line) {ul : Nat} : Bt m ul (line ++ " ") := Bt.last h.m12 (h.ln.app sp_ok (by rw [app_len, one_len]; have := h.len; omega)) bads.1 (us := us ++ [dig k]) (by rw [split_end, h.split])
theorem Lw.b2 (h : Lw m us k line) : Bt m us.length (" " ++ line) := by
  have e : " " ++ line = Txt.join " " (("" : Str) :: (us ++ [dig k])) := by
    rw [join_cons " " "" (by simp), ← h.eq]
    rfl
  have l := h.len
  refine Bt.long ?_ ?_
  · have l1 : ((" " : Str) ++ line).length ≤ 100 := by rw [app_len, one_len]; omega
    rw [e] at l1 ⊢
    refine Ln.join sp_ok (fun w hw => ?_) l1
    rcases List.mem_cons.mp hw with rfl | hw
    · decide +kernel
    · exact (h.ws w hw).2
  · rw [e, sp_split (by simp) fun w hw => ?_]
    · simp
    · rcases List.mem_cons.mp hw with rfl | hw
      · decide +kernel
      · exact (h.ws w hw).1
theorem b3 {ul : Nat} (hm : m ≤ 12) : Bt m ul "" := Bt.last hm ⟨by decide, by decide, by decide⟩ bads.1 (us := []) (by decide +kernel)
theorem Lw.b4 (h : Lw m us k line) : Bt m us.length (line ++ " 0") := by
  have e : line ++ " 0" = Txt.join " " ((us ++ [dig k]) ++ [("0" : Str)]) := by
    rw [join_snoc " " "0" (by simp), ← h.eq]
    refine TL.ext_tl ?_
    rw [TL.tl_append, TL.tl_append, TL.tl_append, List.append_assoc]
    congr 1
  have l := h.len
  have l2 : (" 0" : Str).length = 2 := by decide
  refine Bt.long (h.ln.app (by decide +kernel) (by rw [app_len, l2]; omega)) ?_
  rw [e, sp_split (by simp) fun w hw => ?_]
  · simp
  · rcases List.mem_append.mp hw with hw | hw
    · exact (h.ws w hw).1
    · rw [List.mem_singleton.mp hw]; decide +kernel
theorem cuts1 (s : Str) : (PySem.Builtin.Str.occurrences s " " 0 s.length (limitOf s 1)).length ≤ 1 := by
  have := StrLaws.occ_length_le s " " 0 s.length (limitOf s 1)
  have e : limitOf s 1 = 1 := rfl
  omega
theorem rep_ln (h : Ln line) (hl : line.length ≤ 50) : Ln (repN line " " "  " 1) ∧ (repN line " " "  " 1).length ≤ 52 := by
  have l := repN_len line " " "  " 1
  have c := cuts1 line
  have l2 : ("  " : Str).length = 2 := by decide
  rw [l2] at l
  refine ⟨⟨fun hc => ?_, fun c hc => ?_, by omega⟩, by omega⟩
  · rcases repN_mem (by simpa [TL.tl] using hc) with h1 | h1
    · exact h.nl (by simpa [TL.tl] using h1)
    · exact (by decide +kernel : 10 ∉ TL.tl ("  " : Str)) (by simpa [TL.tl] using h1)
  · rcases repN_mem (by simpa [TL.tl] using hc) with h1 | h1
    · exact h.asc c (by simpa [TL.tl] using h1)
    · exact (by decide +kernel : ∀ c ∈ TL.tl ("  " : Str), c < 128) c (by simpa [TL.tl] using h1)
theorem Lw.b5 (h : Lw m us k line) {ul : Nat} : Bt m ul (repN line " " "  " 1 ++ " ") := by
  obtain ⟨a, b⟩ := rep_ln h.ln h.len
  exact Bt.last h.m12 (a.app sp_ok (by rw [app_len, one_len]; omega)) bads.1 (split_end _)
theorem Lw.b6 (h : Lw m us k line) {ul : Nat} : Bt m ul (line ++ "?") := by
  have l := h.len
  have l2 : ("?" : Str).length = 1 := by decide
  refine Bt.last h.m12 (h.ln.app (by decide +kernel) (by rw [app_len, l2]; omega)) (bad_q k h.k13).1 (us := us) ?_
  rw [h.eq, join_last]
  refine sp_split (by simp) fun w hw => ?_
  rcases List.mem_append.mp hw with hw | hw
  · exact (h.ok w hw).1
  · rw [List.mem_singleton.mp hw, TL.tl_append]
    have := h.k13
    intro hc
    exact (List.mem_append.mp hc).elim (dig_sp k (by omega)).1 (by decide +kernel : 32 ∉ TL.tl ("?" : Str))
theorem Lw.b7 (h : Lw m us k line) {ul : Nat} {w : Str} (hb : Bad w) (hw : 32 ∉ TL.tl w ∧ 10 ∉ TL.tl w ∧ ∀ c ∈ TL.tl w, c < 128) (hl : w.length ≤ 4) : Bt m ul (Txt.join " " (us ++ [w])) := by
  have hall : ∀ v ∈ us ++ [w], 32 ∉ TL.tl v ∧ 10 ∉ TL.tl v ∧ ∀ c ∈ TL.tl v, c < 128 := fun v hv => (List.mem_append.mp hv).elim (h.ok v) fun z => by rw [List.mem_singleton.mp z]; exact hw
  refine Bt.last h.m12 (Ln.join sp_ok (fun v hv => (hall v hv).2) ?_) hb (us := us) (sp_split (by simp) fun v hv => (hall v hv).1)
  have e1 : (Txt.join " " (us ++ [dig k])).length ≤ 50 := by rw [← h.eq]; exact h.len
  have f1 : (Txt.join " " (us ++ [dig k])).length = ((us ++ [dig k]).map (·.length)).sum + ((us ++ [dig k]).length - 1) * (" " : Str).length := PySem.size_glued " " _
  have f2 : (Txt.join " " (us ++ [w])).length = ((us ++ [w]).map (·.length)).sum + ((us ++ [w]).length - 1) * (" " : Str).length := PySem.size_glued " " _
  rw [f1] at e1
  rw [f2]
  simp only [List.map_append, List.map_cons, List.map_nil, List.sum_append, List.sum_cons, List.sum_nil, List.length_append, List.length_cons, List.length_nil] at e1 ⊢
  omega
end
/-- the lines of a machine's text by their words -/
theorem row_Lw {m : Nat} {r : List Nat} (hr : RowOk m r) (h1 : 1 ≤ m) (h2 : m ≤ 12) : ∃ us k, Lw m us k (numT r) ∧ us.length + 1 = m := by
  have hne : r ≠ [] := fun z => by have := hr.1; rw [z] at this; simp at this; omega
  obtain ⟨i, k, e⟩ : ∃ i k, r = i ++ [k] := ⟨r.dropLast, r.getLast hne, (List.dropLast_concat_getLast hne).symm⟩
  subst e
  have hk : k < m := hr.2 k (by simp)
  have hl : (numT (i ++ [k])).length ≤ (i ++ [k]).length * 3 := numT_len fun n hn => by have := hr.2 n hn; omega
  have hm := hr.1
  refine ⟨i.map dig, k, ⟨by omega, ?_, fun w hw => ?_, by rw [hm] at hl; omega, h2⟩, ?_⟩
  · unfold numT; rw [List.map_append]; rfl
  · obtain ⟨n, hn, rfl⟩ := List.mem_map.mp hw
    have := hr.2 n (by simp [hn])
    exact ⟨(dig_sp n (by omega)).1, dig_ok (by omega)⟩
  · simp only [List.length_append, List.length_cons, List.length_nil] at hm; rw [List.length_map]; omega
theorem head_Lw {t : Tb} (g : Good t) : Lw (t.headD []).length ["states"] (t.headD []).length (headL t) := by
  have h := g.head
  have d := dig_len (t.headD []).length (by omega)
  refine ⟨by omega, ?_, fun w hw => ?_, ?_, h.2⟩
  · show ("states " : Str) ++ dig _ = Txt.join " " [("states" : Str), dig _]
    rw [join_cons " " "states" (by simp)]
    have : ("states " : Str) = ("states" : Str) ++ " " := by decide
    rw [this]; rfl
  · rw [List.mem_singleton.mp hw]; decide +kernel
  · have h7 : (headL t).length = 7 + (dig (t.headD []).length).length := by
      unfold headL
      rw [app_len]
      have : ("states " : Str).length = 7 := by decide
      rw [this]
    omega
end K04
set_option Elab.async false
set_option autoImplicit false
set_option linter.all false
set_option maxRecDepth 100000
set_option maxHeartbeats 3900000
namespace K04
open DL L2 PyProof.Rows PySem PySem.Spec
section
variable {K : Fg} {C : Cs}
theorem okS_ln {s : Str} (h : ∀ c ∈ TL.tl s, c < 128) (hl : s.length ≤ 1000000) : okS s := ⟨hl, fun c hc => by have := h c (by simpa [TL.tl] using hc); omega⟩
theorem reprChar_ok : ∀ q, q = 34 ∨ q = 39 → ∀ c, c < 128 → (Builtin.Str.reprChar q c).length ≤ 10 ∧ ∀ d ∈ Builtin.Str.reprChar q c, d < 128 := by
  rintro q (rfl | rfl)
  · decide +kernel
  · decide +kernel
theorem fold_len (q : Nat) (hq : q = 34 ∨ q = 39) : ∀ (l : List Nat) (acc : Array Nat), (∀ c ∈ l, c < 128) → (l.foldl (fun out c => out ++ (Builtin.Str.reprChar q c).toArray) acc).size ≤ acc.size + 10 * l.length
  | [], acc, _ => by simp
  | c :: l, acc, h => by
    have h1 := (reprChar_ok q hq c (h c List.mem_cons_self)).1
    have h2 := fold_len q hq l (acc ++ (Builtin.Str.reprChar q c).toArray) fun d hd => h d (List.mem_cons_of_mem _ hd)
    simp only [List.foldl_cons, List.length_cons] at h2 ⊢
    simp only [Array.size_append, List.size_toArray] at h2
    omega
theorem fold_mem (q : Nat) (hq : q = 34 ∨ q = 39) : ∀ (l : List Nat) (acc : Array Nat), (∀ c ∈ l, c < 128) → (∀ c ∈ acc, c < 128) → ∀ c ∈ l.foldl (fun out c => out ++ (Builtin.Str.reprChar q c).toArray) acc, c < 128
  | [], acc, _, h => h
  | c :: l, acc, h, ha => by
    have h1 := (reprChar_ok q hq c (h c List.mem_cons_self)).2
    refine fold_mem q hq l _ (fun d hd => h d (List.mem_cons_of_mem _ hd)) fun d hd => ?_
    rcases Array.mem_append.mp hd with hd | hd
    · exact ha d hd
    · exact h1 d (by simpa using hd)
theorem quote_is (x : Str) : reprQuote x = 34 ∨ reprQuote x = 39 := by
  unfold reprQuote
  split
  · exact .inl rfl
  · exact .inr rfl
theorem repr_ok {s : Str} (h : ∀ c ∈ TL.tl s, c < 128) (hl : s.length ≤ 1000) : okS (reprText s) := by
  have hq := quote_is s
  have e : reprText s = ⟨((TL.tl s).foldl (fun out c => out ++ (Builtin.Str.reprChar (reprQuote s) c).toArray) #[reprQuote s]).push (reprQuote s)⟩ := by
    unfold reprText TL.tl
    rw [Array.foldl_toList]
  have l1 := fold_len _ hq (TL.tl s) #[reprQuote s] h
  have m1 := fold_mem _ hq (TL.tl s) #[reprQuote s] h (fun c hc => by
    have : c = reprQuote s := by simpa using hc
    rw [this]; rcases hq with z | z <;> omega)
  rw [e]
  refine ⟨?_, fun c hc => ?_⟩
  · show Array.size _ ≤ _
    rw [Array.size_push]
    have hl' : (TL.tl s).length = s.length := (TL.len_tl s).symm
    simp only [List.size_toArray, List.length_cons, List.length_nil] at l1
    omega
  · have hc : c ∈ ((TL.tl s).foldl (fun out c => out ++ (Builtin.Str.reprChar (reprQuote s) c).toArray) #[reprQuote s]).push (reprQuote s) := hc
    rcases Array.mem_push.mp hc with hc | hc
    · have := m1 c hc; omega
    · rw [hc]; rcases hq with z | z <;> omega
theorem w_repr {s : Str} (h : okS (reprText s)) {Φ : D → Prop} (q : Φ (.str (reprText s))) : wRepr [.str s] Φ := ⟨.str s, .str s, rfl, rfl, rfl, by simp [PyData.depth], Nat.le_trans h.1 big, q⟩
end
end K04
set_option Elab.async false
set_option autoImplicit false
set_option linter.all false
set_option maxRecDepth 100000
set_option maxHeartbeats 3900000
namespace K04
open DL L2 PyProof.Rows PySem PySem.Spec
section
variable {K : Fg} {C : Cs}
theorem Good.ex {t : Tb} (g : Good t) : ∃ r ts, t = r :: ts := by
  cases t with
  | nil => exact absurd rfl g.ne
  | cons r ts => exact ⟨r, ts, rfl⟩
theorem at_tb {t : Tb} (g : Good t) : atI (t.map rowD) 0 = some (rowD (t.headD [])) := by
  obtain ⟨r, ts, rfl⟩ := g.ex
  simp [atI, ixN]
theorem wlen_row (r : List Nat) {Φ : D → Prop} (q : Φ (.int (r.length : Nat))) : wLen [rowD r] Φ := by
  show Φ (.int (((r.map fun n => D.int (n : Nat)).length : Nat) : Int))
  rw [List.length_map]; exact q
theorem lines_len (t : Tb) : (linesL t).length = t.length + 1 := by simp [linesL]
/-- the lines of a text, told by the law's own words -/
theorem own_lines {t : Tb} (g : Good t) {a0 a2 : Sl} {rest : Rho} {χ : XC} {Φ : D → Rho → Prop} (h10 : rest.length = 9)
    (q : ∀ ρ', (∃ s9 s10 : Sl, ρ' = [a0, .val (tbsD t), a2, .val (.int ((t.headD []).length : Nat)), .un, .un, .un, .un, .un, .un, s9, s10, .un, .un]) → Φ (.lst ((linesL t).map D.str)) ρ') :
    (wOp wAdd (wLst (wCons (wOp wAdd (wC (.str "states ")) (wCB wStr (wCons (wVar 3) wNil))) wNil)) (wLc (wiSeq (wVar 1)) (wgName 10) wTrue (wM1 wJoin (wC (.str " ")) (wLc (wiSeq (wVar 10)) (wgName 11) wTrue (wCB wStr (wCons (wVar 11) wNil)) [11])) [10]))
      [a0, .val (tbsD t), a2, .val (.int ((t.headD []).length : Nat)), .un, .un, .un, .un, .un, .un, .un, .un, .un, .un] χ Φ := by
  have hd := g.head
  have hb := big
  simp only [wOp, wLst, wCons, wNil, wC, wCB, wVar, List.getElem?_cons_zero, List.getElem?_cons_succ]
  refine wstr (by omega) ⟨?_, by show 1 ≤ sizeLine; omega, ?_⟩
  · have := (Ln.head g).len
    unfold headL at this
    rw [app_len] at this
    omega
  show wLcL _ _ _ _ (t.map rowD) [] [a0, .val (tbsD t), a2, .val (.int ((t.headD []).length : Nat)), .un, .un, .un, .un, .un, .un, .un, .un, .un, .un] _
  refine lc_map (R := fun ρ => ∃ s11 : Sl, ρ = [a0, .val (tbsD t), a2, .val (.int ((t.headD []).length : Nat)), .un, .un, .un, .un, .un, .un, .un, s11, .un, .un])
    (fun d => .str (Txt.join " " (((seqD d).getD []).map fun x => match x with | .int i => ((toString i : String) : Str) | _ => ""))) (t.map rowD) _ ⟨.un, rfl⟩ (by rw [List.length_map]; have := g.le; omega) (fun d hd' ρ' Ψ hR hk => ?_) fun ρ' hR => ?_
  · obtain ⟨s11, rfl⟩ := hR
    obtain ⟨r, hr, rfl⟩ := List.mem_map.mp hd'
    have hlt := g.lt r hr
    have hrow := g.row r hr
    have e : (((seqD (rowD r)).getD []).map fun x => match x with | .int i => ((toString i : String) : Str) | _ => "") = r.map dig := by
      show ((r.map fun n => D.int (n : Nat)).map _) = _
      rw [List.map_map]; rfl
    have hk' := fun s' : Sl => hk [a0, .val (tbsD t), a2, .val (.int ((t.headD []).length : Nat)), .un, .un, .un, .un, .un, .un, .val (rowD r), s', .un, .un] ⟨s', rfl⟩
    rw [e] at hk'
    show wLcL _ _ _ _ (numsD r) [] [a0, .val (tbsD t), a2, .val (.int ((t.headD []).length : Nat)), .un, .un, .un, .un, .un, .un, .val (rowD r), .un, .un, .un] _
    refine lc_map (R := fun ρ => ρ = [a0, .val (tbsD t), a2, .val (.int ((t.headD []).length : Nat)), .un, .un, .un, .un, .un, .un, .val (rowD r), .un, .un, .un]) (fun d => match d with | .int i => .str ((toString i : String) : Str) | d => d) (numsD r) _ rfl (by unfold numsD; rw [List.length_map]; omega) (fun x hx ρ' Ψ h1 h2 => ?_) fun ρ' h1 => ?_
    · subst h1
      obtain ⟨n, hn, rfl⟩ := List.mem_map.mp hx
      simp only [wCB, wCons, wVar, wNil, List.set_cons_succ, List.set_cons_zero, List.getElem?_cons_zero, List.getElem?_cons_succ]
      refine wstr (hlt n hn) ?_
      exact h2 [a0, .val (tbsD t), a2, .val (.int ((t.headD []).length : Nat)), .un, .un, .un, .un, .un, .un, .val (rowD r), .val (.int (n : Nat)), .un, .un] rfl
    · subst h1
      rw [numsD_map r _ dig fun n _ => rfl]
      refine wjoin rfl ?_ ?_
      · have h1 : ((r.map dig).map (·.length)).sum ≤ (r.map dig).length * 2 := sum_le _ 2 fun w hw => by
          obtain ⟨n, hn, rfl⟩ := List.mem_map.mp hw
          exact (dig_len n (hlt n hn)).2
        rw [List.length_map] at h1 ⊢
        rw [one_len]
        omega
      · cases s11 with
        | un => exact hk' .un
        | val d => exact hk' (.val d)
        | own l o => exact hk' .un
  · obtain ⟨s11, rfl⟩ := hR
    have e : (t.map rowD).map (fun d => D.str (Txt.join " " (((seqD d).getD []).map fun x => match x with | .int i => ((toString i : String) : Str) | _ => ""))) = (t.map numT).map D.str := by
      (rw [List.map_map, List.map_map])
      refine List.map_congr_left fun r _ => ?_
      show D.str (Txt.join " " ((r.map fun n => D.int (n : Nat)).map _)) = _
      rw [List.map_map]; rfl
    rw [e]
    refine ⟨?_, ?_⟩
    · simp only [List.length_map, List.length_cons, List.length_nil]; have := g.le; omega
    · exact q _ ⟨.un, s11, rfl⟩
end
end K04
set_option Elab.async false
set_option autoImplicit false
set_option linter.all false
set_option maxRecDepth 100000
set_option maxHeartbeats 3900000
namespace K04
open DL L2 PyProof.Rows PySem PySem.Spec
section
abbrev mr_0 (K : Fg) (C : Cs) : WS := (wPar 2 3 (wCons (wMake C.Machine 1 0 (sp_Machine_init C) (fun ds _ => ds) (wCons (wVar 1) wNil) wNil) (wCons (wCB wLen (wCons (wOp wIx (wVar 1) (wC (.int 0))) wNil)) wNil)))
abbrev mr_1 (K : Fg) (C : Cs) : WS := (wAsg 4 (wOp wAdd (wLst (wCons (wOp wAdd (wC (.str "states ")) (wCB wStr (wCons (wVar 3) wNil))) wNil)) (wLc (wiSeq (wVar 1)) (wgName 10) wTrue (wM1 wJoin (wC (.str " ")) (wLc (wiSeq (wVar 10)) (wgName 11) wTrue (wCB wStr (wCons (wVar 11) wNil)) [11])) [10])))
abbrev mr_2 (K : Fg) (C : Cs) : WS := (wAsg 5 (wM1 wJoin (wC (.str "\n")) (wVar 4)))
abbrev mr_3 (K : Fg) (C : Cs) : WS := (wIfS (wB (wOp (wEq true) (wCB wRepr (wCons (wCallA 1 0 (sp_machine_text C) (fun ds _ => ds) (wCons (wVar 2) wNil) wNil) wNil)) (wCB wRepr (wCons (wVar 5) wNil)))) (wRet (wC (.bl false))) wNext)
abbrev mr_4 (K : Fg) (C : Cs) : WS := (wIfS (wB (wOp (wEq true) (wCallA 0 1 (sp_machine_text C) pm_0 wNil (wCons (wVar 2) wNil)) (wVar 5))) (wRet (wC (.bl false))) wNext)
abbrev mr_5 (K : Fg) (C : Cs) : WS := (wIfS (wB (wOp (fun x y Φ => wEq true x y Φ ∨ wNeO C.Machine (sp_Machine_eq C) x y Φ) (wCallA 1 0 (sp_law_reads C) (fun ds _ => ds) (wCons (wVar 5) wNil) wNil) (wVar 2))) (wRet (wC (.bl false))) wNext)
abbrev mr_6 (K : Fg) (C : Cs) : WS := (wIfS (wB (wOp (fun x y Φ => wEq true x y Φ ∨ wNeO C.Machine (sp_Machine_eq C) x y Φ) (wCallA 1 0 (sp_read_machine C) (fun ds _ => ds) (wCons (wVar 5) wNil) wNil) (wVar 2))) (wRet (wC (.bl false))) wNext)
abbrev mr_7 (K : Fg) (C : Cs) : WS := (wAsg 6 (wCallB 0 1 (sp_law_take C) (wCons (wCB wLen (wCons (wVar 4) wNil)) wNil)))
abbrev mr_8 (K : Fg) (C : Cs) : WS := (wAsg 7 (wOp wIx (wVar 4) (wVar 6)))
abbrev mr_9 (K : Fg) (C : Cs) : WS := (wAsg 8 (wM1 wSplit (wVar 7) (wC (.str " "))))
abbrev mr_10 (K : Fg) (C : Cs) : WS := (wAsg 9 (wLst (wCons (wOp wAdd (wVar 7) (wC (.str " "))) (wCons (wOp wAdd (wC (.str " ")) (wVar 7)) (wCons (wC (.str "")) (wCons (wOp wAdd (wVar 7) (wC (.str " 0"))) (wCons (wOp wAdd (wRepN " " "  " 1 (wVar 7)) (wC (.str " "))) (wCons (wOp wAdd (wVar 7) (wC (.str "?"))) wNil))))))))
abbrev mr_11 (K : Fg) (C : Cs) : WS := (wAsg 9 (wOp wAdd (wVar 9) (wLc (wiSeq (wTup (wCons (wOp wAdd (wC (.str "0")) (wOp wIx (wVar 8) (wUn wNeg (wC (.int 1))))) (wCons (wC (.str "13")) (wCons (wC (.str "-1")) (wCons (wC (.str "X")) wNil)))))) (wgName 12) wTrue (wM1 wJoin (wC (.str " ")) (wOp wAdd (wSl (wVar 8) woNone (woSome (wUn wNeg (wC (.int 1))))) (wLst (wCons (wVar 12) wNil)))) [12])))
abbrev mr_12 (K : Fg) (C : Cs) : WS := (wIfS (wB (wOp (wEq true) (wCallA 1 0 (sp_law_reads C) (fun ds _ => ds) (wCons (wM1 wJoin (wC (.str "\n")) (wOp wAdd (wOp wAdd (wSl (wVar 4) woNone (woSome (wVar 6))) (wLst (wCons (wCallB 0 1 (sp_law_pick C) (wCons (wVar 9) wNil)) wNil))) (wSl (wVar 4) (woSome (wOp wAdd (wVar 6) (wC (.int 1)))) woNone))) wNil) wNil) (wTup (wCons (wC (.str "text")) (wCons (wOp wAdd (wVar 6) (wC (.int 1))) (wCons (wC (.bl true)) wNil)))))) (wRet (wC (.bl false))) wNext)
abbrev mr_13 (K : Fg) (C : Cs) : WS := (wIfS (wB (wOp (wEq true) (wCallA 1 0 (sp_law_reads C) (fun ds _ => ds) (wCons (wOp wIx (wVar 4) (wC (.int 0))) wNil) wNil) (wTup (wCons (wC (.str "text")) (wCons (wC (.int 2)) (wCons (wC (.bl true)) wNil)))))) (wRet (wC (.bl false))) wNext)
abbrev mr_14 (K : Fg) (C : Cs) : WS := (wIfS (wB (wOp (wEq true) (wCallA 1 0 (sp_law_reads C) (fun ds _ => ds) (wCons (wM1 wJoin (wC (.str "\n")) (wOp wAdd (wOp wAdd (wLst (wCons (wVar 5) wNil)) (wOp wMul (wLst (wCons (wOp wIx (wVar 4) (wUn wNeg (wC (.int 1)))) wNil)) (wOp wSub (wC (.int 8)) (wCB wLen (wCons (wVar 1) wNil))))) (wLst (wCons (wOp wIx (wVar 4) (wUn wNeg (wC (.int 1)))) wNil)))) wNil) wNil) (wTup (wCons (wC (.str "text")) (wCons (wC (.int 10)) (wCons (wC (.bl true)) wNil)))))) (wRet (wC (.bl false))) wNext)
abbrev mr_15 (K : Fg) (C : Cs) : WS := (wIfS (wB (wOp (wEq true) (wLc (wiSeq (wTup (wCons (wC .non) (wCons (wC (.int 5)) (wCons (wLst (wCons (wVar 5) wNil)) (wCons (wC (.bl true)) wNil)))))) (wgName 13) (wB (wOp (wEq true) (wCallA 1 0 (sp_law_reads C) (fun ds _ => ds) (wCons (wVar 13) wNil) wNil) (wTup (wCons (wC (.str "text")) (wCons (wC (.int 0)) (wCons (wC (.bl true)) wNil)))))) (wVar 13) [13]) (wLst wNil))) (wRet (wC (.bl false))) wNext)
abbrev mr_16 (K : Fg) (C : Cs) : WS := (wRet (wOp (wEq false) (wLc (wiSeq (wTup (wCons (wC (.str "")) (wCons (wC (.str "states")) (wCons (wC (.str "states 0")) (wCons (wC (.str "states 13")) (wCons (wC (.str "States 1\n0")) (wCons (wC (.str "states 01\n0")) (wCons (wC (.str "states -1")) wNil))))))))) (wgName 13) (wB (wOp (wEq true) (wCallA 1 0 (sp_law_reads C) (fun ds _ => ds) (wCons (wVar 13) wNil) wNil) (wTup (wCons (wC (.str "text")) (wCons (wC (.int 1)) (wCons (wC (.bl true)) wNil)))))) (wVar 13) [13]) (wLst wNil)))
variable {K : Fg} {C : Cs}
theorem lc_none {i : Nat} {wt : WT} {we : WE} {vs : List Nat} {R : Rho → Prop} {Φ : List D → Rho → Prop} : ∀ (ds : List D) (ρ : Rho), R ρ →
    (∀ d ∈ ds, ∀ (ρ' : Rho) (Ψ : Bool → Rho → Prop), R ρ' → (∀ ρ3, R (wipeR ρ3 vs) → Ψ false ρ3) → wt (ρ'.set i (.val d)) χ0 Ψ) → (∀ ρ', R ρ' → Φ [] ρ') → wLcL (wgName i) wt we vs ds [] ρ Φ
  | [], ρ, hR, _, q => q ρ hR
  | d :: ds, ρ, hR, hs, q => hs d List.mem_cons_self ρ _ hR fun ρ3 h3 => lc_none ds (wipeR ρ3 vs) h3 (fun e he => hs e (List.mem_cons_of_mem _ he)) q
/-! texts of machines -/
theorem jn_len {ws : List Str} (h : ∀ w ∈ ws, Ln w) (hl : ws.length ≤ 12) : (Txt.join "\n" ws).length ≤ 1212 := by
  have a := join_len "\n" ws 100 fun w hw => (h w hw).len
  have b : ("\n" : Str).length = 1 := by decide
  rw [b] at a
  have : ws.length * (100 + 1) ≤ 12 * (100 + 1) := Nat.mul_le_mul_right _ hl
  omega
theorem nl_asc : ∀ c ∈ TL.tl ("\n" : Str), c < 128 := by decide +kernel
theorem jn_asc {ws : List Str} (h : ∀ w ∈ ws, Ln w) : ∀ c ∈ TL.tl (Txt.join "\n" ws), c < 128 := fun c hc => (mem_jn hc).elim (nl_asc c) fun ⟨w, hw, hc⟩ => (h w hw).asc c hc
theorem jn_ok {ws : List Str} (h : ∀ w ∈ ws, Ln w) (hl : ws.length ≤ 12) : okS (Txt.join "\n" ws) := okS_ln (jn_asc h) (by have := jn_len h hl; omega)
theorem Good.l12 {t : Tb} (g : Good t) : (linesL t).length ≤ 12 := by rw [lines_len]; have := g.le; omega
theorem sum_ln {ws : List Str} (h : ∀ w ∈ ws, Ln w) (hl : ws.length ≤ 12) : (ws.map (·.length)).sum + ws.length * ("\n" : Str).length ≤ 16777216 := by
  have a := sum_le ws 100 fun w hw => (h w hw).len
  have b : ("\n" : Str).length = 1 := by decide
  rw [b]
  omega
theorem mt_ok {t : Tb} (g : Good t) : okS (machT t) := jn_ok (Ln.lines g) g.l12
theorem mt_rep {t : Tb} (g : Good t) : okS (reprText (machT t)) := by
  refine repr_ok (jn_asc (Ln.lines g)) ?_
  have a := join_len "\n" (linesL t) 100 fun w hw => (Ln.lines g w hw).len
  have b : ("\n" : Str).length = 1 := by decide
  have c := lines_len t
  have := g.le
  rw [b] at a
  have : (linesL t).length * (100 + 1) ≤ 9 * (100 + 1) := Nat.mul_le_mul_right _ (by omega)
  have e : machT t = Txt.join "\n" (linesL t) := rfl
  rw [e]
  omega
abbrev manyD (t : Tb) : D := .int ((t.headD []).length : Nat)
abbrev linD (t : Tb) : D := .lst ((linesL t).map D.str)
variable {t : Tb} {l : Addr} {o : OD} {Δ : DE} {s5 s6 s7 s8 s9 s10 s11 s12 s13 : Sl}
/-- the places of the law, once its lines are told -/
abbrev RM (C : Cs) (t : Tb) (l : Addr) (o : OD) (s6 s7 s8 s9 s10 s11 s12 s13 : Sl) : Rho := [.own l o, .val (tbsD t), .val (mach C t), .val (manyD t), .val (linD t), .val (.str (machT t)), s6, s7, s8, s9, s10, s11, s12, s13]
theorem r_0 (g : Good t) (q : Δ.nx [.own l o, .val (tbsD t), .val (mach C t), .val (manyD t), .un, .un, .un, .un, .un, .un, .un, .un, .un, .un]) :
    mr_0 K C [.own l o, .val (tbsD t), .un, .un, .un, .un, .un, .un, .un, .un, .un, .un, .un, .un] Δ := by
  have h := at_tb g
  simp only [mr_0, wSeq, wNext, wBreak, wCont, wAsg, wRet, wRetN, wDrop, wIfS, wRetO, wgName, wgNil, wgCons, wgTup, wAsgG, wOp, wUn, wCB, wC, wVar, wNil, wCons, wTup, wLst, wB, wAnd, wOr, wNot, wAndV, wOrV, wNotV, wIf, wChain, wAdd, wSub, wMul, wMod, wDiv, wPow, wCmp, wIsN, DL.isNon, wLen, wAbs, wMin2, wMax2, wInt, wFld, wFldO, wM1, wCallA, wCallB, wMake, wRaise, wNeg, wIxO, wLenO, wApp, wSetO, wFset, wPar, wParO, wAsgO, woLst, woCall, wFor, wiSeq, wiRg1, wiEnum, dEnds, outs, args, List.getElem?_cons_zero, List.getElem?_cons_succ, List.nil_append, List.cons_append, List.map_cons, List.map_nil, List.set_cons_zero, List.set_cons_succ, List.append_nil, List.replicate_zero, List.replicate_succ, Option.map_none, Option.map_some, List.length_cons, List.length_nil]
  refine ⟨trivial, trivial, mk_good g rfl ⟨rfl, _, _, rfl, rowD (t.headD []), h, ?_⟩⟩
  have e : ((rowD (t.headD []) : D)) = .tup (numsD (t.headD [])) := rfl
  rw [e]
  simp only [numsD, List.length_map]
  have em : t.length = (t.map rowD).length := (List.length_map ..).symm
  rw [em]
  exact q
theorem r_2 (g : Good t) (q : Δ.nx (RM C t l o s6 s7 s8 s9 s10 s11 s12 s13)) : mr_2 K C [.own l o, .val (tbsD t), .val (mach C t), .val (manyD t), .val (linD t), s5, s6, s7, s8, s9, s10, s11, s12, s13] Δ := by
  simp only [mr_2, wSeq, wNext, wBreak, wCont, wAsg, wRet, wRetN, wDrop, wIfS, wRetO, wgName, wgNil, wgCons, wgTup, wAsgG, wOp, wUn, wCB, wC, wVar, wNil, wCons, wTup, wLst, wB, wAnd, wOr, wNot, wAndV, wOrV, wNotV, wIf, wChain, wAdd, wSub, wMul, wMod, wDiv, wPow, wCmp, wIsN, DL.isNon, wLen, wAbs, wMin2, wMax2, wInt, wFld, wFldO, wM1, wCallA, wCallB, wMake, wRaise, wNeg, wIxO, wLenO, wApp, wSetO, wFset, wPar, wParO, wAsgO, woLst, woCall, wFor, wiSeq, wiRg1, wiEnum, dEnds, outs, args, List.getElem?_cons_zero, List.getElem?_cons_succ, List.nil_append, List.cons_append, List.map_cons, List.map_nil, List.set_cons_zero, List.set_cons_succ, List.append_nil, List.replicate_zero, List.replicate_succ, Option.map_none, Option.map_some, List.length_cons, List.length_nil]
  exact wjoin rfl (sum_ln (Ln.lines g) g.l12) q
theorem r_3 (g : Good t) (q : Δ.nx (RM C t l o s6 s7 s8 s9 s10 s11 s12 s13)) : mr_3 K C (RM C t l o s6 s7 s8 s9 s10 s11 s12 s13) Δ := by
  simp only [mr_3, wSeq, wNext, wBreak, wCont, wAsg, wRet, wRetN, wDrop, wIfS, wRetO, wgName, wgNil, wgCons, wgTup, wAsgG, wOp, wUn, wCB, wC, wVar, wNil, wCons, wTup, wLst, wB, wAnd, wOr, wNot, wAndV, wOrV, wNotV, wIf, wChain, wAdd, wSub, wMul, wMod, wDiv, wPow, wCmp, wIsN, DL.isNon, wLen, wAbs, wMin2, wMax2, wInt, wFld, wFldO, wM1, wCallA, wCallB, wMake, wRaise, wNeg, wIxO, wLenO, wApp, wSetO, wFset, wPar, wParO, wAsgO, woLst, woCall, wFor, wiSeq, wiRg1, wiEnum, dEnds, outs, args, List.getElem?_cons_zero, List.getElem?_cons_succ, List.nil_append, List.cons_append, List.map_cons, List.map_nil, List.set_cons_zero, List.set_cons_succ, List.append_nil, List.replicate_zero, List.replicate_succ, Option.map_none, Option.map_some, List.length_cons, List.length_nil]
  refine ⟨trivial, trivial, rfl, t, g, rfl, ?_⟩
  refine w_repr (mt_rep g) ?_
  refine w_repr (mt_rep g) ?_
  refine eq_strs (mt_rep g) (mt_rep g) ?_
  simp only [↓reduceIte, decide_true, Bool.not_true, Bool.false_eq_true]
  exact q
theorem r_4 (g : Good t) (q : Δ.nx (RM C t l o s6 s7 s8 s9 s10 s11 s12 s13)) : mr_4 K C (RM C t l o s6 s7 s8 s9 s10 s11 s12 s13) Δ := by
  simp only [mr_4, wSeq, wNext, wBreak, wCont, wAsg, wRet, wRetN, wDrop, wIfS, wRetO, wgName, wgNil, wgCons, wgTup, wAsgG, wOp, wUn, wCB, wC, wVar, wNil, wCons, wTup, wLst, wB, wAnd, wOr, wNot, wAndV, wOrV, wNotV, wIf, wChain, wAdd, wSub, wMul, wMod, wDiv, wPow, wCmp, wIsN, DL.isNon, wLen, wAbs, wMin2, wMax2, wInt, wFld, wFldO, wM1, wCallA, wCallB, wMake, wRaise, wNeg, wIxO, wLenO, wApp, wSetO, wFset, wPar, wParO, wAsgO, woLst, woCall, wFor, wiSeq, wiRg1, wiEnum, dEnds, outs, args, List.getElem?_cons_zero, List.getElem?_cons_succ, List.nil_append, List.cons_append, List.map_cons, List.map_nil, List.set_cons_zero, List.set_cons_succ, List.append_nil, List.replicate_zero, List.replicate_succ, Option.map_none, Option.map_some, List.length_cons, List.length_nil]
  refine ⟨trivial, trivial, rfl, t, g, rfl, ?_⟩
  refine eq_strs (mt_ok g) (mt_ok g) ?_
  simp only [↓reduceIte, decide_true, Bool.not_true, Bool.false_eq_true]
  exact q
theorem r_5 (g : Good t) (q : Δ.nx (RM C t l o s6 s7 s8 s9 s10 s11 s12 s13)) : mr_5 K C (RM C t l o s6 s7 s8 s9 s10 s11 s12 s13) Δ := by
  refine ⟨rfl, rfl, rfl, .str (machT t), rfl, rfl, mt_ok g, ?_⟩
  show wEq true (match readT (machT t) with | .ok t => mach C t | .error i => saidE i) (mach C t) _ ∨ _
  have e := read_ok g
  show _ ∨ wNeO C.Machine (sp_Machine_eq C) (match readT (machT t) with | .ok t => mach C t | .error i => saidE i) (mach C t) _
  rw [e]
  exact .inr ⟨⟨_, _, _, _, rfl, rfl⟩, ⟨rfl, t, g, rfl, true, rfl, q⟩⟩
theorem r_6 (g : Good t) (q : Δ.nx (RM C t l o s6 s7 s8 s9 s10 s11 s12 s13)) : mr_6 K C (RM C t l o s6 s7 s8 s9 s10 s11 s12 s13) Δ := by
  refine ⟨rfl, rfl, rfl, .str (machT t), rfl, rfl, mt_ok g, ?_⟩
  have e : readM (.str (machT t)) = .ok t := read_ok g
  rw [e]
  exact .inr ⟨⟨_, _, _, _, rfl, rfl⟩, ⟨rfl, t, g, rfl, true, rfl, q⟩⟩
theorem r_7 (g : Good t) (ho : GoodB o) (q : ∀ (a : Nat) o', a < (linesL t).length → GoodB o' → Δ.nx (RM C t l o' (.val (.int a)) s7 s8 s9 s10 s11 s12 s13)) : mr_7 K C (RM C t l o s6 s7 s8 s9 s10 s11 s12 s13) Δ := by
  have hl := g.l12
  refine ⟨⟨l, _, rfl⟩, ?_⟩
  show [D.int (((linesL t).map D.str).length : Nat)].length = 1 ∧ _
  rw [List.length_map]
  refine ⟨rfl, o, ((linesL t).length : Nat), rfl, ho, rfl, by rw [lines_len]; omega, by omega, fun d o2 h0 h1 h2 => ⟨o2, rfl, ?_⟩⟩
  obtain ⟨a, e, ha⟩ := nat_of h0 h1
  rw [e]
  exact q a o2 (by omega) h2
/-- the line at a place, by its words -/
theorem line_Lw (g : Good t) {a : Nat} (ha : a < (linesL t).length) : ∃ us k, Lw (t.headD []).length us k ((linesL t)[a]) ∧ (a = 0 → us.length = 1) ∧ (a ≠ 0 → us.length + 1 = (t.headD []).length) := by
  have h := g.head
  cases a with
  | zero => exact ⟨["states"], _, head_Lw g, fun _ => rfl, fun z => absurd rfl z⟩
  | succ n =>
    have hn : n < t.length := by rw [lines_len] at ha; omega
    have e : (linesL t)[n + 1] = numT t[n] := by simp [linesL]
    obtain ⟨us, k, hw, hl⟩ := row_Lw (g.rows _ (List.getElem_mem hn)) h.1 h.2
    rw [e]
    exact ⟨us, k, hw, fun z => absurd z (Nat.succ_ne_zero n), fun _ => hl⟩
theorem at_nat {xs : List D} {a : Nat} {x : D} (h : xs[a]? = some x) : atI xs (a : Int) = some x := by
  have hlt : a < xs.length := (List.getElem?_eq_some_iff.mp h).1
  unfold atI ixN
  (rw [if_pos (by omega), if_pos (by omega)])
  simpa using h
theorem lin_at {a : Nat} (ha : a < (linesL t).length) : atI ((linesL t).map D.str) (a : Int) = some (.str (linesL t)[a]) := at_nat (by rw [List.getElem?_map, List.getElem?_eq_getElem ha]; rfl)
theorem r_8 {a : Nat} (ha : a < (linesL t).length) (q : Δ.nx (RM C t l o (.val (.int a)) (.val (.str (linesL t)[a])) s8 s9 s10 s11 s12 s13)) : mr_8 K C (RM C t l o (.val (.int a)) s7 s8 s9 s10 s11 s12 s13) Δ := by
  simp only [mr_8, wSeq, wNext, wBreak, wCont, wAsg, wRet, wRetN, wDrop, wIfS, wRetO, wgName, wgNil, wgCons, wgTup, wAsgG, wOp, wUn, wCB, wC, wVar, wNil, wCons, wTup, wLst, wB, wAnd, wOr, wNot, wAndV, wOrV, wNotV, wIf, wChain, wAdd, wSub, wMul, wMod, wDiv, wPow, wCmp, wIsN, DL.isNon, wLen, wAbs, wMin2, wMax2, wInt, wFld, wFldO, wM1, wCallA, wCallB, wMake, wRaise, wNeg, wIxO, wLenO, wApp, wSetO, wFset, wPar, wParO, wAsgO, woLst, woCall, wFor, wiSeq, wiRg1, wiEnum, dEnds, outs, args, List.getElem?_cons_zero, List.getElem?_cons_succ, List.nil_append, List.cons_append, List.map_cons, List.map_nil, List.set_cons_zero, List.set_cons_succ, List.append_nil, List.replicate_zero, List.replicate_succ, Option.map_none, Option.map_some, List.length_cons, List.length_nil]
  exact ⟨_, lin_at ha, q⟩
theorem r_9 {m k : Nat} {us : List Str} {line : Str} (h : Lw m us k line) (q : Δ.nx (RM C t l o s6 (.val (.str line)) (.val (.lst ((us ++ [dig k]).map D.str))) s9 s10 s11 s12 s13)) : mr_9 K C (RM C t l o s6 (.val (.str line)) s8 s9 s10 s11 s12 s13) Δ := by
  simp only [mr_9, wSeq, wNext, wBreak, wCont, wAsg, wRet, wRetN, wDrop, wIfS, wRetO, wgName, wgNil, wgCons, wgTup, wAsgG, wOp, wUn, wCB, wC, wVar, wNil, wCons, wTup, wLst, wB, wAnd, wOr, wNot, wAndV, wOrV, wNotV, wIf, wChain, wAdd, wSub, wMul, wMod, wDiv, wPow, wCmp, wIsN, DL.isNon, wLen, wAbs, wMin2, wMax2, wInt, wFld, wFldO, wM1, wCallA, wCallB, wMake, wRaise, wNeg, wIxO, wLenO, wApp, wSetO, wFset, wPar, wParO, wAsgO, woLst, woCall, wFor, wiSeq, wiRg1, wiEnum, dEnds, outs, args, List.getElem?_cons_zero, List.getElem?_cons_succ, List.nil_append, List.cons_append, List.map_cons, List.map_nil, List.set_cons_zero, List.set_cons_succ, List.append_nil, List.replicate_zero, List.replicate_succ, Option.map_none, Option.map_some, List.length_cons, List.length_nil]
  have := h.len
  refine ⟨by decide, two_le (by omega), ?_⟩
  rw [h.split]
  simpa using q
/-- bent lines -/
def BtL (m ul : Nat) (xs : List D) : Prop := ∀ x ∈ xs, ∃ s, x = .str s ∧ Bt m ul s
theorem r_10 {m k : Nat} {us : List Str} {line : Str} (h : Lw m us k line) (q : ∀ xs, xs.length = 6 → BtL m us.length xs → Δ.nx (RM C t l o s6 (.val (.str line)) s8 (.val (.lst xs)) s10 s11 s12 s13)) : mr_10 K C (RM C t l o s6 (.val (.str line)) s8 s9 s10 s11 s12 s13) Δ := by
  have hl := h.len
  have hb := big
  have c := cuts1 line
  have r := (rep_ln h.ln h.len).2
  have l1 : (" " : Str).length = 1 := by decide
  have l2 : ("  " : Str).length = 2 := by decide
  have l3 : (" 0" : Str).length = 2 := by decide
  have l4 : ("?" : Str).length = 1 := by decide
  simp only [mr_10, wRepN, wSeq, wNext, wBreak, wCont, wAsg, wRet, wRetN, wDrop, wIfS, wRetO, wgName, wgNil, wgCons, wgTup, wAsgG, wOp, wUn, wCB, wC, wVar, wNil, wCons, wTup, wLst, wB, wAnd, wOr, wNot, wAndV, wOrV, wNotV, wIf, wChain, wAdd, wSub, wMul, wMod, wDiv, wPow, wCmp, wIsN, DL.isNon, wLen, wAbs, wMin2, wMax2, wInt, wFld, wFldO, wM1, wCallA, wCallB, wMake, wRaise, wNeg, wIxO, wLenO, wApp, wSetO, wFset, wPar, wParO, wAsgO, woLst, woCall, wFor, wiSeq, wiRg1, wiEnum, dEnds, outs, args, List.getElem?_cons_zero, List.getElem?_cons_succ, List.nil_append, List.cons_append, List.map_cons, List.map_nil, List.set_cons_zero, List.set_cons_succ, List.append_nil, List.replicate_zero, List.replicate_succ, Option.map_none, Option.map_some, List.length_cons, List.length_nil, l1, l2, l3, l4]
  refine ⟨by omega, by omega, by omega, by omega, by omega, by omega, ?_, ?_⟩
  · show 6 ≤ sizeLine; omega
  refine q _ rfl fun x hx => ?_
  (simp only [List.mem_cons, List.not_mem_nil, or_false] at hx)
  rcases hx with rfl | rfl | rfl | rfl | rfl | rfl
  · exact ⟨_, rfl, h.b1⟩
  · exact ⟨_, rfl, h.b2⟩
  · exact ⟨_, rfl, b3 h.m12⟩
  · exact ⟨_, rfl, h.b4⟩
  · exact ⟨_, rfl, h.b5⟩
  · exact ⟨_, rfl, h.b6⟩
theorem cut_last (xs : List D) (x : D) : DL.cutD (xs ++ [x]) none (some (-1)) = xs := by
  have h2 : HT.sIx (xs ++ [x]).length (xs ++ [x]).length (some (-1)) = xs.length := by simp [HT.sIx]; try omega
  have h1 : HT.sIx (xs ++ [x]).length 0 none = 0 := by simp [HT.sIx]
  unfold DL.cutD
  rw [h1, h2]
  simp
theorem cut_take (xs : List D) (a : Nat) (h : a ≤ xs.length) : DL.cutD xs none (some (a : Int)) = xs.take a := by
  have h2 : HT.sIx xs.length xs.length (some (a : Int)) = a := by rw [HT.sIx_nat]; omega
  have h1 : HT.sIx xs.length 0 none = 0 := by simp [HT.sIx]
  unfold DL.cutD
  rw [h1, h2]
  simp
theorem cut_drop (xs : List D) (a : Nat) (h : a ≤ xs.length) : DL.cutD xs (some (a : Int)) none = xs.drop a := by
  have h2 : HT.sIx xs.length xs.length none = xs.length := by simp [HT.sIx]
  have h1 : HT.sIx xs.length 0 (some (a : Int)) = a := by rw [HT.sIx_nat]; omega
  unfold DL.cutD
  rw [h1, h2, List.take_of_length_le (by rw [List.length_drop]; omega)]
theorem at_last (xs : List D) (x : D) : atI (xs ++ [x]) (-1) = some x := by
  simp only [atI, ixN, List.length_append, List.length_cons, List.length_nil]
  rw [if_neg (by omega), if_pos (by omega)]
  have : ((-1 : Int) + ((xs.length : Int) + 1)).toNat = xs.length := by omega
  simp [this]
theorem Lw.ul {m k : Nat} {us : List Str} {line : Str} (h : Lw m us k line) : us.length ≤ 50 := by
  have f1 : (Txt.join " " (us ++ [dig k])).length = ((us ++ [dig k]).map (·.length)).sum + ((us ++ [dig k]).length - 1) * (" " : Str).length := PySem.size_glued " " _
  have l1 : (" " : Str).length = 1 := by decide
  have l := h.len
  rw [h.eq, f1, l1, List.length_append] at l
  simp only [List.length_cons, List.length_nil] at l
  omega
theorem odd_ok {w : Str} (h : (10 ∉ TL.tl w ∧ ∀ c ∈ TL.tl w, c < 128) ∧ 32 ∉ TL.tl w) : 32 ∉ TL.tl w ∧ 10 ∉ TL.tl w ∧ ∀ c ∈ TL.tl w, c < 128 := ⟨h.2, h.1⟩
/-- one odd word at the end of the line -/
theorem odd_end {m k : Nat} {us : List Str} {line w : Str} {ρ' : Rho} {χ : XC} {Φ : D → Rho → Prop} (h : Lw m us k line) (e8 : ρ'[8]? = some (.val (.lst ((us ++ [dig k]).map D.str)))) (e12 : ρ'[12]? = some (.val (.str w)))
    (hw : w.length ≤ 4) (q : Φ (.str (Txt.join " " (us ++ [w]))) ρ') :
    (wM1 wJoin (wC (.str " ")) (wOp wAdd (wSl (wVar 8) woNone (woSome (wUn wNeg (wC (.int 1))))) (wLst (wCons (wVar 12) wNil)))) ρ' χ Φ := by
  have hb := big
  have hlen := h.ul
  simp only [wSl, woNone, woSome, wSeq, wNext, wBreak, wCont, wAsg, wRet, wRetN, wDrop, wIfS, wRetO, wgName, wgNil, wgCons, wgTup, wAsgG, wOp, wUn, wCB, wC, wVar, wNil, wCons, wTup, wLst, wB, wAnd, wOr, wNot, wAndV, wOrV, wNotV, wIf, wChain, wAdd, wSub, wMul, wMod, wDiv, wPow, wCmp, wIsN, DL.isNon, wLen, wAbs, wMin2, wMax2, wInt, wFld, wFldO, wM1, wCallA, wCallB, wMake, wRaise, wNeg, wIxO, wLenO, wApp, wSetO, wFset, wPar, wParO, wAsgO, woLst, woCall, wFor, wiSeq, wiRg1, wiEnum, dEnds, outs, args, List.getElem?_cons_zero, List.getElem?_cons_succ, List.nil_append, List.cons_append, List.map_cons, List.map_nil, List.set_cons_zero, List.set_cons_succ, List.append_nil, List.replicate_zero, List.replicate_succ, Option.map_none, Option.map_some, List.length_cons, List.length_nil, e8, e12]
  have e : DL.cutD ((us ++ [dig k]).map D.str) none (some (-1)) = us.map D.str := by rw [List.map_append]; exact cut_last _ _
  have l1 : (" " : Str).length = 1 := by decide
  refine ⟨by omega, ?_⟩
  rw [e]
  refine ⟨by rw [List.length_map]; omega, ?_⟩
  refine wjoin (ws := us ++ [w]) (by rw [List.map_append]; rfl) ?_ q
  have f1 : (Txt.join " " (us ++ [dig k])).length = ((us ++ [dig k]).map (·.length)).sum + ((us ++ [dig k]).length - 1) * (" " : Str).length := PySem.size_glued " " _
  have l := h.len
  rw [h.eq, f1] at l
  rw [l1]
  simp only [List.map_append, List.map_cons, List.map_nil, List.sum_append, List.sum_cons, List.sum_nil, List.length_append, List.length_cons, List.length_nil] at l ⊢
  omega
theorem r_11 {m k : Nat} {us : List Str} {line : Str} {xs : List D} (h : Lw m us k line) (hx : xs.length = 6) (hB : BtL m us.length xs)
    (q : ∀ ys, ys ≠ [] → ys.length = 10 → BtL m us.length ys → Δ.nx (RM C t l o s6 s7 (.val (.lst ((us ++ [dig k]).map D.str))) (.val (.lst ys)) s10 s11 .un s13)) :
    mr_11 K C (RM C t l o s6 s7 (.val (.lst ((us ++ [dig k]).map D.str))) (.val (.lst xs)) s10 s11 .un s13) Δ := by
  have hb := big
  have hk := h.k13
  have hd := dig_len k (by omega)
  have l0 : ("0" : Str).length = 1 := by decide
  simp only [mr_11, wSeq, wNext, wBreak, wCont, wAsg, wRet, wRetN, wDrop, wIfS, wRetO, wgName, wgNil, wgCons, wgTup, wAsgG, wOp, wUn, wCB, wC, wVar, wNil, wCons, wTup, wLst, wB, wAnd, wOr, wNot, wAndV, wOrV, wNotV, wIf, wChain, wAdd, wSub, wMul, wMod, wDiv, wPow, wCmp, wIsN, DL.isNon, wLen, wAbs, wMin2, wMax2, wInt, wFld, wFldO, wM1, wCallA, wCallB, wMake, wRaise, wNeg, wIxO, wLenO, wApp, wSetO, wFset, wPar, wParO, wAsgO, woLst, woCall, wFor, wiSeq, wiRg1, wiEnum, dEnds, outs, args, List.getElem?_cons_zero, List.getElem?_cons_succ, List.nil_append, List.cons_append, List.map_cons, List.map_nil, List.set_cons_zero, List.set_cons_succ, List.append_nil, List.replicate_zero, List.replicate_succ, Option.map_none, Option.map_some, List.length_cons, List.length_nil, l0]
  refine ⟨.str (dig k), by rw [List.map_append]; exact at_last _ _, by show _ + (dig k).length ≤ _; omega, by show 4 ≤ sizeLine; omega, ?_⟩
  show wLcL _ _ _ _ ([("0" : Str) ++ dig k, "13", "-1", "X"].map D.str) [] (RM C t l o s6 s7 (.val (.lst ((us ++ [dig k]).map D.str))) (.val (.lst xs)) s10 s11 .un s13) _
  refine lc_map (R := fun ρ => ρ = RM C t l o s6 s7 (.val (.lst ((us ++ [dig k]).map D.str))) (.val (.lst xs)) s10 s11 .un s13) (fun d => match d with | .str w => .str (Txt.join " " (us ++ [w])) | d => d) _ _ rfl (by show 4 ≤ sizeLine; omega) (fun d hd' ρ' Ψ h1 h2 => ?_) fun ρ' h1 => ?_
  · subst h1
    obtain ⟨w, hw, rfl⟩ := List.mem_map.mp hd'
    refine odd_end h rfl rfl ?_ ?_
    · simp only [List.mem_cons, List.not_mem_nil, or_false] at hw
      rcases hw with rfl | rfl | rfl | rfl
      · rw [app_len, l0]; omega
      · decide
      · decide
      · decide
    · exact h2 _ rfl
  · subst h1
    refine ⟨?_, ?_⟩
    · simp only [List.length_map, List.length_cons, List.length_nil]; omega
    refine q _ (fun z => ?_) ?_ fun x hm => ?_
    · have := congrArg List.length z
      simp at this
    · simp [hx]
    (rcases List.mem_append.mp hm with hm | hm)
    · exact hB x hm
    · simp only [List.map_cons, List.map_nil, List.mem_cons, List.not_mem_nil, or_false] at hm
      have hq := bad_q k hk
      have b := bads
      (rcases hm with rfl | rfl | rfl | rfl)
      · refine ⟨_, rfl, h.b7 hq.2 ?_ (by rw [app_len, l0]; omega)⟩
        have d1 := dig_sp k (by omega)
        have d2 := dig_asc k (by omega)
        rw [TL.tl_append]
        have z : 32 ∉ TL.tl ("0" : Str) ∧ 10 ∉ TL.tl ("0" : Str) ∧ ∀ c ∈ TL.tl ("0" : Str), c < 128 := by decide +kernel
        exact ⟨fun hc => (List.mem_append.mp hc).elim z.1 d1.1, fun hc => (List.mem_append.mp hc).elim z.2.1 d1.2, fun c hc => (List.mem_append.mp hc).elim (z.2.2 c) (d2 c)⟩
      · exact ⟨_, rfl, h.b7 b.2.1 (by decide +kernel) (by decide)⟩
      · exact ⟨_, rfl, h.b7 b.2.2.1 (by decide +kernel) (by decide)⟩
      · exact ⟨_, rfl, h.b7 b.2.2.2.1 (by decide +kernel) (by decide)⟩
theorem tx_ok : PyData.strOk "text" = true := by decide +kernel
theorem list_say {i : Int} {Φ : D → Prop} {x : D} (hx : x = saidE i) (h : Φ (.bl false)) : wEq true x (.tup [.str "text", .int i, .bl true]) Φ := by
  subst hx
  exact eq_same (p := .tuple [.str "text", .int i, .bool true]) rfl (by simp [SeqAt.shaped, PyData.canLay0, PyData.canLayAll0, PyData.depth, PyData.depthAll, tx_ok]) h
theorem said_of {x : D} {i : Int} (h : readM x = .error i) : (match readM x with | .ok t => mach C t | .error i => saidE i) = saidE i := by rw [h]
theorem bent_lines (g : Good t) {a : Nat} {s : Str} (hs : Ln s) : ∀ w ∈ (linesL t).take a ++ [s] ++ (linesL t).drop (a + 1), Ln w := fun w hw => by
  rcases List.mem_append.mp hw with hw | hw
  · rcases List.mem_append.mp hw with hw | hw
    · exact Ln.lines g w (List.mem_of_mem_take hw)
    · rw [List.mem_singleton.mp hw]; exact hs
  · exact Ln.lines g w (List.mem_of_mem_drop hw)
theorem r_12 (g : Good t) (ho : GoodB o) {a ul : Nat} {ys : List D} (ha : a < (linesL t).length) (hne : ys ≠ []) (hl : ys.length = 10) (hB : BtL (t.headD []).length ul ys) (h0 : a = 0 → ul = 1) (h1 : a ≠ 0 → ul + 1 = (t.headD []).length)
    (q : ∀ o', GoodB o' → Δ.nx (RM C t l o' (.val (.int a)) s7 s8 (.val (.lst ys)) s10 s11 s12 s13)) : mr_12 K C (RM C t l o (.val (.int a)) s7 s8 (.val (.lst ys)) s10 s11 s12 s13) Δ := by
  have hb := big
  have h12 := g.l12
  simp only [mr_12, wSl, woNone, woSome, wSeq, wNext, wBreak, wCont, wAsg, wRet, wRetN, wDrop, wIfS, wRetO, wgName, wgNil, wgCons, wgTup, wAsgG, wOp, wUn, wCB, wC, wVar, wNil, wCons, wTup, wLst, wB, wAnd, wOr, wNot, wAndV, wOrV, wNotV, wIf, wChain, wAdd, wSub, wMul, wMod, wDiv, wPow, wCmp, wIsN, DL.isNon, wLen, wAbs, wMin2, wMax2, wInt, wFld, wFldO, wM1, wCallA, wCallB, wMake, wRaise, wNeg, wIxO, wLenO, wApp, wSetO, wFset, wPar, wParO, wAsgO, woLst, woCall, wFor, wiSeq, wiRg1, wiEnum, dEnds, outs, args, List.getElem?_cons_zero, List.getElem?_cons_succ, List.nil_append, List.cons_append, List.map_cons, List.map_nil, List.set_cons_zero, List.set_cons_succ, List.append_nil, List.replicate_zero, List.replicate_succ, Option.map_none, Option.map_some, List.length_cons, List.length_nil]
  refine ⟨⟨l, _, rfl⟩, trivial, o, ys, rfl, ho, rfl, hne, by omega, fun d o2 hd h2 => ⟨o2, rfl, ?_⟩⟩
  obtain ⟨s, rfl, bt⟩ := hB d hd
  have e1 : DL.cutD ((linesL t).map D.str) none (some (a : Int)) = ((linesL t).take a).map D.str := by rw [cut_take _ _ (by rw [List.length_map]; omega), List.map_take]
  have e2 : DL.cutD ((linesL t).map D.str) (some ((a : Int) + 1)) none = ((linesL t).drop (a + 1)).map D.str := by
    have := cut_drop ((linesL t).map D.str) (a + 1) (by rw [List.length_map]; omega)
    rw [show ((a : Int) + 1) = ((a + 1 : Nat) : Int) from rfl, this, List.map_drop]
  have e3 : ((linesL t).take a).map D.str ++ [D.str s] ++ ((linesL t).drop (a + 1)).map D.str = ((linesL t).take a ++ [s] ++ (linesL t).drop (a + 1)).map D.str := by
    rw [List.map_append, List.map_append]; rfl
  have hln := bent_lines g (a := a) bt.ln
  have hlen : ((linesL t).take a ++ [s] ++ (linesL t).drop (a + 1)).length ≤ 12 := by
    simp only [List.length_append, List.length_take, List.length_drop, List.length_cons, List.length_nil]; omega
  simp only [e1, e2, e3]
  have hlen2 := hlen
  simp only [List.length_append, List.length_cons, List.length_nil] at hlen2
  refine ⟨by show 1 ≤ sizeLine; omega, ?_, ?_, ?_⟩
  · simp only [List.length_map]; omega
  · simp only [List.length_map, List.length_append, List.length_cons, List.length_nil]; omega
  refine wjoin rfl (sum_ln hln hlen) ⟨trivial, trivial, rfl, .str _, rfl, rfl, jn_ok hln hlen, by show 3 ≤ sizeLine; omega, ?_⟩
  exact list_say (said_of (read_bent g bt.ln ha (fun z => bt.hd (h0 z)) fun z => bt.rw_ (h1 z))) (q o2 h2)
theorem jn_one (y w : Str) : Txt.join y [w] = w := TL.ext_tl (by rw [tl_jn]; rfl)
theorem jn_cat (y : Str) {ws vs : List Str} (h : ws ≠ []) : Txt.join y (Txt.join y ws :: vs) = Txt.join y (ws ++ vs) := by
  have key : ∀ (y : List Nat) (ws vs : List (List Nat)), ws ≠ [] → TL.joinL y (TL.joinL y ws :: vs) = TL.joinL y (ws ++ vs) := fun y ws => by
    induction ws with
    | nil => intro vs z; exact absurd rfl z
    | cons w ws ih =>
      intro vs _
      cases ws with
      | nil => rfl
      | cons w2 ws =>
        have i := ih vs (by simp)
        cases vs with
        | nil => simp only [List.append_nil]; rfl
        | cons v vs =>
          show (w ++ (y ++ TL.joinL y (w2 :: ws))) ++ (y ++ TL.joinL y (v :: vs)) = w ++ (y ++ TL.joinL y ((w2 :: ws) ++ v :: vs))
          rw [← i]
          show _ = w ++ (y ++ (TL.joinL y (w2 :: ws) ++ (y ++ TL.joinL y (v :: vs))))
          simp only [List.append_assoc]
  refine TL.ext_tl ?_
  rw [tl_jn, tl_jn, List.map_cons, List.map_append, tl_jn]
  exact key _ _ _ (by simpa using h)
theorem head_two (g : Good t) : readT (headL t) = .error 2 := by
  have h := g.head
  have e := readT_join (l := headL t) (ls := []) fun w hw => by rw [List.mem_singleton.mp hw]; exact (Ln.head g).nl
  rw [jn_one] at e
  rw [e]
  have : toldS (headL t) = some (t.headD []).length := toldS_head h.1 h.2
  rw [this]
  rfl
theorem r_13 (g : Good t) (q : Δ.nx (RM C t l o s6 s7 s8 s9 s10 s11 s12 s13)) : mr_13 K C (RM C t l o s6 s7 s8 s9 s10 s11 s12 s13) Δ := by
  have hb := big
  simp only [mr_13, wSeq, wNext, wBreak, wCont, wAsg, wRet, wRetN, wDrop, wIfS, wRetO, wgName, wgNil, wgCons, wgTup, wAsgG, wOp, wUn, wCB, wC, wVar, wNil, wCons, wTup, wLst, wB, wAnd, wOr, wNot, wAndV, wOrV, wNotV, wIf, wChain, wAdd, wSub, wMul, wMod, wDiv, wPow, wCmp, wIsN, DL.isNon, wLen, wAbs, wMin2, wMax2, wInt, wFld, wFldO, wM1, wCallA, wCallB, wMake, wRaise, wNeg, wIxO, wLenO, wApp, wSetO, wFset, wPar, wParO, wAsgO, woLst, woCall, wFor, wiSeq, wiRg1, wiEnum, dEnds, outs, args, List.getElem?_cons_zero, List.getElem?_cons_succ, List.nil_append, List.cons_append, List.map_cons, List.map_nil, List.set_cons_zero, List.set_cons_succ, List.append_nil, List.replicate_zero, List.replicate_succ, Option.map_none, Option.map_some, List.length_cons, List.length_nil]
  have hl := (Ln.head g).len
  refine ⟨.str (headL t), by simp [linesL, atI, ixN], trivial, trivial, rfl, .str (headL t), rfl, rfl, okS_ln (Ln.head g).asc (by omega), by show 3 ≤ sizeLine; omega, ?_⟩
  exact list_say (said_of (head_two g)) q
theorem last_row (g : Good t) : ∃ r, r ∈ t ∧ atI ((linesL t).map D.str) (-1) = some (.str (numT r)) := by
  refine ⟨t.getLast g.ne, List.getLast_mem g.ne, ?_⟩
  have e : (linesL t).map D.str = (D.str (headL t) :: t.dropLast.map fun r => .str (numT r)) ++ [.str (numT (t.getLast g.ne))] := by
    have f : t.map (fun r => D.str (numT r)) = (t.dropLast.map fun r => .str (numT r)) ++ [.str (numT (t.getLast g.ne))] := by
      conv => lhs; rw [← List.dropLast_concat_getLast g.ne]
      rw [List.map_append]; rfl
    unfold linesL
    rw [List.map_cons, List.map_map, List.cons_append, ← f]
    rfl
  rw [e]
  exact at_last _ _
theorem rep_flat (x : D) : ∀ n : Nat, (List.replicate n [x]).flatten = List.replicate n x
  | 0 => rfl
  | n + 1 => by rw [List.replicate_succ, List.flatten_cons, rep_flat x n]; rfl
theorem nine_read (g : Good t) {r : List Nat} (hr : r ∈ t) : readT (Txt.join "\n" ((machT t :: List.replicate (8 - t.length) (numT r)) ++ [numT r])) = .error 10 := by
  have h := g.head
  have h8 := g.le
  have ln : Ln (numT r) := Ln.num (g.lt r hr) (g.row r hr).2.1
  have e : Txt.join "\n" ((machT t :: List.replicate (8 - t.length) (numT r)) ++ [numT r]) = Txt.join "\n" (headL t :: ((t ++ List.replicate (8 - t.length) r).map numT ++ [numT r])) := by
    rw [machT_lines, List.cons_append, jn_cat "\n" (by simp [linesL]), List.map_append, List.map_replicate]
    unfold linesL
    simp
  rw [e, readT_join fun w hw => ?_]
  · have hh : toldS (headL t) = some (t.headD []).length := toldS_head h.1 h.2
    rw [hh]
    simp only
    rw [if_neg (by simp), rows_nine h.1 h.2 (g.rows r hr) (t ++ List.replicate (8 - t.length) r) 0 (fun q hq => ?_) (by rw [List.length_append, List.length_replicate]; omega)]
    (rcases List.mem_append.mp hq with hq | hq)
    · exact g.rows q hq
    · rw [(List.mem_replicate.mp hq).2]; exact g.rows r hr
  · rcases List.mem_cons.mp hw with rfl | hw
    · exact (Ln.head g).nl
    · rcases List.mem_append.mp hw with hw | hw
      · obtain ⟨q, hq, rfl⟩ := List.mem_map.mp hw
        (rcases List.mem_append.mp hq with hq | hq)
        · exact (Ln.num (g.lt q hq) (g.row q hq).2.1).nl
        · rw [(List.mem_replicate.mp hq).2]; exact ln.nl
      · rw [List.mem_singleton.mp hw]; exact ln.nl
theorem r_14 (g : Good t) (q : Δ.nx (RM C t l o s6 s7 s8 s9 s10 s11 s12 s13)) : mr_14 K C (RM C t l o s6 s7 s8 s9 s10 s11 s12 s13) Δ := by
  have hb := big
  have h8 := g.le
  obtain ⟨r, hr, ha⟩ := last_row g
  have ln : Ln (numT r) := Ln.num (g.lt r hr) (g.row r hr).2.1
  have hml := jn_len (Ln.lines g) g.l12
  have hn : ((8 : Int) - (t.length : Int)).toNat = 8 - t.length := by omega
  simp only [mr_14, wSeq, wNext, wBreak, wCont, wAsg, wRet, wRetN, wDrop, wIfS, wRetO, wgName, wgNil, wgCons, wgTup, wAsgG, wOp, wUn, wCB, wC, wVar, wNil, wCons, wTup, wLst, wB, wAnd, wOr, wNot, wAndV, wOrV, wNotV, wIf, wChain, wAdd, wSub, wMul, wMod, wDiv, wPow, wCmp, wIsN, DL.isNon, wLen, wAbs, wMin2, wMax2, wInt, wFld, wFldO, wM1, wCallA, wCallB, wMake, wRaise, wNeg, wIxO, wLenO, wApp, wSetO, wFset, wPar, wParO, wAsgO, woLst, woCall, wFor, wiSeq, wiRg1, wiEnum, dEnds, outs, args, List.getElem?_cons_zero, List.getElem?_cons_succ, List.nil_append, List.cons_append, List.map_cons, List.map_nil, List.set_cons_zero, List.set_cons_succ, List.append_nil, List.replicate_zero, List.replicate_succ, Option.map_none, Option.map_some, List.length_cons, List.length_nil]
  refine ⟨by show 1 ≤ sizeLine; omega, .str (numT r), ha, by show 1 ≤ sizeLine; omega, ?_⟩
  show (-(2 ^ 63) ≤ (8 : Int) - (((t.map rowD).length : Nat) : Int)) ∧ (8 : Int) - (((t.map rowD).length : Nat) : Int) < 2 ^ 63 ∧ _
  rw [List.length_map, hn, rep_flat]
  refine ⟨by omega, by omega, by omega, by simp only [List.length_cons, List.length_nil, List.length_replicate]; omega, .str (numT r), ha, by show 1 ≤ sizeLine; omega, ?_⟩
  refine ⟨by simp only [List.length_cons, List.length_nil, List.length_append, List.length_replicate]; omega, ?_⟩
  have hw : ∀ w ∈ (machT t :: List.replicate (8 - t.length) (numT r)) ++ [numT r], w.length ≤ 1212 ∧ ∀ c ∈ TL.tl w, c < 128 := fun w hw => by
    have hl := ln.len
    rcases List.mem_append.mp hw with hw | hw
    · rcases List.mem_cons.mp hw with rfl | hw
      · exact ⟨hml, jn_asc (Ln.lines g)⟩
      · rw [(List.mem_replicate.mp hw).2]; exact ⟨by omega, ln.asc⟩
    · rw [List.mem_singleton.mp hw]; exact ⟨by omega, ln.asc⟩
  have hl : ((machT t :: List.replicate (8 - t.length) (numT r)) ++ [numT r]).length ≤ 10 := by
    simp only [List.length_append, List.length_cons, List.length_replicate, List.length_nil]; omega
  have l1 : ("\n" : Str).length = 1 := by decide
  have s1 := sum_le _ 1212 fun w h => (hw w h).1
  have s2 := join_len "\n" _ 1212 fun w h => (hw w h).1
  have s3 : ((machT t :: List.replicate (8 - t.length) (numT r)) ++ [numT r]).length * (1212 + 1) ≤ 10 * (1212 + 1) := Nat.mul_le_mul_right _ hl
  rw [l1] at s2
  refine wjoin (ws := (machT t :: List.replicate (8 - t.length) (numT r)) ++ [numT r]) (by simp) (by rw [l1]; omega) ⟨trivial, trivial, rfl, .str _, rfl, rfl, okS_ln (fun c hc => (mem_jn hc).elim (nl_asc c) fun ⟨w, h, hc⟩ => (hw w h).2 c hc) (by omega), by show 3 ≤ sizeLine; omega, ?_⟩
  exact list_say (said_of (nine_read g hr)) q
theorem eq_nil {neg : Bool} {Φ : D → Prop} (q : Φ (.bl !neg)) : wEq neg (.lst []) (.lst []) Φ := eq_same (p := .list []) rfl rfl q
theorem r_15 (g : Good t) (q : Δ.nx (RM C t l o s6 s7 s8 s9 s10 s11 s12 .un)) : mr_15 K C (RM C t l o s6 s7 s8 s9 s10 s11 s12 .un) Δ := by
  have hb := big
  simp only [mr_15, wSeq, wNext, wBreak, wCont, wAsg, wRet, wRetN, wDrop, wIfS, wRetO, wgName, wgNil, wgCons, wgTup, wAsgG, wOp, wUn, wCB, wC, wVar, wNil, wCons, wTup, wLst, wB, wAnd, wOr, wNot, wAndV, wOrV, wNotV, wIf, wChain, wAdd, wSub, wMul, wMod, wDiv, wPow, wCmp, wIsN, DL.isNon, wLen, wAbs, wMin2, wMax2, wInt, wFld, wFldO, wM1, wCallA, wCallB, wMake, wRaise, wNeg, wIxO, wLenO, wApp, wSetO, wFset, wPar, wParO, wAsgO, woLst, woCall, wFor, wiSeq, wiRg1, wiEnum, dEnds, outs, args, List.getElem?_cons_zero, List.getElem?_cons_succ, List.nil_append, List.cons_append, List.map_cons, List.map_nil, List.set_cons_zero, List.set_cons_succ, List.append_nil, List.replicate_zero, List.replicate_succ, Option.map_none, Option.map_some, List.length_cons, List.length_nil]
  refine ⟨by show 1 ≤ sizeLine; omega, by show 4 ≤ sizeLine; omega, ?_⟩
  show wLcL _ _ _ _ [.non, .int 5, .lst [.str (machT t)], .bl true] [] (RM C t l o s6 s7 s8 s9 s10 s11 s12 .un) _
  refine lc_none (R := fun ρ => ρ = RM C t l o s6 s7 s8 s9 s10 s11 s12 .un) _ _ rfl (fun d hd ρ' Ψ h1 h2 => ?_) fun ρ' h1 => ?_
  · subst h1
    simp only [wSeq, wNext, wBreak, wCont, wAsg, wRet, wRetN, wDrop, wIfS, wRetO, wgName, wgNil, wgCons, wgTup, wAsgG, wOp, wUn, wCB, wC, wVar, wNil, wCons, wTup, wLst, wB, wAnd, wOr, wNot, wAndV, wOrV, wNotV, wIf, wChain, wAdd, wSub, wMul, wMod, wDiv, wPow, wCmp, wIsN, DL.isNon, wLen, wAbs, wMin2, wMax2, wInt, wFld, wFldO, wM1, wCallA, wCallB, wMake, wRaise, wNeg, wIxO, wLenO, wApp, wSetO, wFset, wPar, wParO, wAsgO, woLst, woCall, wFor, wiSeq, wiRg1, wiEnum, dEnds, outs, args, List.getElem?_cons_zero, List.getElem?_cons_succ, List.nil_append, List.cons_append, List.map_cons, List.map_nil, List.set_cons_zero, List.set_cons_succ, List.append_nil, List.replicate_zero, List.replicate_succ, Option.map_none, Option.map_some, List.length_cons, List.length_nil]
    have : plain d ∧ short d ∧ readM d = .error 0 := by
      simp only [List.mem_cons, List.not_mem_nil, or_false] at hd
      rcases hd with rfl | rfl | rfl | rfl <;> exact ⟨rfl, trivial, rfl⟩
    refine ⟨trivial, trivial, rfl, d, rfl, this.1, this.2.1, by show 3 ≤ sizeLine; omega, ?_⟩
    exact list_say (said_of this.2.2) (h2 _ rfl)
  · subst h1
    exact ⟨by show 0 ≤ sizeLine; omega, eq_nil q⟩
def err1 (s : Str) : Bool := match readT s with
  | .error i => decide (i = 1)
  | _ => false
theorem err1_is {s : Str} (h : err1 s = true) : readT s = .error 1 := by
  unfold err1 at h
  split at h
  · rename_i i e
    rw [e, of_decide_eq_true h]
  · cases h
def okB (s : Str) : Bool := decide (s.length ≤ 100) && s.cps.all fun c => decide (c < 1114112)
theorem okB_is {s : Str} (h : okB s = true) : okS s := by
  unfold okB at h
  obtain ⟨a, b⟩ := (Bool.and_eq_true_iff.mp h)
  have a := of_decide_eq_true a
  rw [Array.all_eq_true'] at b
  exact ⟨by omega, fun c hc => of_decide_eq_true (b c hc)⟩
abbrev heads : List Str := ["", "states", "states 0", "states 13", "States 1\n0", "states 01\n0", "states -1"]
theorem heads_bad : ∀ s ∈ heads, err1 s = true ∧ okB s = true := by decide +kernel
theorem r_16 {l : Addr} {o : OD} {Ψ : D → Rho → Prop} (h : Δ.rt = Ψ) (q : Ψ (.bl true) (RM C t l o s6 s7 s8 s9 s10 s11 s12 .un)) : mr_16 K C (RM C t l o s6 s7 s8 s9 s10 s11 s12 .un) Δ := by
  have hb := big
  simp only [mr_16, wSeq, wNext, wBreak, wCont, wAsg, wRet, wRetN, wDrop, wIfS, wRetO, wgName, wgNil, wgCons, wgTup, wAsgG, wOp, wUn, wCB, wC, wVar, wNil, wCons, wTup, wLst, wB, wAnd, wOr, wNot, wAndV, wOrV, wNotV, wIf, wChain, wAdd, wSub, wMul, wMod, wDiv, wPow, wCmp, wIsN, DL.isNon, wLen, wAbs, wMin2, wMax2, wInt, wFld, wFldO, wM1, wCallA, wCallB, wMake, wRaise, wNeg, wIxO, wLenO, wApp, wSetO, wFset, wPar, wParO, wAsgO, woLst, woCall, wFor, wiSeq, wiRg1, wiEnum, dEnds, outs, args, List.getElem?_cons_zero, List.getElem?_cons_succ, List.nil_append, List.cons_append, List.map_cons, List.map_nil, List.set_cons_zero, List.set_cons_succ, List.append_nil, List.replicate_zero, List.replicate_succ, Option.map_none, Option.map_some, List.length_cons, List.length_nil]
  refine ⟨by show 7 ≤ sizeLine; omega, ?_⟩
  show wLcL _ _ _ _ (heads.map D.str) [] (RM C t l o s6 s7 s8 s9 s10 s11 s12 .un) _
  refine lc_none (R := fun ρ => ρ = RM C t l o s6 s7 s8 s9 s10 s11 s12 .un) _ _ rfl (fun d hd ρ' Φ h1 h2 => ?_) fun ρ' h1 => ?_
  · subst h1
    obtain ⟨s, hs, rfl⟩ := List.mem_map.mp hd
    have hh := heads_bad s hs
    simp only [wSeq, wNext, wBreak, wCont, wAsg, wRet, wRetN, wDrop, wIfS, wRetO, wgName, wgNil, wgCons, wgTup, wAsgG, wOp, wUn, wCB, wC, wVar, wNil, wCons, wTup, wLst, wB, wAnd, wOr, wNot, wAndV, wOrV, wNotV, wIf, wChain, wAdd, wSub, wMul, wMod, wDiv, wPow, wCmp, wIsN, DL.isNon, wLen, wAbs, wMin2, wMax2, wInt, wFld, wFldO, wM1, wCallA, wCallB, wMake, wRaise, wNeg, wIxO, wLenO, wApp, wSetO, wFset, wPar, wParO, wAsgO, woLst, woCall, wFor, wiSeq, wiRg1, wiEnum, dEnds, outs, args, List.getElem?_cons_zero, List.getElem?_cons_succ, List.nil_append, List.cons_append, List.map_cons, List.map_nil, List.set_cons_zero, List.set_cons_succ, List.append_nil, List.replicate_zero, List.replicate_succ, Option.map_none, Option.map_some, List.length_cons, List.length_nil]
    refine ⟨trivial, trivial, rfl, .str s, rfl, rfl, okB_is hh.2, by show 3 ≤ sizeLine; omega, ?_⟩
    exact list_say (said_of (err1_is hh.1)) (h2 _ rfl)
  · subst h1
    exact ⟨by show 0 ≤ sizeLine; omega, eq_nil (by rw [h]; exact q)⟩
end
end K04
set_option Elab.async false
set_option autoImplicit false
set_option linter.all false
set_option maxRecDepth 100000
set_option maxHeartbeats 3900000
namespace K04
open DL L2 PyProof.Rows PySem PySem.Spec
section
variable {K : Fg} {C : Cs}
theorem r_1 {t : Tb} {l : Addr} {o : OD} {Δ : DE} (g : Good t) (q : ∀ s9 s10 : Sl, Δ.nx [.own l o, .val (tbsD t), .val (mach C t), .val (manyD t), .val (linD t), .un, .un, .un, .un, .un, s9, s10, .un, .un]) :
    mr_1 K C [.own l o, .val (tbsD t), .val (mach C t), .val (manyD t), .un, .un, .un, .un, .un, .un, .un, .un, .un, .un] Δ := by
  refine asgI (own_lines g (rest := [.un, .un, .un, .un, .un, .un, .un, .un, .un]) rfl fun ρ' h => ?_)
  obtain ⟨s9, s10, rfl⟩ := h
  exact q _ _
theorem m_law_machine_right : Sem0 2 14 (sp_law_machine_right C) (x_law_machine_right K C) := by
  rintro hl ds Ψ Ξ - ⟨o, t, h, ho, g, rfl, q⟩
  match hl, h with
  | some (l, o'), h =>
    cases (Option.some.inj h : o' = o)
    refine seqI (w := mr_0 K C) (r_0 g ?_)
    refine seqI (w := mr_1 K C) (r_1 g fun s10 s11 => ?_)
    refine seqI (w := mr_2 K C) (r_2 g ?_)
    refine seqI (w := mr_3 K C) (r_3 g ?_)
    refine seqI (w := mr_4 K C) (r_4 g ?_)
    refine seqI (w := mr_5 K C) (r_5 g ?_)
    refine seqI (w := mr_6 K C) (r_6 g ?_)
    refine seqI (w := mr_7 K C) (r_7 g ho fun a o1 ha h1 => ?_)
    refine seqI (w := mr_8 K C) (r_8 ha ?_)
    obtain ⟨us, k, lw, e0, e1⟩ := line_Lw g ha
    refine seqI (w := mr_9 K C) (r_9 lw ?_)
    refine seqI (w := mr_10 K C) (r_10 lw fun xs hx hB => ?_)
    refine seqI (w := mr_11 K C) (r_11 lw hx hB fun ys hne hy hB2 => ?_)
    refine seqI (w := mr_12 K C) (r_12 g h1 ha hne hy hB2 e0 e1 fun o2 h2 => ?_)
    refine seqI (w := mr_13 K C) (r_13 g ?_)
    refine seqI (w := mr_14 K C) (r_14 g ?_)
    refine seqI (w := mr_15 K C) (r_15 g ?_)
    refine r_16 (K := K) (C := C) rfl ?_
    exact ⟨o2, rfl, q o2 h2⟩
end
end K04
set_option Elab.async false
set_option autoImplicit false
set_option linter.all false
set_option maxRecDepth 100000
set_option maxHeartbeats 3900000
namespace K04
open DL L2 PyProof.Rows PySem PySem.Spec
section
abbrev lr_0 (K : Fg) (C : Cs) : WS := (wAsgG (wgTup 2 (wgCons (wgName 2) (wgCons (wgName 3) wgNil))) (wTup (wCons (wMake C.Machine 1 0 (sp_Machine_init C) (fun ds _ => ds) (wCons (wVar 1) wNil) wNil) (wCons (wCB wLen (wCons (wVar 1) wNil)) wNil))))
abbrev lr_1 (K : Fg) (C : Cs) : WS := (wAsg 4 (wCB wLstOf (wCons (wCallB 0 2 (sp_law_log C) (wCons (wVar 1) (wCons (wC (.int 7)) wNil))) wNil)))
abbrev lr_2 (K : Fg) (C : Cs) : WS := (wAsg 5 (wLc (wiSeq (wVar 4)) (wgName 10) wTrue (wCB wStr (wCons (wVar 10) wNil)) [10]))
abbrev lr_3 (K : Fg) (C : Cs) : WS := (wAsg 6 (wIf (wB (wOp (wEq true) (wVar 5) (wLst wNil))) (wM1 wJoin (wC (.str " ")) (wVar 5)) (wC (.str "-"))))
abbrev lr_4 (K : Fg) (C : Cs) : WS := (wIfS (wOr (wB (wOp (wEq true) (wCB wRepr (wCons (wCallA 2 0 (sp_log_text C) (fun ds _ => ds) (wCons (wVar 2) (wCons (wVar 4) wNil)) wNil) wNil)) (wCB wRepr (wCons (wVar 6) wNil)))) (wB (wOp (wEq true) (wCallA 0 2 (sp_log_text C) pm_10 wNil (wCons (wCB wTupOf (wCons (wVar 4) wNil)) (wCons (wVar 2) wNil))) (wVar 6)))) (wRet (wC (.bl false))) wNext)
abbrev lr_5 (K : Fg) (C : Cs) : WS := (wIfS (wOr (wB (wOp (wEq true) (wCB wRepr (wCons (wCallA 2 0 (sp_law_reads_log C) (fun ds _ => ds) (wCons (wVar 2) (wCons (wVar 6) wNil)) wNil) wNil)) (wCB wRepr (wCons (wCB wTupOf (wCons (wVar 4) wNil)) wNil)))) (wB (wOp (wEq true) (wCallA 0 2 (sp_read_log C) pm_10 wNil (wCons (wVar 6) (wCons (wVar 2) wNil))) (wCB wTupOf (wCons (wVar 4) wNil))))) (wRet (wC (.bl false))) wNext)
abbrev lr_6 (K : Fg) (C : Cs) : WS := (wAsg 7 (wCallB 0 1 (sp_law_take C) (wCons (wOp wAdd (wCB wLen (wCons (wVar 5) wNil)) (wC (.int 1))) wNil)))
abbrev lr_7 (K : Fg) (C : Cs) : WS := (wAsg 8 (wCallB 0 1 (sp_law_pick C) (wCons (wLst (wCons (wCB wStr (wCons (wVar 3) wNil)) (wCons (wC (.str "-")) (wCons (wC (.str "x")) (wCons (wC (.str "")) (wCons (wC (.str "00")) (wCons (wC (.str "-1")) (wCons (wC (.str "1?")) (wCons (wC (.str "a")) wNil))))))))) wNil)))
abbrev lr_8 (K : Fg) (C : Cs) : WS := (wIfS (wB (wOp (wEq true) (wCallA 2 0 (sp_law_reads_log C) (fun ds _ => ds) (wCons (wVar 2) (wCons (wM1 wJoin (wC (.str " ")) (wOp wAdd (wOp wAdd (wOp wAdd (wSl (wVar 5) woNone (woSome (wVar 7))) (wLst (wCons (wVar 8) wNil))) (wSl (wVar 5) (woSome (wVar 7)) woNone)) (wLst (wCons (wC (.str "?")) wNil)))) wNil)) wNil) (wTup (wCons (wC (.str "text")) (wCons (wVar 7) (wCons (wC (.bl true)) wNil)))))) (wRet (wC (.bl false))) wNext)
abbrev lr_9 (K : Fg) (C : Cs) : WS := (wIfS (wB (wOp (wEq true) (wLc (wiSeq (wTup (wCons (wC .non) (wCons (wC (.int 0)) (wCons (wLst wNil) (wCons (wLst (wCons (wC (.str "0")) wNil)) wNil)))))) (wgName 11) (wB (wOp (wEq true) (wCallA 2 0 (sp_law_reads_log C) (fun ds _ => ds) (wCons (wVar 2) (wCons (wVar 11) wNil)) wNil) (wTup (wCons (wC (.str "text")) (wCons (wC (.int 0)) (wCons (wC (.bl true)) wNil)))))) (wVar 11) [11]) (wLst wNil))) (wRet (wC (.bl false))) wNext)
abbrev lr_10 (K : Fg) (C : Cs) : WS := (wTry K (.ref C.BadLog) 9 (wDrop (wCallA 2 0 (sp_log_text C) (fun ds _ => ds) (wCons (wVar 2) (wCons (wOp wAdd (wVar 4) (wLst (wCons (wVar 3) wNil))) wNil)) wNil)) (fun a cls d => (wRet (wOp (wEq false) (wXf a cls d C.BadLog "at" (wVar 9)) (wCB wLen (wCons (wVar 4) wNil))))))
abbrev lr_11 (K : Fg) (C : Cs) : WS := (wRet (wC (.bl false)))
variable {K : Fg} {C : Cs}
theorem shown_all : ∀ ns : List Nat, PyData.shownAll (ns.map fun n => PyData.int (n : Nat)) = ns.map dig
  | [] => rfl
  | n :: ns => by
    show PyData.shown (.int (n : Nat)) :: PyData.shownAll (ns.map fun n => PyData.int (n : Nat)) = dig n :: ns.map dig
    rw [shown_all ns]
    rfl
abbrev rowP (ns : List Nat) : PyData := .tuple (ns.map fun n => .int (n : Nat))
def rowS (ns : List Nat) : Str := tupleText (ns.map dig)
theorem row_shown (ns : List Nat) : (rowP ns).shown = rowS ns := by
  show tupleText (PyData.shownAll (ns.map fun n => PyData.int (n : Nat))) = _
  rw [shown_all]
  rfl
theorem rowS_ok {ns : List Nat} (h : ∀ n ∈ ns, n < 100) (hl : ns.length ≤ 1000) : okS (rowS ns) := by
  have a := join_len ", " (ns.map dig) 2 fun w hw => by
    obtain ⟨n, hn, rfl⟩ := List.mem_map.mp hw
    exact (dig_len n (h n hn)).2
  have l2 : (", " : Str).length = 2 := by decide
  have l1 : ("(" : Str).length = 1 := by decide
  rw [l2, List.length_map] at a
  have hA : ∀ c ∈ TL.tl (Txt.join ", " (ns.map dig)), c < 128 := fun c hc => (mem_jn hc).elim ((by decide +kernel : ∀ c ∈ TL.tl (", " : Str), c < 128) c) fun ⟨w, hw, hc⟩ => by
    obtain ⟨n, hn, rfl⟩ := List.mem_map.mp hw
    exact dig_asc n (h n hn) c hc
  have e : rowS ns = ("(" : Str) ++ Txt.join ", " (ns.map dig) ++ (if (ns.map dig).length == 1 then ",)" else ")" : String) := by
    rw [TL.join_eq]; rfl
  have tail : ∀ b : Bool, (((if b then ",)" else ")" : String) : Str)).length ≤ 2 ∧ ∀ c ∈ TL.tl ((if b then ",)" else ")" : String) : Str), c < 128 := by decide +kernel
  have tb := tail ((ns.map dig).length == 1)
  refine okS_ln (fun c hc => ?_) ?_
  · rw [e, TL.tl_append, TL.tl_append] at hc
    (rcases List.mem_append.mp hc with hc | hc)
    · rcases List.mem_append.mp hc with hc | hc
      · exact (by decide +kernel : ∀ c ∈ TL.tl ("(" : Str), c < 128) c hc
      · exact hA c hc
    · exact tb.2 c hc
  · rw [e, app_len, app_len, l1]
    have := tb.1
    omega
theorem row_can (ns : List Nat) (h : ∀ n ∈ ns, n < 100) : (rowP ns).showable = true ∧ (rowP ns).depth ≤ 64 := by
  have a : ∀ ns : List Nat, (∀ n ∈ ns, n < 100) → PyData.showableAll (ns.map fun n => PyData.int (n : Nat)) = true := fun ns => by induction ns with
    | nil => intro _; rfl
    | cons n ns ih =>
      intro h
      have hn := h n List.mem_cons_self
      have : (n : Int).natAbs.log2 < 1920 := by
        have e : (n : Int).natAbs = n := rfl
        rw [e]
        have : n.log2 ≤ n := Nat.log2_le_self n
        omega
      simp only [List.map_cons, PyData.showableAll, PyData.showable, ih fun k hk => h k (List.mem_cons_of_mem _ hk), decide_eq_true this, Bool.and_self]
  have b := (shaped_row ns).2
  refine ⟨?_, by have : (rowP ns).depth ≤ 1 := b; omega⟩
  show PyData.showableAll _ = true
  exact a ns h
theorem w_row {ns : List Nat} (h : ∀ n ∈ ns, n < 100) (hl : ns.length ≤ 1000) {Φ : D → Prop} (q : Φ (.str (rowS ns))) : wRepr [rowD ns] Φ := by
  have hb := big
  have o := (rowS_ok h hl).1
  refine ⟨rowD ns, rowP ns, rfl, py_row ns, (row_can ns h).1, (row_can ns h).2, ?_, ?_⟩
  · rw [row_shown]; omega
  · rw [row_shown]; exact q
abbrev mD (t : Tb) : D := .int ((t.length : Nat) : Int)
abbrev wsD (ns : List Nat) : D := .lst ((ns.map dig).map D.str)
variable {t : Tb} {l : Addr} {o : OD} {Δ : DE} {s5 s6 s7 s8 s9 s10 s11 : Sl} {ns : List Nat}
abbrev RL (C : Cs) (t : Tb) (l : Addr) (o : OD) (ns : List Nat) (s7 s8 s9 s10 s11 : Sl) : Rho := [.own l o, .val (tbsD t), .val (mach C t), .val (mD t), .val (.lst (numsD ns)), .val (wsD ns), .val (.str (logT ns)), s7, s8, s9, s10, s11]
theorem l_0 (g : Good t) (q : Δ.nx [.own l o, .val (tbsD t), .val (mach C t), .val (mD t), .un, .un, .un, .un, .un, .un, .un, .un]) :
    lr_0 K C [.own l o, .val (tbsD t), .un, .un, .un, .un, .un, .un, .un, .un, .un, .un] Δ := by
  have hb := big
  simp only [lr_0, wSeq, wNext, wBreak, wCont, wAsg, wRet, wRetN, wDrop, wIfS, wRetO, wgName, wgNil, wgCons, wgTup, wAsgG, wOp, wUn, wCB, wC, wVar, wNil, wCons, wTup, wLst, wB, wAnd, wOr, wNot, wAndV, wOrV, wNotV, wIf, wChain, wAdd, wSub, wMul, wMod, wDiv, wPow, wCmp, wIsN, DL.isNon, wLen, wAbs, wMin2, wMax2, wInt, wFld, wFldO, wM1, wCallA, wCallB, wMake, wRaise, wNeg, wIxO, wLenO, wApp, wSetO, wFset, wPar, wParO, wAsgO, woLst, woCall, wFor, wiSeq, wiRg1, wiEnum, dEnds, outs, args, List.getElem?_cons_zero, List.getElem?_cons_succ, List.nil_append, List.cons_append, List.map_cons, List.map_nil, List.set_cons_zero, List.set_cons_succ, List.append_nil, List.replicate_zero, List.replicate_succ, Option.map_none, Option.map_some, List.length_cons, List.length_nil]
  refine ⟨trivial, trivial, mk_good g rfl ⟨rfl, _, _, rfl, ?_⟩⟩
  show 0 + 1 + 1 ≤ sizeLine ∧ _
  refine ⟨by omega, trivial, trivial, ?_⟩
  have em : ((t.map rowD).length : Nat) = t.length := List.length_map ..
  show Δ.nx [.own l o, .val (tbsD t), .val (mach C t), .val (.int ((t.map rowD).length : Nat)), .un, .un, .un, .un, .un, .un, .un, .un]
  rw [em]
  exact q
theorem l_1 (g : Good t) (ho : GoodB o) (q : ∀ ns o', (∀ n ∈ ns, n < t.length) → ns.length ≤ 7 → GoodB o' → Δ.nx [.own l o', .val (tbsD t), .val (mach C t), .val (mD t), .val (.lst (numsD ns)), s5, s6, s7, s8, s9, s10, s11]) :
    lr_1 K C [.own l o, .val (tbsD t), .val (mach C t), .val (mD t), .un, s5, s6, s7, s8, s9, s10, s11] Δ := by
  simp only [lr_1, wSeq, wNext, wBreak, wCont, wAsg, wRet, wRetN, wDrop, wIfS, wRetO, wgName, wgNil, wgCons, wgTup, wAsgG, wOp, wUn, wCB, wC, wVar, wNil, wCons, wTup, wLst, wB, wAnd, wOr, wNot, wAndV, wOrV, wNotV, wIf, wChain, wAdd, wSub, wMul, wMod, wDiv, wPow, wCmp, wIsN, DL.isNon, wLen, wAbs, wMin2, wMax2, wInt, wFld, wFldO, wM1, wCallA, wCallB, wMake, wRaise, wNeg, wIxO, wLenO, wApp, wSetO, wFset, wPar, wParO, wAsgO, woLst, woCall, wFor, wiSeq, wiRg1, wiEnum, dEnds, outs, args, List.getElem?_cons_zero, List.getElem?_cons_succ, List.nil_append, List.cons_append, List.map_cons, List.map_nil, List.set_cons_zero, List.set_cons_succ, List.append_nil, List.replicate_zero, List.replicate_succ, Option.map_none, Option.map_some, List.length_cons, List.length_nil]
  exact ⟨⟨l, _, rfl⟩, trivial, o, t, rfl, ho, g, rfl, fun ns o' h1 h2 h3 => ⟨o', rfl, q ns o' h1 h2 h3⟩⟩
theorem l_2 (hn : ∀ n ∈ ns, n < 100) (hl : ns.length ≤ 7) (q : Δ.nx [.own l o, .val (tbsD t), .val (mach C t), .val (mD t), .val (.lst (numsD ns)), .val (wsD ns), s6, s7, s8, s9, .un, s11]) :
    lr_2 K C [.own l o, .val (tbsD t), .val (mach C t), .val (mD t), .val (.lst (numsD ns)), s5, s6, s7, s8, s9, .un, s11] Δ := by
  have hb := big
  simp only [lr_2, wSeq, wNext, wBreak, wCont, wAsg, wRet, wRetN, wDrop, wIfS, wRetO, wgName, wgNil, wgCons, wgTup, wAsgG, wOp, wUn, wCB, wC, wVar, wNil, wCons, wTup, wLst, wB, wAnd, wOr, wNot, wAndV, wOrV, wNotV, wIf, wChain, wAdd, wSub, wMul, wMod, wDiv, wPow, wCmp, wIsN, DL.isNon, wLen, wAbs, wMin2, wMax2, wInt, wFld, wFldO, wM1, wCallA, wCallB, wMake, wRaise, wNeg, wIxO, wLenO, wApp, wSetO, wFset, wPar, wParO, wAsgO, woLst, woCall, wFor, wiSeq, wiRg1, wiEnum, dEnds, outs, args, List.getElem?_cons_zero, List.getElem?_cons_succ, List.nil_append, List.cons_append, List.map_cons, List.map_nil, List.set_cons_zero, List.set_cons_succ, List.append_nil, List.replicate_zero, List.replicate_succ, Option.map_none, Option.map_some, List.length_cons, List.length_nil]
  show wLcL _ _ _ _ (numsD ns) [] [.own l o, .val (tbsD t), .val (mach C t), .val (mD t), .val (.lst (numsD ns)), s5, s6, s7, s8, s9, .un, s11] _
  refine lc_map (R := fun ρ => ρ = [.own l o, .val (tbsD t), .val (mach C t), .val (mD t), .val (.lst (numsD ns)), s5, s6, s7, s8, s9, .un, s11]) (fun d => match d with | .int i => .str ((toString i : String) : Str) | d => d) (numsD ns) _ rfl (by unfold numsD; rw [List.length_map]; omega) (fun x hx ρ' Ψ h1 h2 => ?_) fun ρ' h1 => ?_
  · subst h1
    obtain ⟨n, hm, rfl⟩ := List.mem_map.mp hx
    simp only [wSeq, wNext, wBreak, wCont, wAsg, wRet, wRetN, wDrop, wIfS, wRetO, wgName, wgNil, wgCons, wgTup, wAsgG, wOp, wUn, wCB, wC, wVar, wNil, wCons, wTup, wLst, wB, wAnd, wOr, wNot, wAndV, wOrV, wNotV, wIf, wChain, wAdd, wSub, wMul, wMod, wDiv, wPow, wCmp, wIsN, DL.isNon, wLen, wAbs, wMin2, wMax2, wInt, wFld, wFldO, wM1, wCallA, wCallB, wMake, wRaise, wNeg, wIxO, wLenO, wApp, wSetO, wFset, wPar, wParO, wAsgO, woLst, woCall, wFor, wiSeq, wiRg1, wiEnum, dEnds, outs, args, List.getElem?_cons_zero, List.getElem?_cons_succ, List.nil_append, List.cons_append, List.map_cons, List.map_nil, List.set_cons_zero, List.set_cons_succ, List.append_nil, List.replicate_zero, List.replicate_succ, Option.map_none, Option.map_some, List.length_cons, List.length_nil]
    refine wstr (hn n hm) ?_
    exact h2 _ rfl
  · subst h1
    rw [numsD_map ns _ dig fun n _ => rfl]
    exact q
theorem py_strs : ∀ ws : List Str, pyOf (.lst (ws.map D.str)) = some (.list (ws.map PyData.str)) := fun ws => by
  have : ∀ ws : List Str, pyOfL (ws.map D.str) = some (ws.map PyData.str) := fun ws => by
    induction ws with
    | nil => rfl
    | cons w ws ih => simp [pyOfL, pyOf, ih]
  simp [pyOf, this]
theorem eq_ws {ws : List Str} {Φ : D → Prop} (h : ∀ w ∈ ws, okS w) (q : Φ (.bl (!decide (ws = [])))) : wEq true (.lst (ws.map D.str)) (.lst []) Φ := by
  have a : ∀ ws : List Str, (∀ w ∈ ws, okS w) → PyData.canLayAll0 (ws.map PyData.str) = true := fun ws => by induction ws with
    | nil => intro _; rfl
    | cons w ws ih =>
      intro h
      have : PyData.strOk w = true := by
        unfold PyData.strOk
        rw [Array.all_eq_true']
        exact fun c hc => decide_eq_true ((h w List.mem_cons_self).2 c hc)
      simp only [List.map_cons, PyData.canLayAll0, PyData.canLay0, this, ih fun k hk => h k (List.mem_cons_of_mem _ hk), Bool.and_self]
  have b : ∀ ws : List Str, PyData.depthAll (ws.map PyData.str) = 0 := fun ws => by induction ws with
    | nil => rfl
    | cons n r ih => simp [PyData.depthAll, PyData.depth, ih]
  refine ⟨.list (ws.map PyData.str), .list [], py_strs ws, rfl, by simp [SeqAt.shaped, PyData.canLay0, PyData.depth, a ws h, b], rfl, ?_⟩
  cases ws with
  | nil => simpa [PyData.eqv, PyData.eqvAll] using q
  | cons w ws => simpa [PyData.eqv, PyData.eqvAll] using q
theorem numT_asc (hn : ∀ n ∈ ns, n < 100) : ∀ c ∈ TL.tl (numT ns), c < 128 := fun c hc => (mem_jn hc).elim (sp_ok.2 c) fun ⟨w, hw, hc⟩ => by
  obtain ⟨n, h, rfl⟩ := List.mem_map.mp hw
  exact dig_asc n (hn n h) c hc
theorem log_asc (hn : ∀ n ∈ ns, n < 100) (hl : ns.length ≤ 7) : (∀ c ∈ TL.tl (logT ns), c < 128) ∧ (logT ns).length ≤ 21 := by
  unfold logT
  split
  · decide +kernel
  · exact ⟨numT_asc hn, by have := numT_len hn; omega⟩
theorem log_ok (hn : ∀ n ∈ ns, n < 100) (hl : ns.length ≤ 7) : okS (logT ns) ∧ okS (reprText (logT ns)) := by
  obtain ⟨a, b⟩ := log_asc hn hl
  exact ⟨okS_ln a (by omega), repr_ok a (by omega)⟩
theorem dig_okS {n : Nat} (h : n < 100) : okS (dig n) := okS_ln (dig_asc n h) (by have := dig_len n h; omega)
theorem l_3 (hn : ∀ n ∈ ns, n < 100) (hl : ns.length ≤ 7) (q : Δ.nx (RL C t l o ns s7 s8 s9 s10 s11)) :
    lr_3 K C [.own l o, .val (tbsD t), .val (mach C t), .val (mD t), .val (.lst (numsD ns)), .val (wsD ns), s6, s7, s8, s9, s10, s11] Δ := by
  have hb := big
  simp only [lr_3, wSeq, wNext, wBreak, wCont, wAsg, wRet, wRetN, wDrop, wIfS, wRetO, wgName, wgNil, wgCons, wgTup, wAsgG, wOp, wUn, wCB, wC, wVar, wNil, wCons, wTup, wLst, wB, wAnd, wOr, wNot, wAndV, wOrV, wNotV, wIf, wChain, wAdd, wSub, wMul, wMod, wDiv, wPow, wCmp, wIsN, DL.isNon, wLen, wAbs, wMin2, wMax2, wInt, wFld, wFldO, wM1, wCallA, wCallB, wMake, wRaise, wNeg, wIxO, wLenO, wApp, wSetO, wFset, wPar, wParO, wAsgO, woLst, woCall, wFor, wiSeq, wiRg1, wiEnum, dEnds, outs, args, List.getElem?_cons_zero, List.getElem?_cons_succ, List.nil_append, List.cons_append, List.map_cons, List.map_nil, List.set_cons_zero, List.set_cons_succ, List.append_nil, List.replicate_zero, List.replicate_succ, Option.map_none, Option.map_some, List.length_cons, List.length_nil]
  refine ⟨by omega, eq_ws (fun w hw => ?_) ?_⟩
  · obtain ⟨n, h, rfl⟩ := List.mem_map.mp hw
    exact dig_okS (hn n h)
  have q : Δ.nx [.own l o, .val (tbsD t), .val (mach C t), .val (mD t), .val (.lst (numsD ns)), .val (wsD ns), .val (.str (if ns = [] then "-" else numT ns)), s7, s8, s9, s10, s11] := q
  by_cases h0 : ns = []
  · subst h0
    exact q
  · rw [if_neg h0] at q
    rw [decide_eq_false (by simpa using h0)]
    simp only [Bool.not_false, ↓reduceIte]
    refine wjoin rfl ?_ q
    have h1 : ((ns.map dig).map (·.length)).sum ≤ (ns.map dig).length * 2 := sum_le _ 2 fun w hw => by
      obtain ⟨n, h, rfl⟩ := List.mem_map.mp hw
      exact (dig_len n (hn n h)).2
    rw [List.length_map] at h1 ⊢
    rw [one_len]
    omega
theorem l_4 (g : Good t) (hn : ∀ n ∈ ns, n < t.length) (hl : ns.length ≤ 7) (q : Δ.nx (RL C t l o ns s7 s8 s9 s10 s11)) : lr_4 K C (RL C t l o ns s7 s8 s9 s10 s11) Δ := by
  have h8 := g.le
  have hn' : ∀ n ∈ ns, n < 100 := fun n h => by have := hn n h; omega
  have ok := log_ok hn' hl
  simp only [lr_4, wSeq, wNext, wBreak, wCont, wAsg, wRet, wRetN, wDrop, wIfS, wRetO, wgName, wgNil, wgCons, wgTup, wAsgG, wOp, wUn, wCB, wC, wVar, wNil, wCons, wTup, wLst, wB, wAnd, wOr, wNot, wAndV, wOrV, wNotV, wIf, wChain, wAdd, wSub, wMul, wMod, wDiv, wPow, wCmp, wIsN, DL.isNon, wLen, wAbs, wMin2, wMax2, wInt, wFld, wFldO, wM1, wCallA, wCallB, wMake, wRaise, wNeg, wIxO, wLenO, wApp, wSetO, wFset, wPar, wParO, wAsgO, woLst, woCall, wFor, wiSeq, wiRg1, wiEnum, dEnds, outs, args, List.getElem?_cons_zero, List.getElem?_cons_succ, List.nil_append, List.cons_append, List.map_cons, List.map_nil, List.set_cons_zero, List.set_cons_succ, List.append_nil, List.replicate_zero, List.replicate_succ, Option.map_none, Option.map_some, List.length_cons, List.length_nil]
  refine ⟨trivial, trivial, rfl, t, _, g, rfl, .inl ⟨ns, rfl, hn, by omega, w_repr ok.2 (w_repr ok.2 (eq_strs ok.2 ok.2 ?_))⟩⟩
  simp only [decide_true, Bool.not_true, Bool.false_eq_true, ↓reduceIte]
  refine ⟨trivial, trivial, rfl, t, _, g, rfl, .inl ⟨ns, rfl, hn, by omega, eq_strs ok.1 ok.1 ?_⟩⟩
  simp only [decide_true, Bool.not_true, Bool.false_eq_true, ↓reduceIte]
  exact q
theorem readWs_dig {m : Nat} (hm : m ≤ 100) : ∀ (ns : List Nat) (i : Nat), (∀ n ∈ ns, n < m) → i + ns.length ≤ 10000 → readWs m (ns.map dig) i = .ok ns
  | [], _, _, _ => rfl
  | n :: ns, i, h, hl => by
    simp only [List.length_cons] at hl
    rw [List.map_cons]
    unfold readWs
    rw [numW_dig (h n List.mem_cons_self) hm, readWs_dig hm ns (i + 1) (fun k hk => h k (List.mem_cons_of_mem _ hk)) (by omega)]
    simp only
    rw [if_neg (by omega)]
theorem readWs_bad {m : Nat} (hm : m ≤ 100) {w : Str} {rest : List Str} (hw : numW m w = none) : ∀ (ns : List Nat) (i : Nat), (∀ n ∈ ns, n < m) → i + ns.length ≤ 10000 → readWs m (ns.map dig ++ w :: rest) i = .error (i + ns.length : Nat)
  | [], i, _, _ => by
    show readWs m (w :: rest) i = _
    unfold readWs
    rw [hw]
    rfl
  | n :: ns, i, h, hl => by
    simp only [List.length_cons] at hl
    rw [List.map_cons, List.cons_append]
    unfold readWs
    rw [numW_dig (h n List.mem_cons_self) hm, readWs_bad hm hw ns (i + 1) (fun k hk => h k (List.mem_cons_of_mem _ hk)) (by omega)]
    simp only
    rw [if_neg (by omega), List.length_cons]
    have : i + 1 + ns.length = i + (ns.length + 1) := by omega
    rw [this]
theorem readL_ok {m : Nat} (hm : m ≤ 8) (hn : ∀ n ∈ ns, n < m) (hl : ns.length ≤ 7) : readL m (.str (logT ns)) = .ok ns := by
  have hn' : ∀ n ∈ ns, n < 100 := fun n h => by have := hn n h; omega
  show (if logT ns = "-" then _ else readWs m (Txt.split (logT ns) " ") 0) = _
  unfold logT
  by_cases h0 : ns = []
  · subst h0; rfl
  · rw [if_neg h0]
    have hs := numT_split h0 hn'
    have hne : numT ns ≠ "-" := fun z => by
      rw [z] at hs
      have e : Txt.split ("-" : Str) " " = [("-" : Str)] := by decide +kernel
      rw [e] at hs
      have h1 := congrArg List.length hs
      rw [List.length_map] at h1
      obtain ⟨n, rfl⟩ := List.length_eq_one_iff.mp h1.symm
      have hd := hn n (by simp)
      exact bads.2.2.2.2.2.1 n (by omega) (by simpa using hs.symm)
    rw [if_neg hne, hs]
    exact readWs_dig (by omega) ns 0 hn (by omega)
theorem l_5 (g : Good t) (hn : ∀ n ∈ ns, n < t.length) (hl : ns.length ≤ 7) (q : Δ.nx (RL C t l o ns s7 s8 s9 s10 s11)) : lr_5 K C (RL C t l o ns s7 s8 s9 s10 s11) Δ := by
  have h8 := g.le
  have hn' : ∀ n ∈ ns, n < 100 := fun n h => by have := hn n h; omega
  have ok := (log_ok hn' hl).1
  have ro := rowS_ok hn' (by omega : ns.length ≤ 1000)
  have e := readL_ok h8 hn hl
  simp only [lr_5, wTupOf, wSeq, wNext, wBreak, wCont, wAsg, wRet, wRetN, wDrop, wIfS, wRetO, wgName, wgNil, wgCons, wgTup, wAsgG, wOp, wUn, wCB, wC, wVar, wNil, wCons, wTup, wLst, wB, wAnd, wOr, wNot, wAndV, wOrV, wNotV, wIf, wChain, wAdd, wSub, wMul, wMod, wDiv, wPow, wCmp, wIsN, DL.isNon, wLen, wAbs, wMin2, wMax2, wInt, wFld, wFldO, wM1, wCallA, wCallB, wMake, wRaise, wNeg, wIxO, wLenO, wApp, wSetO, wFset, wPar, wParO, wAsgO, woLst, woCall, wFor, wiSeq, wiRg1, wiEnum, dEnds, outs, args, List.getElem?_cons_zero, List.getElem?_cons_succ, List.nil_append, List.cons_append, List.map_cons, List.map_nil, List.set_cons_zero, List.set_cons_succ, List.append_nil, List.replicate_zero, List.replicate_succ, Option.map_none, Option.map_some, List.length_cons, List.length_nil]
  refine ⟨trivial, trivial, rfl, t, _, g, rfl, rfl, ok, ?_⟩
  rw [e]
  refine w_row hn' (by omega) ?_
  show wRepr [rowD ns] _
  refine w_row hn' (by omega) (eq_strs ro ro ?_)
  simp only [decide_true, Bool.not_true, Bool.false_eq_true, ↓reduceIte]
  refine ⟨trivial, trivial, rfl, t, _, g, rfl, rfl, ok, ?_⟩
  rw [e]
  exact eq_same (py_row ns) (shaped_row ns).1 q
theorem l_6 (ho : GoodB o) (hl : ns.length ≤ 7) (q : ∀ (a : Nat) o', a ≤ ns.length → GoodB o' → Δ.nx (RL C t l o' ns (.val (.int a)) s8 s9 s10 s11)) : lr_6 K C (RL C t l o ns s7 s8 s9 s10 s11) Δ := by
  simp only [lr_6, wSeq, wNext, wBreak, wCont, wAsg, wRet, wRetN, wDrop, wIfS, wRetO, wgName, wgNil, wgCons, wgTup, wAsgG, wOp, wUn, wCB, wC, wVar, wNil, wCons, wTup, wLst, wB, wAnd, wOr, wNot, wAndV, wOrV, wNotV, wIf, wChain, wAdd, wSub, wMul, wMod, wDiv, wPow, wCmp, wIsN, DL.isNon, wLen, wAbs, wMin2, wMax2, wInt, wFld, wFldO, wM1, wCallA, wCallB, wMake, wRaise, wNeg, wIxO, wLenO, wApp, wSetO, wFset, wPar, wParO, wAsgO, woLst, woCall, wFor, wiSeq, wiRg1, wiEnum, dEnds, outs, args, List.getElem?_cons_zero, List.getElem?_cons_succ, List.nil_append, List.cons_append, List.map_cons, List.map_nil, List.set_cons_zero, List.set_cons_succ, List.append_nil, List.replicate_zero, List.replicate_succ, Option.map_none, Option.map_some, List.length_cons, List.length_nil, List.length_map]
  refine ⟨⟨l, _, rfl⟩, trivial, o, ((ns.length : Nat) : Int) + 1, rfl, ho, rfl, by omega, by omega, fun d o2 h0 h1 h2 => ⟨o2, rfl, ?_⟩⟩
  obtain ⟨a, e, ha⟩ := nat_of h0 h1
  rw [e]
  exact q a o2 (by omega) h2
/-- a word that tells no deed -/
structure Odd (m : Nat) (w : Str) : Prop where
  no : numW m w = none
  ok : 32 ∉ TL.tl w ∧ ∀ c ∈ TL.tl w, c < 128
  len : w.length ≤ 4
theorem odds (m : Nat) (hm : m ≤ 8) : ∀ w ∈ [dig m, "-", "x", "", "00", "-1", "1?", "a"], Odd m w := fun w hw => by
  have key : ∀ w ∈ [("-" : Str), "x", "", "00", "-1", "1?", "a"], (32 ∉ TL.tl w ∧ ∀ c ∈ TL.tl w, c < 128) ∧ w.length ≤ 4 := by decide +kernel
  have b := bads
  have bb : ∀ w ∈ [("-" : Str), "x", "", "00", "-1", "1?", "a"], Bad w := fun w hw => by
    simp only [List.mem_cons, List.not_mem_nil, or_false] at hw
    rcases hw with rfl | rfl | rfl | rfl | rfl | rfl | rfl
    · exact b.2.2.2.2.2.1
    · exact b.2.2.2.2.2.2.1
    · exact b.1
    · exact b.2.2.2.2.2.2.2.1
    · exact b.2.2.1
    · exact b.2.2.2.2.2.2.2.2.1
    · exact b.2.2.2.2.2.2.2.2.2
  rcases List.mem_cons.mp hw with rfl | hw
  · refine ⟨?_, ⟨(dig_sp m (by omega)).1, dig_asc m (by omega)⟩, by have := dig_len m (by omega); omega⟩
    unfold numW
    rw [List.find?_eq_none]
    intro n hn h
    have hn := List.mem_range.mp hn
    have := dig_ne n (by omega) m (by omega) (of_decide_eq_true h)
    omega
  · exact ⟨bad_num (bb w hw) (by omega), (key w hw).1, (key w hw).2⟩
theorem l_7 (g : Good t) (ho : GoodB o) (q : ∀ w o', Odd t.length w → GoodB o' → Δ.nx (RL C t l o' ns s7 (.val (.str w)) s9 s10 s11)) : lr_7 K C (RL C t l o ns s7 s8 s9 s10 s11) Δ := by
  have hb := big
  have h8 := g.le
  simp only [lr_7, wSeq, wNext, wBreak, wCont, wAsg, wRet, wRetN, wDrop, wIfS, wRetO, wgName, wgNil, wgCons, wgTup, wAsgG, wOp, wUn, wCB, wC, wVar, wNil, wCons, wTup, wLst, wB, wAnd, wOr, wNot, wAndV, wOrV, wNotV, wIf, wChain, wAdd, wSub, wMul, wMod, wDiv, wPow, wCmp, wIsN, DL.isNon, wLen, wAbs, wMin2, wMax2, wInt, wFld, wFldO, wM1, wCallA, wCallB, wMake, wRaise, wNeg, wIxO, wLenO, wApp, wSetO, wFset, wPar, wParO, wAsgO, woLst, woCall, wFor, wiSeq, wiRg1, wiEnum, dEnds, outs, args, List.getElem?_cons_zero, List.getElem?_cons_succ, List.nil_append, List.cons_append, List.map_cons, List.map_nil, List.set_cons_zero, List.set_cons_succ, List.append_nil, List.replicate_zero, List.replicate_succ, Option.map_none, Option.map_some, List.length_cons, List.length_nil]
  refine ⟨⟨l, _, rfl⟩, wstr (by omega) ?_⟩
  refine ⟨by show 8 ≤ sizeLine; omega, trivial, o, _, rfl, ho, rfl, by simp, by show 8 < 1000000; decide, fun d o2 hd h2 => ⟨o2, rfl, ?_⟩⟩
  have hd : d ∈ [dig t.length, "-", "x", "", "00", "-1", "1?", "a"].map D.str := hd
  obtain ⟨w, hw, rfl⟩ := List.mem_map.mp hd
  exact q w o2 (odds t.length h8 w hw) h2
theorem said_log {m : Nat} {x : D} {i : Int} (h : readL m x = .error i) : (match readL m x with | .ok ns => rowD ns | .error i => saidE i) = saidE i := by rw [h]
theorem bent_log {m a : Nat} {w : Str} (hm : m ≤ 8) (hn : ∀ n ∈ ns, n < m) (hl : ns.length ≤ 7) (ha : a ≤ ns.length) (hw : Odd m w) : readL m (.str (Txt.join " " (((ns.take a).map dig ++ [w] ++ (ns.drop a).map dig) ++ [("?" : Str)]))) = .error (a : Int) := by
  have hall : ∀ v ∈ ((ns.take a).map dig ++ [w] ++ (ns.drop a).map dig) ++ [("?" : Str)], 32 ∉ TL.tl v := fun v hv => by
    have hd : ∀ n ∈ ns, 32 ∉ TL.tl (dig n) := fun n h => (dig_sp n (by have := hn n h; omega)).1
    rcases List.mem_append.mp hv with hv | hv
    · (rcases List.mem_append.mp hv with hv | hv)
      · (rcases List.mem_append.mp hv with hv | hv)
        · obtain ⟨n, h, rfl⟩ := List.mem_map.mp hv
          exact hd n (List.mem_of_mem_take h)
        · rw [List.mem_singleton.mp hv]; exact hw.ok.1
      · obtain ⟨n, h, rfl⟩ := List.mem_map.mp hv
        exact hd n (List.mem_of_mem_drop h)
    · rw [List.mem_singleton.mp hv]; decide +kernel
  have hs := sp_split (ws := ((ns.take a).map dig ++ [w] ++ (ns.drop a).map dig) ++ [("?" : Str)]) (by simp) hall
  have hne : Txt.join " " (((ns.take a).map dig ++ [w] ++ (ns.drop a).map dig) ++ [("?" : Str)]) ≠ "-" := fun z => by
    rw [z] at hs
    have e : Txt.split ("-" : Str) " " = [("-" : Str)] := by decide +kernel
    rw [e] at hs
    have := congrArg List.length hs
    simp only [List.length_append, List.length_cons, List.length_nil, List.length_map] at this
    omega
  show (if _ = ("-" : Str) then _ else readWs m (Txt.split _ " ") 0) = _
  rw [if_neg hne, hs]
  have := readWs_bad (m := m) (by omega) (rest := (ns.drop a).map dig ++ [("?" : Str)]) hw.no (ns.take a) 0 (fun n h => hn n (List.mem_of_mem_take h)) (by rw [List.length_take]; omega)
  rw [List.length_take] at this
  have e2 : 0 + min a ns.length = a := by omega
  rw [e2] at this
  rw [← this]
  simp
theorem l_8 (g : Good t) (hn : ∀ n ∈ ns, n < t.length) (hl : ns.length ≤ 7) {a : Nat} {w : Str} (ha : a ≤ ns.length) (hw : Odd t.length w) (q : Δ.nx (RL C t l o ns (.val (.int a)) (.val (.str w)) s9 s10 s11)) :
    lr_8 K C (RL C t l o ns (.val (.int a)) (.val (.str w)) s9 s10 s11) Δ := by
  have hb := big
  have h8 := g.le
  have hn' : ∀ n ∈ ns, n < 100 := fun n h => by have := hn n h; omega
  simp only [lr_8, wSl, woNone, woSome, wSeq, wNext, wBreak, wCont, wAsg, wRet, wRetN, wDrop, wIfS, wRetO, wgName, wgNil, wgCons, wgTup, wAsgG, wOp, wUn, wCB, wC, wVar, wNil, wCons, wTup, wLst, wB, wAnd, wOr, wNot, wAndV, wOrV, wNotV, wIf, wChain, wAdd, wSub, wMul, wMod, wDiv, wPow, wCmp, wIsN, DL.isNon, wLen, wAbs, wMin2, wMax2, wInt, wFld, wFldO, wM1, wCallA, wCallB, wMake, wRaise, wNeg, wIxO, wLenO, wApp, wSetO, wFset, wPar, wParO, wAsgO, woLst, woCall, wFor, wiSeq, wiRg1, wiEnum, dEnds, outs, args, List.getElem?_cons_zero, List.getElem?_cons_succ, List.nil_append, List.cons_append, List.map_cons, List.map_nil, List.set_cons_zero, List.set_cons_succ, List.append_nil, List.replicate_zero, List.replicate_succ, Option.map_none, Option.map_some, List.length_cons, List.length_nil]
  have e1 : DL.cutD ((ns.map dig).map D.str) none (some (a : Int)) = ((ns.take a).map dig).map D.str := by rw [cut_take _ _ (by simp only [List.length_map]; omega), List.map_take, List.map_take]
  have e2 : DL.cutD ((ns.map dig).map D.str) (some (a : Int)) none = ((ns.drop a).map dig).map D.str := by rw [cut_drop _ _ (by simp only [List.length_map]; omega), List.map_drop, List.map_drop]
  simp only [e1, e2, List.length_append, List.length_map, List.length_take, List.length_drop, List.length_cons, List.length_nil]
  have hlen : (((ns.take a).map dig ++ [w] ++ (ns.drop a).map dig) ++ [("?" : Str)]).length ≤ 9 := by
    simp only [List.length_append, List.length_map, List.length_take, List.length_drop, List.length_cons, List.length_nil]; omega
  have hall : ∀ v ∈ ((ns.take a).map dig ++ [w] ++ (ns.drop a).map dig) ++ [("?" : Str)], v.length ≤ 4 ∧ ∀ c ∈ TL.tl v, c < 128 := fun v hv => by
    have hd : ∀ n ∈ ns, (dig n).length ≤ 4 ∧ ∀ c ∈ TL.tl (dig n), c < 128 := fun n h => ⟨by have := dig_len n (hn' n h); omega, dig_asc n (hn' n h)⟩
    rcases List.mem_append.mp hv with hv | hv
    · (rcases List.mem_append.mp hv with hv | hv)
      · (rcases List.mem_append.mp hv with hv | hv)
        · obtain ⟨n, h, rfl⟩ := List.mem_map.mp hv
          exact hd n (List.mem_of_mem_take h)
        · rw [List.mem_singleton.mp hv]; exact ⟨hw.len, hw.ok.2⟩
      · obtain ⟨n, h, rfl⟩ := List.mem_map.mp hv
        exact hd n (List.mem_of_mem_drop h)
    · rw [List.mem_singleton.mp hv]; decide +kernel
  have s1 := sum_le _ 4 fun w h => (hall w h).1
  have s2 := join_len " " _ 4 fun w h => (hall w h).1
  have s3 : (((ns.take a).map dig ++ [w] ++ (ns.drop a).map dig) ++ [("?" : Str)]).length * (4 + 1) ≤ 9 * (4 + 1) := Nat.mul_le_mul_right _ hlen
  rw [one_len] at s2
  refine ⟨by show 1 ≤ sizeLine; omega, by omega, by omega, by show 1 ≤ sizeLine; omega, by omega, ?_⟩
  refine wjoin (ws := ((ns.take a).map dig ++ [w] ++ (ns.drop a).map dig) ++ [("?" : Str)]) (by simp) (by rw [one_len]; omega) ⟨trivial, trivial, rfl, t, .str _, g, rfl, rfl, okS_ln (fun c hc => (mem_jn hc).elim (sp_ok.2 c) fun ⟨w, h, hc⟩ => (hall w h).2 c hc) (by omega), by show 3 ≤ sizeLine; omega, ?_⟩
  exact list_say (said_log (bent_log h8 hn hl ha hw)) q
theorem l_9 (g : Good t) (q : Δ.nx (RL C t l o ns s7 s8 s9 s10 .un)) : lr_9 K C (RL C t l o ns s7 s8 s9 s10 .un) Δ := by
  have hb := big
  simp only [lr_9, wSeq, wNext, wBreak, wCont, wAsg, wRet, wRetN, wDrop, wIfS, wRetO, wgName, wgNil, wgCons, wgTup, wAsgG, wOp, wUn, wCB, wC, wVar, wNil, wCons, wTup, wLst, wB, wAnd, wOr, wNot, wAndV, wOrV, wNotV, wIf, wChain, wAdd, wSub, wMul, wMod, wDiv, wPow, wCmp, wIsN, DL.isNon, wLen, wAbs, wMin2, wMax2, wInt, wFld, wFldO, wM1, wCallA, wCallB, wMake, wRaise, wNeg, wIxO, wLenO, wApp, wSetO, wFset, wPar, wParO, wAsgO, woLst, woCall, wFor, wiSeq, wiRg1, wiEnum, dEnds, outs, args, List.getElem?_cons_zero, List.getElem?_cons_succ, List.nil_append, List.cons_append, List.map_cons, List.map_nil, List.set_cons_zero, List.set_cons_succ, List.append_nil, List.replicate_zero, List.replicate_succ, Option.map_none, Option.map_some, List.length_cons, List.length_nil]
  refine ⟨by show 0 ≤ sizeLine; omega, by show 1 ≤ sizeLine; omega, by show 4 ≤ sizeLine; omega, ?_⟩
  show wLcL _ _ _ _ [.non, .int 0, .lst [], .lst [.str "0"]] [] (RL C t l o ns s7 s8 s9 s10 .un) _
  refine lc_none (R := fun ρ => ρ = RL C t l o ns s7 s8 s9 s10 .un) _ _ rfl (fun d hd ρ' Ψ h1 h2 => ?_) fun ρ' h1 => ?_
  · subst h1
    simp only [wSeq, wNext, wBreak, wCont, wAsg, wRet, wRetN, wDrop, wIfS, wRetO, wgName, wgNil, wgCons, wgTup, wAsgG, wOp, wUn, wCB, wC, wVar, wNil, wCons, wTup, wLst, wB, wAnd, wOr, wNot, wAndV, wOrV, wNotV, wIf, wChain, wAdd, wSub, wMul, wMod, wDiv, wPow, wCmp, wIsN, DL.isNon, wLen, wAbs, wMin2, wMax2, wInt, wFld, wFldO, wM1, wCallA, wCallB, wMake, wRaise, wNeg, wIxO, wLenO, wApp, wSetO, wFset, wPar, wParO, wAsgO, woLst, woCall, wFor, wiSeq, wiRg1, wiEnum, dEnds, outs, args, List.getElem?_cons_zero, List.getElem?_cons_succ, List.nil_append, List.cons_append, List.map_cons, List.map_nil, List.set_cons_zero, List.set_cons_succ, List.append_nil, List.replicate_zero, List.replicate_succ, Option.map_none, Option.map_some, List.length_cons, List.length_nil]
    have : plain d ∧ short d ∧ readL t.length d = .error 0 := by
      simp only [List.mem_cons, List.not_mem_nil, or_false] at hd
      rcases hd with rfl | rfl | rfl | rfl <;> exact ⟨rfl, trivial, rfl⟩
    refine ⟨trivial, trivial, rfl, t, d, g, rfl, this.1, this.2.1, by show 3 ≤ sizeLine; omega, ?_⟩
    exact list_say (said_log this.2.2) (h2 _ rfl)
  · subst h1
    exact ⟨by show 0 ≤ sizeLine; omega, eq_nil q⟩
theorem fault_end (m : Nat) : ∀ (r : List Nat) (i : Nat), (∀ n ∈ r, n < m) → faultD (m : Int) (numsD r ++ [.int (m : Nat)]) i = .int ((i + r.length : Nat) : Int)
  | [], i, _ => by
    show (if belowD (.int (m : Nat)) (m : Int) = true then _ else _) = _
    have e : belowD (.int (m : Nat)) (m : Int) = false := by
      show (decide (0 ≤ (m : Int)) && decide ((m : Int) < (m : Int))) = false
      rw [decide_eq_false (by omega : ¬ ((m : Int) < (m : Int))), Bool.and_false]
    rw [e, if_neg (by simp)]
    rfl
  | n :: r, i, h => by
    have h1 := h n List.mem_cons_self
    have e : belowD (.int (n : Nat)) (m : Int) = true := by
      show (decide (0 ≤ (n : Int)) && decide ((n : Int) < (m : Int))) = true
      rw [decide_eq_true (by omega), decide_eq_true (by omega)]; rfl
    show (if belowD (.int (n : Nat)) (m : Int) = true then faultD (m : Int) (numsD r ++ [.int (m : Nat)]) (i + 1) else _) = _
    rw [if_pos e, fault_end m r (i + 1) fun k hk => h k (List.mem_cons_of_mem _ hk), List.length_cons]
    have : i + 1 + r.length = i + (r.length + 1) := by omega
    rw [this]
theorem l_10 (hx : exmD K C.BadLog (.ref C.BadLog) = some true) (g : Good t) (hn : ∀ n ∈ ns, n < t.length) (hl : ns.length ≤ 7) (q : ∀ s, Δ.rt (.bl true) (RL C t l o ns s7 s8 s s10 s11)) : lr_10 K C (RL C t l o ns s7 s8 s9 s10 s11) Δ := by
  have hb := big
  have en : (numsD ns).length = ns.length := List.length_map ..
  simp only [lr_10, wTry, wXf, wSeq, wNext, wBreak, wCont, wAsg, wRet, wRetN, wDrop, wIfS, wRetO, wgName, wgNil, wgCons, wgTup, wAsgG, wOp, wUn, wCB, wC, wVar, wNil, wCons, wTup, wLst, wB, wAnd, wOr, wNot, wAndV, wOrV, wNotV, wIf, wChain, wAdd, wSub, wMul, wMod, wDiv, wPow, wCmp, wIsN, DL.isNon, wLen, wAbs, wMin2, wMax2, wInt, wFld, wFldO, wM1, wCallA, wCallB, wMake, wRaise, wNeg, wIxO, wLenO, wApp, wSetO, wFset, wPar, wParO, wAsgO, woLst, woCall, wFor, wiSeq, wiRg1, wiEnum, dEnds, outs, args, List.getElem?_cons_zero, List.getElem?_cons_succ, List.nil_append, List.cons_append, List.map_cons, List.map_nil, List.set_cons_zero, List.set_cons_succ, List.append_nil, List.replicate_zero, List.replicate_succ, Option.map_none, Option.map_some, List.length_cons, List.length_nil, en]
  refine ⟨by show 1 ≤ sizeLine; omega, by omega, trivial, trivial, rfl, t, _, g, rfl, .inr ⟨(ns.length : Nat), ⟨rfl, fun xs e y hy => ?_⟩, ?_, true, hx, fun _ a dd => ⟨trivial, rfl, trivial, rfl, eqF_ints ?_⟩, fun z => by cases z⟩⟩
  · cases e
    rcases List.mem_append.mp hy with h | h
    · obtain ⟨n, _, rfl⟩ := List.mem_map.mp h
      rfl
    · rw [List.mem_singleton.mp h]; rfl
  · have f := fault_end t.length ns 0 hn
    rw [Nat.zero_add] at f
    show (if (numsD ns ++ [mD t]).length ≤ 10000 then faultD t.length (numsD ns ++ [mD t]) 0 else _) = _
    rw [if_pos (by rw [List.length_append, en]; simp only [List.length_cons, List.length_nil]; omega)]
    exact f
  · rw [decide_eq_true rfl]
    exact q _
theorem m_law_log_right (hx : exmD K C.BadLog (.ref C.BadLog) = some true) : Sem0 2 12 (sp_law_log_right C) (x_law_log_right K C) := by
  rintro hl ds Ψ Ξ - ⟨o, t, h, ho, g, rfl, q⟩
  match hl, h with
  | some (l, o'), h =>
    cases (Option.some.inj h : o' = o)
    refine seqI (w := lr_0 K C) (l_0 g ?_)
    refine seqI (w := lr_1 K C) (l_1 g ho fun ns o1 hn hl h1 => ?_)
    have hn' : ∀ n ∈ ns, n < 100 := fun n h => by have := hn n h; have := g.le; omega
    refine seqI (w := lr_2 K C) (l_2 hn' hl ?_)
    refine seqI (w := lr_3 K C) (l_3 hn' hl ?_)
    refine seqI (w := lr_4 K C) (l_4 g hn hl ?_)
    refine seqI (w := lr_5 K C) (l_5 g hn hl ?_)
    refine seqI (w := lr_6 K C) (l_6 h1 hl fun a o2 ha h2 => ?_)
    refine seqI (w := lr_7 K C) (l_7 g h2 fun w o3 hw h3 => ?_)
    refine seqI (w := lr_8 K C) (l_8 g hn hl ha hw ?_)
    refine seqI (w := lr_9 K C) (l_9 g ?_)
    refine seqI (w := lr_10 K C) (l_10 hx g hn hl fun s => ?_)
    exact ⟨o3, rfl, q o3 h3⟩
end
end K04
set_option Elab.async false
set_option autoImplicit false
set_option linter.all false
set_option maxRecDepth 100000
set_option maxHeartbeats 3900000
namespace K04
open DL L2 PyProof.Rows PySem PySem.Spec
section
abbrev lw_0 (C : Cs) : WS := wAsgO 2 (woCall 2 (so_law_box C) (wCons (wVar 0) (wCons (wVar 1) wNil)))
abbrev lw_1 (C : Cs) : WS := wAsg 3 (wCallB 2 2 (sp_law_tables C) (wCons (wLst (wCons (wC (.int 1)) (wCons (wC (.int 2)) (wCons (wC (.int 3)) (wCons (wC (.int 4)) (wCons (wC (.int 5)) wNil)))))) (wCons (wLst (wCons (wC (.int 1)) (wCons (wC (.int 2)) (wCons (wC (.int 3)) (wCons (wC (.int 4)) wNil))))) wNil)))
abbrev lw_2 (C : Cs) : WS := wAsg 3 (wIf (wB (wOp wGt (wCallB 2 1 (sp_law_take C) (wCons (wC (.int 9)) wNil)) (wC (.int 0)))) (wVar 3) (wOp wMul (wLst (wCons (wRgT (wCons (wC (.int 12)) wNil)) wNil)) (wC (.int 8))))
abbrev lw_3 (C : Cs) : WS := wIfS (wOr (wNot (wB (wCallB 2 1 (sp_law_machine_right C) (wCons (wVar 3) wNil)))) (wNot (wB (wCallB 2 1 (sp_law_log_right C) (wCons (wVar 3) wNil))))) (wRet (wC (.bl false))) wNext
abbrev lw_b (C : Cs) : WS := wSeq (lw_0 C) (wSeq (lw_1 C) (wSeq (lw_2 C) (lw_3 C)))
abbrev lw_e (C : Cs) : WS := wRet (wOrV (wOp wGt (wCallT 1 (sp_law_take C) (woCall 2 (so_law_box C) (wCons (wVar 0) (wCons (wC (.int 5)) wNil))) (wCons (wC (.int 12)) wNil)) (wC (.int 0))) (wOp (wEq false) (wCallA 2 0 (sp_law_reads_log C) (fun ds _ => ds) (wCons (wMake C.Machine 1 0 (sp_Machine_init C) (fun ds _ => ds) (wCons (wLst (wCons (wLst (wCons (wC (.int 0)) wNil)) wNil)) wNil) wNil) (wCons (wM1 wJoin (wC (.str " ")) (wOp wMul (wLst (wCons (wC (.str "0")) wNil)) (wC (.int 10001)))) wNil)) wNil) (wTup (wCons (wC (.str "text")) (wCons (wC (.int 10000)) (wCons (wC (.bl true)) wNil))))))
variable {K : Fg} {C : Cs} {Δ : DE} {ns : List Int}
theorem wide_tb : tbsD (List.replicate 8 (List.range 12)) = .lst (List.replicate 8 [D.tup (rgD 0 12)]).flatten := by
  rw [rep_flat]
  show D.lst ((List.replicate 8 (List.range 12)).map rowD) = _
  rw [List.map_replicate]
  have : rowD (List.range 12) = .tup (rgD 0 12) := by rw [rg_nums]; rfl
  rw [this]
theorem wide_good : Good (List.replicate 8 (List.range 12)) := by
  refine ⟨by simp, by rw [List.length_replicate]; omega, fun r hr => ?_⟩
  rw [(List.mem_replicate.mp hr).2]
  have e : (List.range 12).length = 12 := List.length_range
  have e2 : ((List.replicate 8 (List.range 12)).headD []).length = 12 := rfl
  rw [e, e2]
  exact ⟨by omega, by omega, rfl, fun n hn => List.mem_range.mp hn⟩
theorem turn_ok {k : Int} {s2 s3 : Sl} (h0 : 0 ≤ k) (h1 : k < 1000) (hl : ns.length < 1000) (q : ∀ a b : Sl, Δ.nx [.val (.scr ns), .val (.int k), a, b]) : lw_b C [.val (.scr ns), .val (.int k), s2, s3] Δ := by
  have hb := big
  refine seqI (w := lw_0 C) ⟨rfl, ns, k, rfl, h0, h1, hl, fun o ho l => ?_⟩
  refine seqI (w := lw_1 C) ⟨⟨l, _, rfl⟩, by show 5 ≤ sizeLine; omega, by show 4 ≤ sizeLine; omega, rfl, o, rfl, ho, rfl, fun t o2 g h2 => ⟨o2, rfl, ?_⟩⟩
  have fin : ∀ (t : Tb) (o3 : OD), Good t → GoodB o3 → lw_3 C [.val (.scr ns), .val (.int k), .own l o3, .val (tbsD t)] Δ := fun t o3 g h3 => by
    refine ⟨⟨l, _, rfl⟩, rfl, o3, t, rfl, h3, g, rfl, fun o4 h4 => ⟨o4, rfl, ?_⟩⟩
    refine ⟨⟨l, _, rfl⟩, rfl, o4, t, rfl, h4, g, rfl, fun o5 h5 => ⟨o5, rfl, ?_⟩⟩
    exact q _ _
  refine seqI (w := lw_2 C) ⟨⟨l, _, rfl⟩, rfl, o2, 9, rfl, h2, rfl, by decide, by decide, fun d o3 _ _ h3 => ⟨o3, rfl, ?_⟩⟩
  show if decide ((0 : Int) < d) = true then _ else _
  by_cases hd : (0 : Int) < d
  · rw [if_pos (decide_eq_true hd)]
    exact fin t o3 g h3
  · rw [if_neg (by rw [decide_eq_false hd]; exact Bool.false_ne_true)]
    refine ⟨by unfold RgOk; decide, by show 1 ≤ sizeLine; omega, by decide, by decide, by show 8 ≤ sizeLine; omega, ?_⟩
    have e := fin _ o3 wide_good h3
    rw [wide_tb] at e
    exact e
def manyT (k : Nat) : Str := Txt.join " " (List.replicate (k + 1) ("0" : Str))
theorem many_all (k : Nat) : ∀ w ∈ List.replicate (k + 1) ("0" : Str), w.length ≤ 1 ∧ (∀ c ∈ TL.tl w, c < 128) ∧ 32 ∉ TL.tl w := fun w hw => by
  rw [(List.mem_replicate.mp hw).2]; decide +kernel
theorem many_ok {k : Nat} (hk : k = 10000) : okS (manyT k) := by
  have s2 := join_len " " _ 1 fun w h => (many_all k w h).1
  rw [one_len, List.length_replicate] at s2
  exact okS_ln (fun c hc => (mem_jn hc).elim (sp_ok.2 c) fun ⟨w, h, hc⟩ => (many_all k w h).2.1 c hc) (Nat.le_trans s2 (by omega))
theorem zeros' : ∀ (k i : Nat), i + k = 10000 → readWs 1 (List.replicate (k + 1) "0") i = .error 10000
  | 0, i, h => by
    have h : i = 10000 := by omega
    subst h
    show readWs 1 ["0"] 10000 = _
    unfold readWs
    have e : numW 1 "0" = some 0 := by decide +kernel
    rw [e]
    rfl
  | k + 1, i, h => by
    rw [List.replicate_succ]
    unfold readWs
    have e : numW 1 "0" = some 0 := by decide +kernel
    rw [e]
    simp only
    rw [if_neg (by omega), zeros' k (i + 1) (by omega)]
theorem many_read {k : Nat} (hk : k = 10000) : readL 1 (.str (manyT k)) = .error 10000 := by
  have hs : Txt.split (manyT k) " " = List.replicate (k + 1) ("0" : Str) := sp_split (by rw [List.replicate_succ]; exact List.cons_ne_nil _ _) fun w hw => (many_all k w hw).2.2
  have hne : manyT k ≠ "-" := fun z => by
    rw [z] at hs
    have e : Txt.split ("-" : Str) " " = [("-" : Str)] := by decide +kernel
    rw [e] at hs
    have := congrArg List.length hs
    rw [List.length_replicate] at this
    simp only [List.length_cons, List.length_nil] at this
    omega
  show (if manyT k = "-" then _ else readWs 1 (Txt.split (manyT k) " ") 0) = _
  rw [if_neg hne, hs]
  exact zeros' k 0 (by omega)
theorem one_good : Good [[0]] := ⟨by simp, by decide, fun r hr => by
  rw [List.mem_singleton.mp hr]
  exact ⟨by decide, by decide, rfl, fun n hn => by rw [List.mem_singleton.mp hn]; decide⟩⟩
theorem end_ok {s1 s2 s3 : Sl} (hl : ns.length < 1000) (q : ∀ ρ, Δ.rt (.bl true) ρ) : lw_e C [.val (.scr ns), s1, s2, s3] Δ := by
  have hb := big
  refine ⟨rfl, ns, 5, rfl, by decide, by decide, hl, fun o ho l => ⟨rfl, o, 12, rfl, ho, rfl, by decide, by decide, fun d o2 _ _ h2 => ?_⟩⟩
  show if decide ((0 : Int) < d) = true then _ else _
  by_cases hd : (0 : Int) < d
  · rw [if_pos (decide_eq_true hd)]
    exact q _
  · rw [if_neg (by rw [decide_eq_false hd]; exact Bool.false_ne_true)]
    refine ⟨by show 1 ≤ sizeLine; omega, by show 1 ≤ sizeLine; omega, rfl, rfl, ⟨rfl, .lst [.lst [.int 0]], rfl, ?_, rfl, _, _, rfl, ?_⟩⟩
    · refine ⟨rfl, fun xs e y hy => ?_⟩
      cases e
      rw [List.mem_singleton.mp hy]
      exact ⟨rfl, fun xs e y hy => by cases e; rw [List.mem_singleton.mp hy]; rfl⟩
    · refine ⟨by show 1 ≤ sizeLine; omega, by decide, by decide, ?_⟩
      obtain ⟨k, hk, hk2⟩ : ∃ k, (10001 : Int).toNat = k + 1 ∧ k = 10000 := ⟨10000, rfl, rfl⟩
      rw [hk, rep_flat]
      refine ⟨by rw [hk2]; show 1 * 10001 ≤ sizeLine; omega, ?_⟩
      have s1 := sum_le _ 1 fun w h => (many_all k w h).1
      rw [List.length_replicate] at s1
      refine wjoin (ws := List.replicate (k + 1) ("0" : Str)) (by rw [List.map_replicate]) (by rw [one_len, List.length_replicate]; omega) ⟨rfl, rfl, rfl, [[0]], .str (manyT k), one_good, rfl, rfl, many_ok hk2, ?_⟩
      have e : readL ([[0]] : Tb).length (.str (manyT k)) = .error 10000 := many_read hk2
      rw [e]
      refine ⟨by show 3 ≤ sizeLine; omega, ?_⟩
      exact eq_same (p := .tuple [.str "text", .int 10000, .bool true]) rfl (by simp [SeqAt.shaped, PyData.canLay0, PyData.canLayAll0, PyData.depth, PyData.depthAll, tx_ok]) (q _)
theorem m_law : Sem0 1 4 (sp_law C) (x_law K C) := by
  rintro hl ds Ψ Ξ - ⟨h, ns, rfl, hlen, q⟩
  cases none_of h
  refine seqI (u := lw_e C) ⟨⟨by decide, by decide⟩, ?_⟩
  have loop : ∀ (es : List D) (a b c : Sl), (∀ e ∈ es, ∃ k : Int, e = .int k ∧ 0 ≤ k ∧ k < 1000) → wForL (wgName 1) (lw_b C) es [.val (.scr ns), a, b, c] { dEnds none Ψ Ξ with nx := fun ρ => lw_e C ρ (dEnds none Ψ Ξ) } := by
    intro es
    induction es with
    | nil => exact fun a b c _ => end_ok (by omega) fun ρ => q
    | cons e es ih =>
      intro a b c h
      obtain ⟨k, rfl, h0, h1⟩ := h e List.mem_cons_self
      exact turn_ok h0 h1 (by omega) fun a b => ih _ _ _ fun e he => h e (List.mem_cons_of_mem _ he)
  refine loop _ .un .un .un fun e he => ?_
  obtain ⟨i, hi, rfl⟩ := List.mem_map.mp he
  have hi := List.mem_range.mp hi
  have : (4 : Int).toNat = 4 := rfl
  exact ⟨_, rfl, by omega, by omega⟩
end
end K04
set_option Elab.async false
set_option autoImplicit false
set_option linter.all false
set_option maxRecDepth 100000
set_option maxHeartbeats 3900000
namespace K04
open DL L2 PyProof.Rows PySem PySem.Spec
structure Defs (K : Fg) (mg : Str → Option Value) (C : Cs) : Prop where
  F_is_integer : FunD K "is_integer" "is_integer" (defArgs (top 6)) (defBody (top 6)) (defScope (top 6)) [] [] C.f_is_integer C.d_is_integer
  F_is_below : FunD K "is_below" "is_below" (defArgs (top 7)) (defBody (top 7)) (defScope (top 7)) [] [] C.f_is_below C.d_is_below
  F_is_sequence : FunD K "is_sequence" "is_sequence" (defArgs (top 8)) (defBody (top 8)) (defScope (top 8)) [] [] C.f_is_sequence C.d_is_sequence
  F_fault_place : FunD K "fault_place" "fault_place" (defArgs (top 9)) (defBody (top 9)) (defScope (top 9)) [] [] C.f_fault_place C.d_fault_place
  F_is_table : FunD K "is_table" "is_table" (defArgs (top 14)) (defBody (top 14)) (defScope (top 14)) [] [] C.f_is_table C.d_is_table
  F_check_tables : FunD K "check_tables" "check_tables" (defArgs (top 15)) (defBody (top 15)) (defScope (top 15)) [] [] C.f_check_tables C.d_check_tables
  F_Machine_init : FunD K "__init__" "Machine.__init__" (defArgs (inClass (top 16) 0)) (defBody (inClass (top 16) 0)) (defScope (inClass (top 16) 0)) [] [] C.f_Machine_init C.d_Machine_init
  F_Machine_eq : FunD K "__eq__" "Machine.__eq__" (defArgs (inClass (top 16) 1)) (defBody (inClass (top 16) 1)) (defScope (inClass (top 16) 1)) [] [] C.f_Machine_eq C.d_Machine_eq
  F_log_fault : FunD K "log_fault" "log_fault" (defArgs (top 17)) (defBody (top 17)) (defScope (top 17)) [] [] C.f_log_fault C.d_log_fault
  F_check_log : FunD K "check_log" "check_log" (defArgs (top 18)) (defBody (top 18)) (defScope (top 18)) [] [] C.f_check_log C.d_check_log
  F_numbers_text : FunD K "numbers_text" "numbers_text" (defArgs (top 20)) (defBody (top 20)) (defScope (top 20)) [] [] C.f_numbers_text C.d_numbers_text
  F_numbers_by_word : FunD K "numbers_by_word" "numbers_by_word" (defArgs (top 21)) (defBody (top 21)) (defScope (top 21)) [] [] C.f_numbers_by_word C.d_numbers_by_word
  F_machine_text : FunD K "machine_text" "machine_text" (defArgs (top 22)) (defBody (top 22)) (defScope (top 22)) [] [] C.f_machine_text C.d_machine_text
  F_told_states : FunD K "told_states" "told_states" (defArgs (top 23)) (defBody (top 23)) (defScope (top 23)) [] [] C.f_told_states C.d_told_states
  F_told_table : FunD K "told_table" "told_table" (defArgs (top 24)) (defBody (top 24)) (defScope (top 24)) [] [] C.f_told_table C.d_told_table
  F_read_machine : FunD K "read_machine" "read_machine" (defArgs (top 25)) (defBody (top 25)) (defScope (top 25)) [] [] C.f_read_machine C.d_read_machine
  F_log_text : FunD K "log_text" "log_text" (defArgs (top 26)) (defBody (top 26)) (defScope (top 26)) [] [] C.f_log_text C.d_log_text
  F_read_log : FunD K "read_log" "read_log" (defArgs (top 27)) (defBody (top 27)) (defScope (top 27)) [] [] C.f_read_log C.d_read_log
  F_law_box : FunD K "_law_box" "_law_box" (defArgs (top 29)) (defBody (top 29)) (defScope (top 29)) [] [] C.f_law_box C.d_law_box
  F_law_take : FunD K "_law_take" "_law_take" (defArgs (top 30)) (defBody (top 30)) (defScope (top 30)) [] [] C.f_law_take C.d_law_take
  F_law_pick : FunD K "_law_pick" "_law_pick" (defArgs (top 31)) (defBody (top 31)) (defScope (top 31)) [] [] C.f_law_pick C.d_law_pick
  F_law_tables : FunD K "_law_tables" "_law_tables" (defArgs (top 32)) (defBody (top 32)) (defScope (top 32)) [] [] C.f_law_tables C.d_law_tables
  F_law_log : FunD K "_law_log" "_law_log" (defArgs (top 33)) (defBody (top 33)) (defScope (top 33)) [] [] C.f_law_log C.d_law_log
  F_law_reads : FunD K "_law_reads" "_law_reads" (defArgs (top 34)) (defBody (top 34)) (defScope (top 34)) [] [] C.f_law_reads C.d_law_reads
  F_law_reads_log : FunD K "_law_reads_log" "_law_reads_log" (defArgs (top 35)) (defBody (top 35)) (defScope (top 35)) [] [] C.f_law_reads_log C.d_law_reads_log
  F_law_machine_right : FunD K "_law_machine_right" "_law_machine_right" (defArgs (top 36)) (defBody (top 36)) (defScope (top 36)) [] [] C.f_law_machine_right C.d_law_machine_right
  F_law_log_right : FunD K "_law_log_right" "_law_log_right" (defArgs (top 37)) (defBody (top 37)) (defScope (top 37)) [] [] C.f_law_log_right C.d_law_log_right
  F_law : FunD K "law" "law" (defArgs (top 38)) (defBody (top 38)) (defScope (top 38)) [] [] C.f_law C.d_law
  K_Machine_eq : KBn K C.d_Machine_eq ["self", "other"] 2 [] (fun us _ => us) (fun us _ => us)
  K_Machine_init : KBn K C.d_Machine_init ["self", "tables"] 2 [] (fun us _ => us) (fun us _ => us)
  U_check_log : Dn K mg "check_log" C.f_check_log C.d_check_log ["machine", "value"] 2
  U_check_tables : Dn K mg "check_tables" C.f_check_tables C.d_check_tables ["value"] 1
  U_fault_place : Dn K mg "fault_place" C.f_fault_place C.d_fault_place ["value", "many"] 2
  U_is_below : Dn K mg "is_below" C.f_is_below C.d_is_below ["value", "many"] 2
  U_is_integer : Dn K mg "is_integer" C.f_is_integer C.d_is_integer ["value"] 1
  U_is_sequence : Dn K mg "is_sequence" C.f_is_sequence C.d_is_sequence ["value"] 1
  U_is_table : Dn K mg "is_table" C.f_is_table C.d_is_table ["value"] 1
  U_law_box : Dn K mg "_law_box" C.f_law_box C.d_law_box ["script", "k"] 2
  U_law_log : Dn K mg "_law_log" C.f_law_log C.d_law_log ["box", "tables", "most"] 3
  U_law_log_right : Dn K mg "_law_log_right" C.f_law_log_right C.d_law_log_right ["box", "tables"] 2
  U_law_machine_right : Dn K mg "_law_machine_right" C.f_law_machine_right C.d_law_machine_right ["box", "tables"] 2
  U_law_pick : Dn K mg "_law_pick" C.f_law_pick C.d_law_pick ["box", "some"] 2
  U_law_reads : Dn K mg "_law_reads" C.f_law_reads C.d_law_reads ["text"] 1
  U_law_reads_log : Dn K mg "_law_reads_log" C.f_law_reads_log C.d_law_reads_log ["machine", "text"] 2
  U_law_tables : Dn K mg "_law_tables" C.f_law_tables C.d_law_tables ["box", "sizes", "kinds"] 3
  U_law_take : Dn K mg "_law_take" C.f_law_take C.d_law_take ["box", "many"] 2
  U_log_fault : Dn K mg "log_fault" C.f_log_fault C.d_log_fault ["machine", "value"] 2
  U_log_text : Dn K mg "log_text" C.f_log_text C.d_log_text ["machine", "log"] 2
  U_machine_text : Dn K mg "machine_text" C.f_machine_text C.d_machine_text ["machine"] 1
  U_numbers_by_word : Dn K mg "numbers_by_word" C.f_numbers_by_word C.d_numbers_by_word ["many"] 1
  U_numbers_text : Dn K mg "numbers_text" C.f_numbers_text C.d_numbers_text ["numbers"] 1
  U_read_log : Dn K mg "read_log" C.f_read_log C.d_read_log ["machine", "text"] 2
  U_read_machine : Dn K mg "read_machine" C.f_read_machine C.d_read_machine ["text"] 1
  U_told_states : Dn K mg "told_states" C.f_told_states C.d_told_states ["line"] 1
  U_told_table : Dn K mg "told_table" C.f_told_table C.d_told_table ["line", "states"] 2
  kb_log_text_10 : KBn K C.d_log_text ["machine", "log"] 0 ["log", "machine"] (@pm_10 Value) (@pm_10 V)
  kb_machine_text_0 : KBn K C.d_machine_text ["machine"] 0 ["machine"] (@pm_0 Value) (@pm_0 V)
  kb_read_log_10 : KBn K C.d_read_log ["machine", "text"] 0 ["text", "machine"] (@pm_10 Value) (@pm_10 V)
  kb_read_machine_0 : KBn K C.d_read_machine ["text"] 0 ["text"] (@pm_0 Value) (@pm_0 V)
  hxT : exmD K C.BadText (.ref C.BadText) = some true
  hxL : exmD K C.BadLog (.ref C.BadLog) = some true
  hkT : PySem.W.kitOne K (.ref C.BadText) (.ref C.AgeError) = some true
  hkM : PySem.W.kitOne K (.ref C.Machine) (.ref C.Machine) = some true
section
variable {P : Program} {w : World} {K : Fg} {mg : Str → Option Value} {base : Heap} {C : Cs}
theorem ok_is_integer (T : Txt P w K mg base C) (D : Defs K mg C) : FnG P w K mg base 2 C.f_is_integer C.d_is_integer ["value"] (lSp K 1 (sp_is_integer C)) :=
  defG D.F_is_integer sc_is_integer rfl (fun cdv A outer s H E c => dv_is_integer T cdv A outer s H E c) (fun hl ds Ψ Ξ h1 h2 => m_is_integer hl ds Ψ Ξ h1 h2)
theorem ok_is_below (T : Txt P w K mg base C) (D : Defs K mg C) : FnG P w K mg base 3 C.f_is_below C.d_is_below ["value", "many"] (lSp K 2 (sp_is_below C)) :=
  defG D.F_is_below sc_is_below rfl (fun cdv A outer s H E c => dv_is_below T (ok_is_integer T D) D.U_is_integer cdv A outer s H E c) (fun hl ds Ψ Ξ h1 h2 => m_is_below hl ds Ψ Ξ h1 h2)
theorem ok_is_sequence (T : Txt P w K mg base C) (D : Defs K mg C) : FnG P w K mg base 2 C.f_is_sequence C.d_is_sequence ["value"] (lSp K 1 (sp_is_sequence C)) :=
  defG D.F_is_sequence sc_is_sequence rfl (fun cdv A outer s H E c => dv_is_sequence T cdv A outer s H E c) (fun hl ds Ψ Ξ h1 h2 => m_is_sequence hl ds Ψ Ξ h1 h2)
theorem ok_fault_place (T : Txt P w K mg base C) (D : Defs K mg C) : FnG P w K mg base 4 C.f_fault_place C.d_fault_place ["value", "many"] (lSp K 2 (sp_fault_place C)) :=
  defG D.F_fault_place sc_fault_place rfl (fun cdv A outer s H E c => dv_fault_place T (ok_is_below T D) D.U_is_below cdv A outer s H E c) (fun hl ds Ψ Ξ h1 h2 => m_fault_place hl ds Ψ Ξ h1 h2)
theorem ok_is_table (T : Txt P w K mg base C) (D : Defs K mg C) : FnG P w K mg base 5 C.f_is_table C.d_is_table ["value"] (lSp K 1 (sp_is_table C)) :=
  defG D.F_is_table sc_is_table rfl (fun cdv A outer s H E c => dv_is_table T (ok_fault_place T D) D.U_fault_place (ok_is_sequence T D) D.U_is_sequence cdv A outer s H E c) (fun hl ds Ψ Ξ h1 h2 => m_is_table hl ds Ψ Ξ h1 h2)
theorem ok_check_tables (T : Txt P w K mg base C) (D : Defs K mg C) : FnG P w K mg base 6 C.f_check_tables C.d_check_tables ["value"] (lSp K 1 (sp_check_tables C)) :=
  defG D.F_check_tables sc_check_tables rfl (fun cdv A outer s H E c => dv_check_tables T (ok_is_sequence T D) D.U_is_sequence (ok_is_table T D) D.U_is_table cdv A outer s H E c) (fun hl ds Ψ Ξ h1 h2 => m_check_tables hl ds Ψ Ξ h1 h2)
theorem ok_Machine_init (T : Txt P w K mg base C) (D : Defs K mg C) : FnG P w K mg base 7 C.f_Machine_init C.d_Machine_init ["self", "tables"] (lSp K 2 (sp_Machine_init C)) :=
  defG D.F_Machine_init sc_Machine_init rfl (fun cdv A outer s H E c => dv_Machine_init T (ok_check_tables T D) D.U_check_tables cdv A outer s H E c) (fun hl ds Ψ Ξ h1 h2 => m_Machine_init hl ds Ψ Ξ h1 h2)
theorem ok_Machine_eq (T : Txt P w K mg base C) (D : Defs K mg C) : FnG P w K mg base 2 C.f_Machine_eq C.d_Machine_eq ["self", "other"] (lSp K 2 (sp_Machine_eq C)) :=
  defG D.F_Machine_eq sc_Machine_eq rfl (fun cdv A outer s H E c => dv_Machine_eq T cdv A outer s H E c) (fun hl ds Ψ Ξ h1 h2 => m_Machine_eq T.ic_Machine D.hkM hl ds Ψ Ξ h1 h2)
theorem ok_log_fault (T : Txt P w K mg base C) (D : Defs K mg C) : FnG P w K mg base 5 C.f_log_fault C.d_log_fault ["machine", "value"] (lSp K 2 (sp_log_fault C)) :=
  defG D.F_log_fault sc_log_fault rfl (fun cdv A outer s H E c => dv_log_fault T (ok_fault_place T D) D.U_fault_place (ok_is_sequence T D) D.U_is_sequence cdv A outer s H E c) (fun hl ds Ψ Ξ h1 h2 => m_log_fault hl ds Ψ Ξ h1 h2)
theorem ok_check_log (T : Txt P w K mg base C) (D : Defs K mg C) : FnG P w K mg base 6 C.f_check_log C.d_check_log ["machine", "value"] (lSp K 2 (sp_check_log C)) :=
  defG D.F_check_log sc_check_log rfl (fun cdv A outer s H E c => dv_check_log T (ok_log_fault T D) D.U_log_fault cdv A outer s H E c) (fun hl ds Ψ Ξ h1 h2 => m_check_log hl ds Ψ Ξ h1 h2)
theorem ok_numbers_text (T : Txt P w K mg base C) (D : Defs K mg C) : FnG P w K mg base 2 C.f_numbers_text C.d_numbers_text ["numbers"] (lSp K 1 (sp_numbers_text C)) :=
  defG D.F_numbers_text sc_numbers_text rfl (fun cdv A outer s H E c => dv_numbers_text T cdv A outer s H E c) (fun hl ds Ψ Ξ h1 h2 => m_numbers_text hl ds Ψ Ξ h1 h2)
theorem ok_numbers_by_word (T : Txt P w K mg base C) (D : Defs K mg C) : FnG P w K mg base 2 C.f_numbers_by_word C.d_numbers_by_word ["many"] (lSp K 1 (sp_numbers_by_word C)) :=
  defG D.F_numbers_by_word sc_numbers_by_word rfl (fun cdv A outer s H E c => dv_numbers_by_word T cdv A outer s H E c) (fun hl ds Ψ Ξ h1 h2 => m_numbers_by_word hl ds Ψ Ξ h1 h2)
theorem ok_machine_text (T : Txt P w K mg base C) (D : Defs K mg C) : FnG P w K mg base 3 C.f_machine_text C.d_machine_text ["machine"] (lSp K 1 (sp_machine_text C)) :=
  defG D.F_machine_text sc_machine_text rfl (fun cdv A outer s H E c => dv_machine_text T (ok_numbers_text T D) D.U_numbers_text cdv A outer s H E c) (fun hl ds Ψ Ξ h1 h2 => m_machine_text hl ds Ψ Ξ h1 h2)
theorem ok_told_states (T : Txt P w K mg base C) (D : Defs K mg C) : FnG P w K mg base 3 C.f_told_states C.d_told_states ["line"] (lSp K 1 (sp_told_states C)) :=
  defG D.F_told_states sc_told_states rfl (fun cdv A outer s H E c => dv_told_states T (ok_numbers_by_word T D) D.U_numbers_by_word cdv A outer s H E c) (fun hl ds Ψ Ξ h1 h2 => m_told_states hl ds Ψ Ξ h1 h2)
theorem ok_told_table (T : Txt P w K mg base C) (D : Defs K mg C) : FnG P w K mg base 3 C.f_told_table C.d_told_table ["line", "states"] (lSp K 2 (sp_told_table C)) :=
  defG D.F_told_table sc_told_table rfl (fun cdv A outer s H E c => dv_told_table T (ok_numbers_by_word T D) D.U_numbers_by_word cdv A outer s H E c) (fun hl ds Ψ Ξ h1 h2 => m_told_table hl ds Ψ Ξ h1 h2)
theorem ok_read_machine (T : Txt P w K mg base C) (D : Defs K mg C) : FnG P w K mg base 9 C.f_read_machine C.d_read_machine ["text"] (lSp K 1 (sp_read_machine C)) :=
  defG D.F_read_machine sc_read_machine rfl (fun cdv A outer s H E c => dv_read_machine T (ok_Machine_init T D) D.K_Machine_init (ok_told_states T D) D.U_told_states (ok_told_table T D) D.U_told_table cdv A outer s H E c) (fun hl ds Ψ Ξ h1 h2 => m_read_machine hl ds Ψ Ξ h1 h2)
theorem ok_log_text (T : Txt P w K mg base C) (D : Defs K mg C) : FnG P w K mg base 7 C.f_log_text C.d_log_text ["machine", "log"] (lSp K 2 (sp_log_text C)) :=
  defG D.F_log_text sc_log_text rfl (fun cdv A outer s H E c => dv_log_text T (ok_check_log T D) D.U_check_log (ok_numbers_text T D) D.U_numbers_text cdv A outer s H E c) (fun hl ds Ψ Ξ h1 h2 => m_log_text hl ds Ψ Ξ h1 h2)
theorem ok_read_log (T : Txt P w K mg base C) (D : Defs K mg C) : FnG P w K mg base 3 C.f_read_log C.d_read_log ["machine", "text"] (lSp K 2 (sp_read_log C)) :=
  defG D.F_read_log sc_read_log rfl (fun cdv A outer s H E c => dv_read_log T (ok_numbers_by_word T D) D.U_numbers_by_word cdv A outer s H E c) (fun hl ds Ψ Ξ h1 h2 => m_read_log hl ds Ψ Ξ h1 h2)
theorem ok_law_box (T : Txt P w K mg base C) (D : Defs K mg C) : FnG P w K mg base 2 C.f_law_box C.d_law_box ["script", "k"] (lSpO K 2 (so_law_box C)) :=
  defO D.F_law_box sc_law_box rfl (fun cdv A outer s H E c => dv_law_box T cdv A outer s H E c) (fun ds Ψ h1 h2 => m_law_box ds Ψ h1 h2)
theorem ok_law_take (T : Txt P w K mg base C) (D : Defs K mg C) : FnG P w K mg base 2 C.f_law_take C.d_law_take ["box", "many"] (lSp K 2 (sp_law_take C)) :=
  defG D.F_law_take sc_law_take rfl (fun cdv A outer s H E c => dv_law_take T cdv A outer s H E c) (fun hl ds Ψ Ξ h1 h2 => m_law_take hl ds Ψ Ξ h1 h2)
theorem ok_law_pick (T : Txt P w K mg base C) (D : Defs K mg C) : FnG P w K mg base 3 C.f_law_pick C.d_law_pick ["box", "some"] (lSp K 2 (sp_law_pick C)) :=
  defG D.F_law_pick sc_law_pick rfl (fun cdv A outer s H E c => dv_law_pick T (ok_law_take T D) D.U_law_take cdv A outer s H E c) (fun hl ds Ψ Ξ h1 h2 => m_law_pick hl ds Ψ Ξ h1 h2)
theorem ok_law_tables (T : Txt P w K mg base C) (D : Defs K mg C) : FnG P w K mg base 4 C.f_law_tables C.d_law_tables ["box", "sizes", "kinds"] (lSp K 3 (sp_law_tables C)) :=
  defG D.F_law_tables sc_law_tables rfl (fun cdv A outer s H E c => dv_law_tables T (ok_law_pick T D) D.U_law_pick (ok_law_take T D) D.U_law_take cdv A outer s H E c) (fun hl ds Ψ Ξ h1 h2 => m_law_tables hl ds Ψ Ξ h1 h2)
theorem ok_law_log (T : Txt P w K mg base C) (D : Defs K mg C) : FnG P w K mg base 3 C.f_law_log C.d_law_log ["box", "tables", "most"] (lSp K 3 (sp_law_log C)) :=
  defG D.F_law_log sc_law_log rfl (fun cdv A outer s H E c => dv_law_log T (ok_law_take T D) D.U_law_take cdv A outer s H E c) (fun hl ds Ψ Ξ h1 h2 => m_law_log hl ds Ψ Ξ h1 h2)
theorem ok_law_reads (T : Txt P w K mg base C) (D : Defs K mg C) : FnG P w K mg base 10 C.f_law_reads C.d_law_reads ["text"] (lSp K 1 (sp_law_reads C)) :=
  defG D.F_law_reads sc_law_reads rfl (fun cdv A outer s H E c => dv_law_reads T D.kb_read_machine_0 (ok_read_machine T D) D.U_read_machine cdv A outer s H E c) (fun hl ds Ψ Ξ h1 h2 => m_law_reads D.hxT T.ec_BadText D.hkT hl ds Ψ Ξ h1 h2)
theorem ok_law_reads_log (T : Txt P w K mg base C) (D : Defs K mg C) : FnG P w K mg base 4 C.f_law_reads_log C.d_law_reads_log ["machine", "text"] (lSp K 2 (sp_law_reads_log C)) :=
  defG D.F_law_reads_log sc_law_reads_log rfl (fun cdv A outer s H E c => dv_law_reads_log T (ok_read_log T D) D.U_read_log cdv A outer s H E c) (fun hl ds Ψ Ξ h1 h2 => m_law_reads_log D.hxT T.ec_BadText D.hkT hl ds Ψ Ξ h1 h2)
theorem ok_law_machine_right (T : Txt P w K mg base C) (D : Defs K mg C) : FnG P w K mg base 11 C.f_law_machine_right C.d_law_machine_right ["box", "tables"] (lSp K 2 (sp_law_machine_right C)) :=
  defG D.F_law_machine_right sc_law_machine_right rfl (fun cdv A outer s H E c => dv_law_machine_right T D.kb_machine_text_0 (ok_Machine_eq T D) D.K_Machine_eq (ok_Machine_init T D) D.K_Machine_init (ok_law_pick T D) D.U_law_pick (ok_law_reads T D) D.U_law_reads (ok_law_take T D) D.U_law_take (ok_machine_text T D) D.U_machine_text (ok_read_machine T D) D.U_read_machine cdv A outer s H E c) (fun hl ds Ψ Ξ h1 h2 => m_law_machine_right hl ds Ψ Ξ h1 h2)
theorem ok_law_log_right (T : Txt P w K mg base C) (D : Defs K mg C) : FnG P w K mg base 9 C.f_law_log_right C.d_law_log_right ["box", "tables"] (lSp K 2 (sp_law_log_right C)) :=
  defG D.F_law_log_right sc_law_log_right rfl (fun cdv A outer s H E c => dv_law_log_right T D.kb_log_text_10 D.kb_read_log_10 (ok_Machine_init T D) D.K_Machine_init (ok_law_log T D) D.U_law_log (ok_law_pick T D) D.U_law_pick (ok_law_reads_log T D) D.U_law_reads_log (ok_law_take T D) D.U_law_take (ok_log_text T D) D.U_log_text (ok_read_log T D) D.U_read_log cdv A outer s H E c) (fun hl ds Ψ Ξ h1 h2 => m_law_log_right D.hxL hl ds Ψ Ξ h1 h2)
theorem ok_law (T : Txt P w K mg base C) (D : Defs K mg C) : FnG P w K mg base 12 C.f_law C.d_law ["script"] (lSp K 1 (sp_law C)) :=
  defG D.F_law sc_law rfl (fun cdv A outer s H E c => dv_law T (ok_Machine_init T D) D.K_Machine_init (ok_law_box T D) D.U_law_box (ok_law_log_right T D) D.U_law_log_right (ok_law_machine_right T D) D.U_law_machine_right (ok_law_reads_log T D) D.U_law_reads_log (ok_law_tables T D) D.U_law_tables (ok_law_take T D) D.U_law_take cdv A outer s H E c) (fun hl ds Ψ Ξ h1 h2 => m_law hl ds Ψ Ξ h1 h2)
end
end K04
set_option Elab.async false
set_option linter.all false
set_option maxRecDepth 100000
set_option maxHeartbeats 3900000
namespace K04
open DL L2 PyProof.Rows PySem PySem.Spec
theorem fund {K : Fg} {x qual : Str} {st : Stmt} {f : Addr} {oc : Value} {od an : Option Addr} {osl : Array (Option Value)} {kV doc pm cdv ct : Value}
    (l : K.lookup f = some ⟨oc, od, .func (PySem.W.fnOf x qual (defArgs st) (defBody st) (defScope st) .none kV doc pm an cdv ct), osl⟩) (c : PySem.W.codeIn K cdv qual = true) (k : PySem.W.keepIn K (.ref f) = true) :
    FunD K x qual (defArgs st) (defBody st) (defScope st) [] [] f (PySem.W.fnOf x qual (defArgs st) (defBody st) (defScope st) .none kV doc pm an cdv ct) :=
  ⟨⟨oc, od, .none, kV, doc, pm, an, cdv, ct, osl, rfl, l, c, .inl ⟨rfl, rfl⟩, .inl rfl⟩, k⟩
set_option autoImplicit true in
theorem all_mk {P : Program} {w : World} {K : Fg} {mg : Str → Option Value} {h : Heap} (X : K.In h) (G : h.Ns mainGlobals mg) (hfa : mg "law" = some (.ref fa))
    (a_AgeError : PySem.W.nsIn K mainGlobals "AgeError" = some (some (.ref A_AgeError)))
    (a_BadMachine : PySem.W.nsIn K mainGlobals "BadMachine" = some (some (.ref A_BadMachine)))
    (a_BadLog : PySem.W.nsIn K mainGlobals "BadLog" = some (some (.ref A_BadLog)))
    (a_BadText : PySem.W.nsIn K mainGlobals "BadText" = some (some (.ref A_BadText)))
    (a_Machine : PySem.W.nsIn K mainGlobals "Machine" = some (some (.ref A_Machine)))
    (a_MOST_TABLES : PySem.W.nsIn K mainGlobals "MOST_TABLES" = some (some (.int 8 t_MOST_TABLES)))
    (a_MOST_STATES : PySem.W.nsIn K mainGlobals "MOST_STATES" = some (some (.int 12 t_MOST_STATES)))
    (a_MOST_DEEDS : PySem.W.nsIn K mainGlobals "MOST_DEEDS" = some (some (.int 10000 t_MOST_DEEDS)))
    (a_fi_BadMachine : PySem.W.findIn K (.ref A_BadMachine) "__init__" = some (some (.ref f_fi_BadMachine)))
    (l_fi_BadMachine : K.lookup f_fi_BadMachine = some ⟨oc_fi_BadMachine, od_fi_BadMachine, .func (PySem.W.fnOf "__init__" "BadMachine.__init__" (defArgs (inClass (top 2) 0)) (defBody (inClass (top 2) 0)) (defScope (inClass (top 2) 0)) .none kV_fi_BadMachine dc_fi_BadMachine pm_fi_BadMachine an_fi_BadMachine cd_fi_BadMachine ct_fi_BadMachine), sl_fi_BadMachine⟩)
    (c_fi_BadMachine : PySem.W.codeIn K cd_fi_BadMachine "BadMachine.__init__" = true)
    (k_fi_BadMachine : PySem.W.keepIn K (.ref f_fi_BadMachine) = true)
    (ti_BadMachine : PySem.W.typeIn K (.ref f_fi_BadMachine) = some (.type "function"))
    (cls_BadMachine : K.lookup A_BadMachine = some (excClassObj nm_BadMachine q_BadMachine A_BadMachine N_BadMachine bs_BadMachine bm_BadMachine true sn_BadMachine sub_BadMachine ab_BadMachine col_BadMachine dd_BadMachine k0_BadMachine k1_BadMachine k2_BadMachine k3_BadMachine k5_BadMachine "ValueError.__new__"))
    (rv_BadMachine : PySem.HandSPX.refsVE bm_BadMachine = true)
    (sa_BadMachine : PySem.W.findIn K (.ref A_BadMachine) "__setattr__" = some (some (.builtin "object.__setattr__")))
    (ex_BadMachine : PySem.W.subIn K (.ref A_BadMachine) (.type "BaseException") = some true)
    (ty_BadMachine : PySem.W.typeIn K (.ref A_BadMachine) = some (.type "type"))
    (kc_BadMachine : PySem.W.keepIn K (.ref A_BadMachine) = true)
    (no_BadMachine : PySem.W.findIn K (.ref A_BadMachine) "at" = some none)
    (ga_BadMachine : PySem.W.findIn K (.ref A_BadMachine) "__getattribute__" = some (some (.builtin "BaseException.__getattribute__")))
    (gg_BadMachine : PySem.W.findIn K (.ref A_BadMachine) "__getattr__" = some none)
    (hd_BadMachine : PySem.W.hasDictIn K A_BadMachine = true)
    (ha_BadMachine : PySem.W.findIn K (.ref A_BadMachine) "__class__" = some (some (.builtin "object.__class__")))
    (hm_BadMachine : PySem.W.mroIn K A_BadMachine (.type "object") = some true)
    (a_fi_BadLog : PySem.W.findIn K (.ref A_BadLog) "__init__" = some (some (.ref f_fi_BadLog)))
    (l_fi_BadLog : K.lookup f_fi_BadLog = some ⟨oc_fi_BadLog, od_fi_BadLog, .func (PySem.W.fnOf "__init__" "BadLog.__init__" (defArgs (inClass (top 3) 0)) (defBody (inClass (top 3) 0)) (defScope (inClass (top 3) 0)) .none kV_fi_BadLog dc_fi_BadLog pm_fi_BadLog an_fi_BadLog cd_fi_BadLog ct_fi_BadLog), sl_fi_BadLog⟩)
    (c_fi_BadLog : PySem.W.codeIn K cd_fi_BadLog "BadLog.__init__" = true)
    (k_fi_BadLog : PySem.W.keepIn K (.ref f_fi_BadLog) = true)
    (ti_BadLog : PySem.W.typeIn K (.ref f_fi_BadLog) = some (.type "function"))
    (cls_BadLog : K.lookup A_BadLog = some (excClassObj nm_BadLog q_BadLog A_BadLog N_BadLog bs_BadLog bm_BadLog true sn_BadLog sub_BadLog ab_BadLog col_BadLog dd_BadLog k0_BadLog k1_BadLog k2_BadLog k3_BadLog k5_BadLog "ValueError.__new__"))
    (rv_BadLog : PySem.HandSPX.refsVE bm_BadLog = true)
    (sa_BadLog : PySem.W.findIn K (.ref A_BadLog) "__setattr__" = some (some (.builtin "object.__setattr__")))
    (ex_BadLog : PySem.W.subIn K (.ref A_BadLog) (.type "BaseException") = some true)
    (ty_BadLog : PySem.W.typeIn K (.ref A_BadLog) = some (.type "type"))
    (kc_BadLog : PySem.W.keepIn K (.ref A_BadLog) = true)
    (no_BadLog : PySem.W.findIn K (.ref A_BadLog) "at" = some none)
    (ga_BadLog : PySem.W.findIn K (.ref A_BadLog) "__getattribute__" = some (some (.builtin "BaseException.__getattribute__")))
    (gg_BadLog : PySem.W.findIn K (.ref A_BadLog) "__getattr__" = some none)
    (hd_BadLog : PySem.W.hasDictIn K A_BadLog = true)
    (ha_BadLog : PySem.W.findIn K (.ref A_BadLog) "__class__" = some (some (.builtin "object.__class__")))
    (hm_BadLog : PySem.W.mroIn K A_BadLog (.type "object") = some true)
    (a_fi_BadText : PySem.W.findIn K (.ref A_BadText) "__init__" = some (some (.ref f_fi_BadText)))
    (l_fi_BadText : K.lookup f_fi_BadText = some ⟨oc_fi_BadText, od_fi_BadText, .func (PySem.W.fnOf "__init__" "BadText.__init__" (defArgs (inClass (top 4) 0)) (defBody (inClass (top 4) 0)) (defScope (inClass (top 4) 0)) .none kV_fi_BadText dc_fi_BadText pm_fi_BadText an_fi_BadText cd_fi_BadText ct_fi_BadText), sl_fi_BadText⟩)
    (c_fi_BadText : PySem.W.codeIn K cd_fi_BadText "BadText.__init__" = true)
    (k_fi_BadText : PySem.W.keepIn K (.ref f_fi_BadText) = true)
    (ti_BadText : PySem.W.typeIn K (.ref f_fi_BadText) = some (.type "function"))
    (cls_BadText : K.lookup A_BadText = some (excClassObj nm_BadText q_BadText A_BadText N_BadText bs_BadText bm_BadText true sn_BadText sub_BadText ab_BadText col_BadText dd_BadText k0_BadText k1_BadText k2_BadText k3_BadText k5_BadText "ValueError.__new__"))
    (rv_BadText : PySem.HandSPX.refsVE bm_BadText = true)
    (sa_BadText : PySem.W.findIn K (.ref A_BadText) "__setattr__" = some (some (.builtin "object.__setattr__")))
    (ex_BadText : PySem.W.subIn K (.ref A_BadText) (.type "BaseException") = some true)
    (ty_BadText : PySem.W.typeIn K (.ref A_BadText) = some (.type "type"))
    (kc_BadText : PySem.W.keepIn K (.ref A_BadText) = true)
    (no_BadText : PySem.W.findIn K (.ref A_BadText) "at" = some none)
    (ga_BadText : PySem.W.findIn K (.ref A_BadText) "__getattribute__" = some (some (.builtin "BaseException.__getattribute__")))
    (gg_BadText : PySem.W.findIn K (.ref A_BadText) "__getattr__" = some none)
    (hd_BadText : PySem.W.hasDictIn K A_BadText = true)
    (ha_BadText : PySem.W.findIn K (.ref A_BadText) "__class__" = some (some (.builtin "object.__class__")))
    (hm_BadText : PySem.W.mroIn K A_BadText (.type "object") = some true)
    (hn : PySem.W.specialIn K (.builtin "object.__class__") "__get__" = some (some (.builtin "getset_descriptor.__get__")))
    (ht : PySem.W.takesIn K (.builtin "object.__class__") = some true)
    (a_is_integer : PySem.W.nsIn K mainGlobals "is_integer" = some (some (.ref f_is_integer)))
    (l_is_integer : K.lookup f_is_integer = some ⟨oc_is_integer, od_is_integer, .func (PySem.W.fnOf "is_integer" "is_integer" (defArgs (top 6)) (defBody (top 6)) (defScope (top 6)) .none kV_is_integer dc_is_integer pm_is_integer an_is_integer cd_is_integer ct_is_integer), sl_is_integer⟩)
    (c_is_integer : PySem.W.codeIn K cd_is_integer "is_integer" = true)
    (k_is_integer : PySem.W.keepIn K (.ref f_is_integer) = true)
    (a_is_below : PySem.W.nsIn K mainGlobals "is_below" = some (some (.ref f_is_below)))
    (l_is_below : K.lookup f_is_below = some ⟨oc_is_below, od_is_below, .func (PySem.W.fnOf "is_below" "is_below" (defArgs (top 7)) (defBody (top 7)) (defScope (top 7)) .none kV_is_below dc_is_below pm_is_below an_is_below cd_is_below ct_is_below), sl_is_below⟩)
    (c_is_below : PySem.W.codeIn K cd_is_below "is_below" = true)
    (k_is_below : PySem.W.keepIn K (.ref f_is_below) = true)
    (a_is_sequence : PySem.W.nsIn K mainGlobals "is_sequence" = some (some (.ref f_is_sequence)))
    (l_is_sequence : K.lookup f_is_sequence = some ⟨oc_is_sequence, od_is_sequence, .func (PySem.W.fnOf "is_sequence" "is_sequence" (defArgs (top 8)) (defBody (top 8)) (defScope (top 8)) .none kV_is_sequence dc_is_sequence pm_is_sequence an_is_sequence cd_is_sequence ct_is_sequence), sl_is_sequence⟩)
    (c_is_sequence : PySem.W.codeIn K cd_is_sequence "is_sequence" = true)
    (k_is_sequence : PySem.W.keepIn K (.ref f_is_sequence) = true)
    (a_fault_place : PySem.W.nsIn K mainGlobals "fault_place" = some (some (.ref f_fault_place)))
    (l_fault_place : K.lookup f_fault_place = some ⟨oc_fault_place, od_fault_place, .func (PySem.W.fnOf "fault_place" "fault_place" (defArgs (top 9)) (defBody (top 9)) (defScope (top 9)) .none kV_fault_place dc_fault_place pm_fault_place an_fault_place cd_fault_place ct_fault_place), sl_fault_place⟩)
    (c_fault_place : PySem.W.codeIn K cd_fault_place "fault_place" = true)
    (k_fault_place : PySem.W.keepIn K (.ref f_fault_place) = true)
    (a_is_table : PySem.W.nsIn K mainGlobals "is_table" = some (some (.ref f_is_table)))
    (l_is_table : K.lookup f_is_table = some ⟨oc_is_table, od_is_table, .func (PySem.W.fnOf "is_table" "is_table" (defArgs (top 14)) (defBody (top 14)) (defScope (top 14)) .none kV_is_table dc_is_table pm_is_table an_is_table cd_is_table ct_is_table), sl_is_table⟩)
    (c_is_table : PySem.W.codeIn K cd_is_table "is_table" = true)
    (k_is_table : PySem.W.keepIn K (.ref f_is_table) = true)
    (a_check_tables : PySem.W.nsIn K mainGlobals "check_tables" = some (some (.ref f_check_tables)))
    (l_check_tables : K.lookup f_check_tables = some ⟨oc_check_tables, od_check_tables, .func (PySem.W.fnOf "check_tables" "check_tables" (defArgs (top 15)) (defBody (top 15)) (defScope (top 15)) .none kV_check_tables dc_check_tables pm_check_tables an_check_tables cd_check_tables ct_check_tables), sl_check_tables⟩)
    (c_check_tables : PySem.W.codeIn K cd_check_tables "check_tables" = true)
    (k_check_tables : PySem.W.keepIn K (.ref f_check_tables) = true)
    (a_Machine_init : PySem.W.findIn K (.ref A_Machine) "__init__" = some (some (.ref f_Machine_init)))
    (i_Machine_init : PySem.W.isFn K (.ref f_Machine_init) = true)
    (l_Machine_init : K.lookup f_Machine_init = some ⟨oc_Machine_init, od_Machine_init, .func (PySem.W.fnOf "__init__" "Machine.__init__" (defArgs (inClass (top 16) 0)) (defBody (inClass (top 16) 0)) (defScope (inClass (top 16) 0)) .none kV_Machine_init dc_Machine_init pm_Machine_init an_Machine_init cd_Machine_init ct_Machine_init), sl_Machine_init⟩)
    (c_Machine_init : PySem.W.codeIn K cd_Machine_init "Machine.__init__" = true)
    (k_Machine_init : PySem.W.keepIn K (.ref f_Machine_init) = true)
    (a_Machine_eq : PySem.W.findIn K (.ref A_Machine) "__eq__" = some (some (.ref f_Machine_eq)))
    (i_Machine_eq : PySem.W.isFn K (.ref f_Machine_eq) = true)
    (l_Machine_eq : K.lookup f_Machine_eq = some ⟨oc_Machine_eq, od_Machine_eq, .func (PySem.W.fnOf "__eq__" "Machine.__eq__" (defArgs (inClass (top 16) 1)) (defBody (inClass (top 16) 1)) (defScope (inClass (top 16) 1)) .none kV_Machine_eq dc_Machine_eq pm_Machine_eq an_Machine_eq cd_Machine_eq ct_Machine_eq), sl_Machine_eq⟩)
    (c_Machine_eq : PySem.W.codeIn K cd_Machine_eq "Machine.__eq__" = true)
    (k_Machine_eq : PySem.W.keepIn K (.ref f_Machine_eq) = true)
    (a_log_fault : PySem.W.nsIn K mainGlobals "log_fault" = some (some (.ref f_log_fault)))
    (l_log_fault : K.lookup f_log_fault = some ⟨oc_log_fault, od_log_fault, .func (PySem.W.fnOf "log_fault" "log_fault" (defArgs (top 17)) (defBody (top 17)) (defScope (top 17)) .none kV_log_fault dc_log_fault pm_log_fault an_log_fault cd_log_fault ct_log_fault), sl_log_fault⟩)
    (c_log_fault : PySem.W.codeIn K cd_log_fault "log_fault" = true)
    (k_log_fault : PySem.W.keepIn K (.ref f_log_fault) = true)
    (a_check_log : PySem.W.nsIn K mainGlobals "check_log" = some (some (.ref f_check_log)))
    (l_check_log : K.lookup f_check_log = some ⟨oc_check_log, od_check_log, .func (PySem.W.fnOf "check_log" "check_log" (defArgs (top 18)) (defBody (top 18)) (defScope (top 18)) .none kV_check_log dc_check_log pm_check_log an_check_log cd_check_log ct_check_log), sl_check_log⟩)
    (c_check_log : PySem.W.codeIn K cd_check_log "check_log" = true)
    (k_check_log : PySem.W.keepIn K (.ref f_check_log) = true)
    (a_numbers_text : PySem.W.nsIn K mainGlobals "numbers_text" = some (some (.ref f_numbers_text)))
    (l_numbers_text : K.lookup f_numbers_text = some ⟨oc_numbers_text, od_numbers_text, .func (PySem.W.fnOf "numbers_text" "numbers_text" (defArgs (top 20)) (defBody (top 20)) (defScope (top 20)) .none kV_numbers_text dc_numbers_text pm_numbers_text an_numbers_text cd_numbers_text ct_numbers_text), sl_numbers_text⟩)
    (c_numbers_text : PySem.W.codeIn K cd_numbers_text "numbers_text" = true)
    (k_numbers_text : PySem.W.keepIn K (.ref f_numbers_text) = true)
    (a_numbers_by_word : PySem.W.nsIn K mainGlobals "numbers_by_word" = some (some (.ref f_numbers_by_word)))
    (l_numbers_by_word : K.lookup f_numbers_by_word = some ⟨oc_numbers_by_word, od_numbers_by_word, .func (PySem.W.fnOf "numbers_by_word" "numbers_by_word" (defArgs (top 21)) (defBody (top 21)) (defScope (top 21)) .none kV_numbers_by_word dc_numbers_by_word pm_numbers_by_word an_numbers_by_word cd_numbers_by_word ct_numbers_by_word), sl_numbers_by_word⟩)
    (c_numbers_by_word : PySem.W.codeIn K cd_numbers_by_word "numbers_by_word" = true)
    (k_numbers_by_word : PySem.W.keepIn K (.ref f_numbers_by_word) = true)
    (a_machine_text : PySem.W.nsIn K mainGlobals "machine_text" = some (some (.ref f_machine_text)))
    (l_machine_text : K.lookup f_machine_text = some ⟨oc_machine_text, od_machine_text, .func (PySem.W.fnOf "machine_text" "machine_text" (defArgs (top 22)) (defBody (top 22)) (defScope (top 22)) .none kV_machine_text dc_machine_text pm_machine_text an_machine_text cd_machine_text ct_machine_text), sl_machine_text⟩)
    (c_machine_text : PySem.W.codeIn K cd_machine_text "machine_text" = true)
    (k_machine_text : PySem.W.keepIn K (.ref f_machine_text) = true)
    (a_told_states : PySem.W.nsIn K mainGlobals "told_states" = some (some (.ref f_told_states)))
    (l_told_states : K.lookup f_told_states = some ⟨oc_told_states, od_told_states, .func (PySem.W.fnOf "told_states" "told_states" (defArgs (top 23)) (defBody (top 23)) (defScope (top 23)) .none kV_told_states dc_told_states pm_told_states an_told_states cd_told_states ct_told_states), sl_told_states⟩)
    (c_told_states : PySem.W.codeIn K cd_told_states "told_states" = true)
    (k_told_states : PySem.W.keepIn K (.ref f_told_states) = true)
    (a_told_table : PySem.W.nsIn K mainGlobals "told_table" = some (some (.ref f_told_table)))
    (l_told_table : K.lookup f_told_table = some ⟨oc_told_table, od_told_table, .func (PySem.W.fnOf "told_table" "told_table" (defArgs (top 24)) (defBody (top 24)) (defScope (top 24)) .none kV_told_table dc_told_table pm_told_table an_told_table cd_told_table ct_told_table), sl_told_table⟩)
    (c_told_table : PySem.W.codeIn K cd_told_table "told_table" = true)
    (k_told_table : PySem.W.keepIn K (.ref f_told_table) = true)
    (a_read_machine : PySem.W.nsIn K mainGlobals "read_machine" = some (some (.ref f_read_machine)))
    (l_read_machine : K.lookup f_read_machine = some ⟨oc_read_machine, od_read_machine, .func (PySem.W.fnOf "read_machine" "read_machine" (defArgs (top 25)) (defBody (top 25)) (defScope (top 25)) .none kV_read_machine dc_read_machine pm_read_machine an_read_machine cd_read_machine ct_read_machine), sl_read_machine⟩)
    (c_read_machine : PySem.W.codeIn K cd_read_machine "read_machine" = true)
    (k_read_machine : PySem.W.keepIn K (.ref f_read_machine) = true)
    (a_log_text : PySem.W.nsIn K mainGlobals "log_text" = some (some (.ref f_log_text)))
    (l_log_text : K.lookup f_log_text = some ⟨oc_log_text, od_log_text, .func (PySem.W.fnOf "log_text" "log_text" (defArgs (top 26)) (defBody (top 26)) (defScope (top 26)) .none kV_log_text dc_log_text pm_log_text an_log_text cd_log_text ct_log_text), sl_log_text⟩)
    (c_log_text : PySem.W.codeIn K cd_log_text "log_text" = true)
    (k_log_text : PySem.W.keepIn K (.ref f_log_text) = true)
    (a_read_log : PySem.W.nsIn K mainGlobals "read_log" = some (some (.ref f_read_log)))
    (l_read_log : K.lookup f_read_log = some ⟨oc_read_log, od_read_log, .func (PySem.W.fnOf "read_log" "read_log" (defArgs (top 27)) (defBody (top 27)) (defScope (top 27)) .none kV_read_log dc_read_log pm_read_log an_read_log cd_read_log ct_read_log), sl_read_log⟩)
    (c_read_log : PySem.W.codeIn K cd_read_log "read_log" = true)
    (k_read_log : PySem.W.keepIn K (.ref f_read_log) = true)
    (a_law_box : PySem.W.nsIn K mainGlobals "_law_box" = some (some (.ref f_law_box)))
    (l_law_box : K.lookup f_law_box = some ⟨oc_law_box, od_law_box, .func (PySem.W.fnOf "_law_box" "_law_box" (defArgs (top 29)) (defBody (top 29)) (defScope (top 29)) .none kV_law_box dc_law_box pm_law_box an_law_box cd_law_box ct_law_box), sl_law_box⟩)
    (c_law_box : PySem.W.codeIn K cd_law_box "_law_box" = true)
    (k_law_box : PySem.W.keepIn K (.ref f_law_box) = true)
    (a_law_take : PySem.W.nsIn K mainGlobals "_law_take" = some (some (.ref f_law_take)))
    (l_law_take : K.lookup f_law_take = some ⟨oc_law_take, od_law_take, .func (PySem.W.fnOf "_law_take" "_law_take" (defArgs (top 30)) (defBody (top 30)) (defScope (top 30)) .none kV_law_take dc_law_take pm_law_take an_law_take cd_law_take ct_law_take), sl_law_take⟩)
    (c_law_take : PySem.W.codeIn K cd_law_take "_law_take" = true)
    (k_law_take : PySem.W.keepIn K (.ref f_law_take) = true)
    (a_law_pick : PySem.W.nsIn K mainGlobals "_law_pick" = some (some (.ref f_law_pick)))
    (l_law_pick : K.lookup f_law_pick = some ⟨oc_law_pick, od_law_pick, .func (PySem.W.fnOf "_law_pick" "_law_pick" (defArgs (top 31)) (defBody (top 31)) (defScope (top 31)) .none kV_law_pick dc_law_pick pm_law_pick an_law_pick cd_law_pick ct_law_pick), sl_law_pick⟩)
    (c_law_pick : PySem.W.codeIn K cd_law_pick "_law_pick" = true)
    (k_law_pick : PySem.W.keepIn K (.ref f_law_pick) = true)
    (a_law_tables : PySem.W.nsIn K mainGlobals "_law_tables" = some (some (.ref f_law_tables)))
    (l_law_tables : K.lookup f_law_tables = some ⟨oc_law_tables, od_law_tables, .func (PySem.W.fnOf "_law_tables" "_law_tables" (defArgs (top 32)) (defBody (top 32)) (defScope (top 32)) .none kV_law_tables dc_law_tables pm_law_tables an_law_tables cd_law_tables ct_law_tables), sl_law_tables⟩)
    (c_law_tables : PySem.W.codeIn K cd_law_tables "_law_tables" = true)
    (k_law_tables : PySem.W.keepIn K (.ref f_law_tables) = true)
    (a_law_log : PySem.W.nsIn K mainGlobals "_law_log" = some (some (.ref f_law_log)))
    (l_law_log : K.lookup f_law_log = some ⟨oc_law_log, od_law_log, .func (PySem.W.fnOf "_law_log" "_law_log" (defArgs (top 33)) (defBody (top 33)) (defScope (top 33)) .none kV_law_log dc_law_log pm_law_log an_law_log cd_law_log ct_law_log), sl_law_log⟩)
    (c_law_log : PySem.W.codeIn K cd_law_log "_law_log" = true)
    (k_law_log : PySem.W.keepIn K (.ref f_law_log) = true)
    (a_law_reads : PySem.W.nsIn K mainGlobals "_law_reads" = some (some (.ref f_law_reads)))
    (l_law_reads : K.lookup f_law_reads = some ⟨oc_law_reads, od_law_reads, .func (PySem.W.fnOf "_law_reads" "_law_reads" (defArgs (top 34)) (defBody (top 34)) (defScope (top 34)) .none kV_law_reads dc_law_reads pm_law_reads an_law_reads cd_law_reads ct_law_reads), sl_law_reads⟩)
    (c_law_reads : PySem.W.codeIn K cd_law_reads "_law_reads" = true)
    (k_law_reads : PySem.W.keepIn K (.ref f_law_reads) = true)
    (a_law_reads_log : PySem.W.nsIn K mainGlobals "_law_reads_log" = some (some (.ref f_law_reads_log)))
    (l_law_reads_log : K.lookup f_law_reads_log = some ⟨oc_law_reads_log, od_law_reads_log, .func (PySem.W.fnOf "_law_reads_log" "_law_reads_log" (defArgs (top 35)) (defBody (top 35)) (defScope (top 35)) .none kV_law_reads_log dc_law_reads_log pm_law_reads_log an_law_reads_log cd_law_reads_log ct_law_reads_log), sl_law_reads_log⟩)
    (c_law_reads_log : PySem.W.codeIn K cd_law_reads_log "_law_reads_log" = true)
    (k_law_reads_log : PySem.W.keepIn K (.ref f_law_reads_log) = true)
    (a_law_machine_right : PySem.W.nsIn K mainGlobals "_law_machine_right" = some (some (.ref f_law_machine_right)))
    (l_law_machine_right : K.lookup f_law_machine_right = some ⟨oc_law_machine_right, od_law_machine_right, .func (PySem.W.fnOf "_law_machine_right" "_law_machine_right" (defArgs (top 36)) (defBody (top 36)) (defScope (top 36)) .none kV_law_machine_right dc_law_machine_right pm_law_machine_right an_law_machine_right cd_law_machine_right ct_law_machine_right), sl_law_machine_right⟩)
    (c_law_machine_right : PySem.W.codeIn K cd_law_machine_right "_law_machine_right" = true)
    (k_law_machine_right : PySem.W.keepIn K (.ref f_law_machine_right) = true)
    (a_law_log_right : PySem.W.nsIn K mainGlobals "_law_log_right" = some (some (.ref f_law_log_right)))
    (l_law_log_right : K.lookup f_law_log_right = some ⟨oc_law_log_right, od_law_log_right, .func (PySem.W.fnOf "_law_log_right" "_law_log_right" (defArgs (top 37)) (defBody (top 37)) (defScope (top 37)) .none kV_law_log_right dc_law_log_right pm_law_log_right an_law_log_right cd_law_log_right ct_law_log_right), sl_law_log_right⟩)
    (c_law_log_right : PySem.W.codeIn K cd_law_log_right "_law_log_right" = true)
    (k_law_log_right : PySem.W.keepIn K (.ref f_law_log_right) = true)
    (a_law : PySem.W.nsIn K mainGlobals "law" = some (some (.ref f_law)))
    (l_law : K.lookup f_law = some ⟨oc_law, od_law, .func (PySem.W.fnOf "law" "law" (defArgs (top 38)) (defBody (top 38)) (defScope (top 38)) .none kV_law dc_law pm_law an_law cd_law ct_law), sl_law⟩)
    (c_law : PySem.W.codeIn K cd_law "law" = true)
    (k_law : PySem.W.keepIn K (.ref f_law) = true)
    (pg : PySem.W.plainGet K A_Machine Str.empty = true)
    (hd : PySem.W.hasDictIn K A_Machine = true)
    (po : PySem.W.plainOver K A_Machine = true)
    (sa : PySem.W.findIn K (.ref A_Machine) "__setattr__" = some (some (.builtin "object.__setattr__")))
    (mk : PySem.W.makesIn K A_Machine = true)
    (kc : PySem.W.keepIn K (.ref A_Machine) = true)
    (ha : PySem.W.findIn K (.ref A_Machine) "__class__" = some (some (.builtin "object.__class__")))
    (hm : PySem.W.mroIn K A_Machine (.type "object") = some true)
    (cls : K.lookup A_Machine = some (excClassObj nm_M q_M A_Machine N_M bs_M [.type "object"] hdct_M sn_M sub_M ab_M col_M dd_M k0_M k1_M k2_M k3_M k5_M ni_M))
    (nk : PySem.W.nsOkIn K N_M = true)
    (ne1 : PySem.W.nsIn K N_M "__eq__" = some (some (.ref f_Machine_eq)))
    (ne2 : PySem.W.nsIn K N_M "__ne__" = some none)
    (n_tables : PySem.W.findIn K (.ref A_Machine) "tables" = some none)
    (n_deeds : PySem.W.findIn K (.ref A_Machine) "deeds" = some none)
    (n_states : PySem.W.findIn K (.ref A_Machine) "states" = some none)
    (z_abs : PySem.W.nsIn K mainGlobals "abs" = some none)
    (z_bool : PySem.W.nsIn K mainGlobals "bool" = some none)
    (z_enumerate : PySem.W.nsIn K mainGlobals "enumerate" = some none)
    (z_int : PySem.W.nsIn K mainGlobals "int" = some none)
    (z_isinstance : PySem.W.nsIn K mainGlobals "isinstance" = some none)
    (z_len : PySem.W.nsIn K mainGlobals "len" = some none)
    (z_list : PySem.W.nsIn K mainGlobals "list" = some none)
    (z_max : PySem.W.nsIn K mainGlobals "max" = some none)
    (z_min : PySem.W.nsIn K mainGlobals "min" = some none)
    (z_range : PySem.W.nsIn K mainGlobals "range" = some none)
    (z_repr : PySem.W.nsIn K mainGlobals "repr" = some none)
    (z_str : PySem.W.nsIn K mainGlobals "str" = some none)
    (z_tuple : PySem.W.nsIn K mainGlobals "tuple" = some none)
    (hxT : PySem.W.exmOne K (.ref A_BadText) (.ref A_BadText) = some true)
    (hxL : PySem.W.exmOne K (.ref A_BadLog) (.ref A_BadLog) = some true)
    (hkT : PySem.W.kitOne K (.ref A_BadText) (.ref A_AgeError) = some true)
    (hkM : PySem.W.kitOne K (.ref A_Machine) (.ref A_Machine) = some true) :
    ∃ fd : FuncData, (∀ (s : Shared) (u : Value), BindsTo s fd ⟨[u], []⟩ [("script", u)]) ∧ ∀ base : Heap, K.In base → base.Ns mainGlobals mg → FnG P w K mg base 12 fa fd ["script"] (lSp K 1 (spLaw fun ns => ns.length ≤ 63)) := by
  have e := hfa.symm.trans (PySem.W.mg_of X G a_law)
  cases e
  let C : Cs := { AgeError := A_AgeError, BadMachine := A_BadMachine, BadLog := A_BadLog, BadText := A_BadText, Machine := A_Machine, fi_BadMachine := f_fi_BadMachine, fd_BadMachine := (PySem.W.fnOf "__init__" "BadMachine.__init__" (defArgs (inClass (top 2) 0)) (defBody (inClass (top 2) 0)) (defScope (inClass (top 2) 0)) .none kV_fi_BadMachine dc_fi_BadMachine pm_fi_BadMachine an_fi_BadMachine cd_fi_BadMachine ct_fi_BadMachine), fi_BadLog := f_fi_BadLog, fd_BadLog := (PySem.W.fnOf "__init__" "BadLog.__init__" (defArgs (inClass (top 3) 0)) (defBody (inClass (top 3) 0)) (defScope (inClass (top 3) 0)) .none kV_fi_BadLog dc_fi_BadLog pm_fi_BadLog an_fi_BadLog cd_fi_BadLog ct_fi_BadLog), fi_BadText := f_fi_BadText, fd_BadText := (PySem.W.fnOf "__init__" "BadText.__init__" (defArgs (inClass (top 4) 0)) (defBody (inClass (top 4) 0)) (defScope (inClass (top 4) 0)) .none kV_fi_BadText dc_fi_BadText pm_fi_BadText an_fi_BadText cd_fi_BadText ct_fi_BadText), f_is_integer := f_is_integer, d_is_integer := (PySem.W.fnOf "is_integer" "is_integer" (defArgs (top 6)) (defBody (top 6)) (defScope (top 6)) .none kV_is_integer dc_is_integer pm_is_integer an_is_integer cd_is_integer ct_is_integer), f_is_below := f_is_below, d_is_below := (PySem.W.fnOf "is_below" "is_below" (defArgs (top 7)) (defBody (top 7)) (defScope (top 7)) .none kV_is_below dc_is_below pm_is_below an_is_below cd_is_below ct_is_below), f_is_sequence := f_is_sequence, d_is_sequence := (PySem.W.fnOf "is_sequence" "is_sequence" (defArgs (top 8)) (defBody (top 8)) (defScope (top 8)) .none kV_is_sequence dc_is_sequence pm_is_sequence an_is_sequence cd_is_sequence ct_is_sequence), f_fault_place := f_fault_place, d_fault_place := (PySem.W.fnOf "fault_place" "fault_place" (defArgs (top 9)) (defBody (top 9)) (defScope (top 9)) .none kV_fault_place dc_fault_place pm_fault_place an_fault_place cd_fault_place ct_fault_place), f_is_table := f_is_table, d_is_table := (PySem.W.fnOf "is_table" "is_table" (defArgs (top 14)) (defBody (top 14)) (defScope (top 14)) .none kV_is_table dc_is_table pm_is_table an_is_table cd_is_table ct_is_table), f_check_tables := f_check_tables, d_check_tables := (PySem.W.fnOf "check_tables" "check_tables" (defArgs (top 15)) (defBody (top 15)) (defScope (top 15)) .none kV_check_tables dc_check_tables pm_check_tables an_check_tables cd_check_tables ct_check_tables), f_Machine_init := f_Machine_init, d_Machine_init := (PySem.W.fnOf "__init__" "Machine.__init__" (defArgs (inClass (top 16) 0)) (defBody (inClass (top 16) 0)) (defScope (inClass (top 16) 0)) .none kV_Machine_init dc_Machine_init pm_Machine_init an_Machine_init cd_Machine_init ct_Machine_init), f_Machine_eq := f_Machine_eq, d_Machine_eq := (PySem.W.fnOf "__eq__" "Machine.__eq__" (defArgs (inClass (top 16) 1)) (defBody (inClass (top 16) 1)) (defScope (inClass (top 16) 1)) .none kV_Machine_eq dc_Machine_eq pm_Machine_eq an_Machine_eq cd_Machine_eq ct_Machine_eq), f_log_fault := f_log_fault, d_log_fault := (PySem.W.fnOf "log_fault" "log_fault" (defArgs (top 17)) (defBody (top 17)) (defScope (top 17)) .none kV_log_fault dc_log_fault pm_log_fault an_log_fault cd_log_fault ct_log_fault), f_check_log := f_check_log, d_check_log := (PySem.W.fnOf "check_log" "check_log" (defArgs (top 18)) (defBody (top 18)) (defScope (top 18)) .none kV_check_log dc_check_log pm_check_log an_check_log cd_check_log ct_check_log), f_numbers_text := f_numbers_text, d_numbers_text := (PySem.W.fnOf "numbers_text" "numbers_text" (defArgs (top 20)) (defBody (top 20)) (defScope (top 20)) .none kV_numbers_text dc_numbers_text pm_numbers_text an_numbers_text cd_numbers_text ct_numbers_text), f_numbers_by_word := f_numbers_by_word, d_numbers_by_word := (PySem.W.fnOf "numbers_by_word" "numbers_by_word" (defArgs (top 21)) (defBody (top 21)) (defScope (top 21)) .none kV_numbers_by_word dc_numbers_by_word pm_numbers_by_word an_numbers_by_word cd_numbers_by_word ct_numbers_by_word), f_machine_text := f_machine_text, d_machine_text := (PySem.W.fnOf "machine_text" "machine_text" (defArgs (top 22)) (defBody (top 22)) (defScope (top 22)) .none kV_machine_text dc_machine_text pm_machine_text an_machine_text cd_machine_text ct_machine_text), f_told_states := f_told_states, d_told_states := (PySem.W.fnOf "told_states" "told_states" (defArgs (top 23)) (defBody (top 23)) (defScope (top 23)) .none kV_told_states dc_told_states pm_told_states an_told_states cd_told_states ct_told_states), f_told_table := f_told_table, d_told_table := (PySem.W.fnOf "told_table" "told_table" (defArgs (top 24)) (defBody (top 24)) (defScope (top 24)) .none kV_told_table dc_told_table pm_told_table an_told_table cd_told_table ct_told_table), f_read_machine := f_read_machine, d_read_machine := (PySem.W.fnOf "read_machine" "read_machine" (defArgs (top 25)) (defBody (top 25)) (defScope (top 25)) .none kV_read_machine dc_read_machine pm_read_machine an_read_machine cd_read_machine ct_read_machine), f_log_text := f_log_text, d_log_text := (PySem.W.fnOf "log_text" "log_text" (defArgs (top 26)) (defBody (top 26)) (defScope (top 26)) .none kV_log_text dc_log_text pm_log_text an_log_text cd_log_text ct_log_text), f_read_log := f_read_log, d_read_log := (PySem.W.fnOf "read_log" "read_log" (defArgs (top 27)) (defBody (top 27)) (defScope (top 27)) .none kV_read_log dc_read_log pm_read_log an_read_log cd_read_log ct_read_log), f_law_box := f_law_box, d_law_box := (PySem.W.fnOf "_law_box" "_law_box" (defArgs (top 29)) (defBody (top 29)) (defScope (top 29)) .none kV_law_box dc_law_box pm_law_box an_law_box cd_law_box ct_law_box), f_law_take := f_law_take, d_law_take := (PySem.W.fnOf "_law_take" "_law_take" (defArgs (top 30)) (defBody (top 30)) (defScope (top 30)) .none kV_law_take dc_law_take pm_law_take an_law_take cd_law_take ct_law_take), f_law_pick := f_law_pick, d_law_pick := (PySem.W.fnOf "_law_pick" "_law_pick" (defArgs (top 31)) (defBody (top 31)) (defScope (top 31)) .none kV_law_pick dc_law_pick pm_law_pick an_law_pick cd_law_pick ct_law_pick), f_law_tables := f_law_tables, d_law_tables := (PySem.W.fnOf "_law_tables" "_law_tables" (defArgs (top 32)) (defBody (top 32)) (defScope (top 32)) .none kV_law_tables dc_law_tables pm_law_tables an_law_tables cd_law_tables ct_law_tables), f_law_log := f_law_log, d_law_log := (PySem.W.fnOf "_law_log" "_law_log" (defArgs (top 33)) (defBody (top 33)) (defScope (top 33)) .none kV_law_log dc_law_log pm_law_log an_law_log cd_law_log ct_law_log), f_law_reads := f_law_reads, d_law_reads := (PySem.W.fnOf "_law_reads" "_law_reads" (defArgs (top 34)) (defBody (top 34)) (defScope (top 34)) .none kV_law_reads dc_law_reads pm_law_reads an_law_reads cd_law_reads ct_law_reads), f_law_reads_log := f_law_reads_log, d_law_reads_log := (PySem.W.fnOf "_law_reads_log" "_law_reads_log" (defArgs (top 35)) (defBody (top 35)) (defScope (top 35)) .none kV_law_reads_log dc_law_reads_log pm_law_reads_log an_law_reads_log cd_law_reads_log ct_law_reads_log), f_law_machine_right := f_law_machine_right, d_law_machine_right := (PySem.W.fnOf "_law_machine_right" "_law_machine_right" (defArgs (top 36)) (defBody (top 36)) (defScope (top 36)) .none kV_law_machine_right dc_law_machine_right pm_law_machine_right an_law_machine_right cd_law_machine_right ct_law_machine_right), f_law_log_right := f_law_log_right, d_law_log_right := (PySem.W.fnOf "_law_log_right" "_law_log_right" (defArgs (top 37)) (defBody (top 37)) (defScope (top 37)) .none kV_law_log_right dc_law_log_right pm_law_log_right an_law_log_right cd_law_log_right ct_law_log_right), f_law := fa, d_law := (PySem.W.fnOf "law" "law" (defArgs (top 38)) (defBody (top 38)) (defScope (top 38)) .none kV_law dc_law pm_law an_law cd_law ct_law), t_MOST_TABLES := t_MOST_TABLES, t_MOST_STATES := t_MOST_STATES, t_MOST_DEEDS := t_MOST_DEEDS }
  have F_is_integer := fund (st := top 6) l_is_integer c_is_integer k_is_integer
  have b_is_integer : Binds K C.d_is_integer ["value"] [] := .all fun us hl => match us, hl with | [_], _ => rfl
  have F_is_below := fund (st := top 7) l_is_below c_is_below k_is_below
  have b_is_below : Binds K C.d_is_below ["value", "many"] [] := .all fun us hl => match us, hl with | [_, _], _ => rfl
  have F_is_sequence := fund (st := top 8) l_is_sequence c_is_sequence k_is_sequence
  have b_is_sequence : Binds K C.d_is_sequence ["value"] [] := .all fun us hl => match us, hl with | [_], _ => rfl
  have F_fault_place := fund (st := top 9) l_fault_place c_fault_place k_fault_place
  have b_fault_place : Binds K C.d_fault_place ["value", "many"] [] := .all fun us hl => match us, hl with | [_, _], _ => rfl
  have F_is_table := fund (st := top 14) l_is_table c_is_table k_is_table
  have b_is_table : Binds K C.d_is_table ["value"] [] := .all fun us hl => match us, hl with | [_], _ => rfl
  have F_check_tables := fund (st := top 15) l_check_tables c_check_tables k_check_tables
  have b_check_tables : Binds K C.d_check_tables ["value"] [] := .all fun us hl => match us, hl with | [_], _ => rfl
  have F_Machine_init := fund (st := inClass (top 16) 0) l_Machine_init c_Machine_init k_Machine_init
  have b_Machine_init : Binds K C.d_Machine_init ["self", "tables"] [] := .all fun us hl => match us, hl with | [_, _], _ => rfl
  have F_Machine_eq := fund (st := inClass (top 16) 1) l_Machine_eq c_Machine_eq k_Machine_eq
  have b_Machine_eq : Binds K C.d_Machine_eq ["self", "other"] [] := .all fun us hl => match us, hl with | [_, _], _ => rfl
  have F_log_fault := fund (st := top 17) l_log_fault c_log_fault k_log_fault
  have b_log_fault : Binds K C.d_log_fault ["machine", "value"] [] := .all fun us hl => match us, hl with | [_, _], _ => rfl
  have F_check_log := fund (st := top 18) l_check_log c_check_log k_check_log
  have b_check_log : Binds K C.d_check_log ["machine", "value"] [] := .all fun us hl => match us, hl with | [_, _], _ => rfl
  have F_numbers_text := fund (st := top 20) l_numbers_text c_numbers_text k_numbers_text
  have b_numbers_text : Binds K C.d_numbers_text ["numbers"] [] := .all fun us hl => match us, hl with | [_], _ => rfl
  have F_numbers_by_word := fund (st := top 21) l_numbers_by_word c_numbers_by_word k_numbers_by_word
  have b_numbers_by_word : Binds K C.d_numbers_by_word ["many"] [] := .all fun us hl => match us, hl with | [_], _ => rfl
  have F_machine_text := fund (st := top 22) l_machine_text c_machine_text k_machine_text
  have b_machine_text : Binds K C.d_machine_text ["machine"] [] := .all fun us hl => match us, hl with | [_], _ => rfl
  have F_told_states := fund (st := top 23) l_told_states c_told_states k_told_states
  have b_told_states : Binds K C.d_told_states ["line"] [] := .all fun us hl => match us, hl with | [_], _ => rfl
  have F_told_table := fund (st := top 24) l_told_table c_told_table k_told_table
  have b_told_table : Binds K C.d_told_table ["line", "states"] [] := .all fun us hl => match us, hl with | [_, _], _ => rfl
  have F_read_machine := fund (st := top 25) l_read_machine c_read_machine k_read_machine
  have b_read_machine : Binds K C.d_read_machine ["text"] [] := .all fun us hl => match us, hl with | [_], _ => rfl
  have F_log_text := fund (st := top 26) l_log_text c_log_text k_log_text
  have b_log_text : Binds K C.d_log_text ["machine", "log"] [] := .all fun us hl => match us, hl with | [_, _], _ => rfl
  have F_read_log := fund (st := top 27) l_read_log c_read_log k_read_log
  have b_read_log : Binds K C.d_read_log ["machine", "text"] [] := .all fun us hl => match us, hl with | [_, _], _ => rfl
  have F_law_box := fund (st := top 29) l_law_box c_law_box k_law_box
  have b_law_box : Binds K C.d_law_box ["script", "k"] [] := .all fun us hl => match us, hl with | [_, _], _ => rfl
  have F_law_take := fund (st := top 30) l_law_take c_law_take k_law_take
  have b_law_take : Binds K C.d_law_take ["box", "many"] [] := .all fun us hl => match us, hl with | [_, _], _ => rfl
  have F_law_pick := fund (st := top 31) l_law_pick c_law_pick k_law_pick
  have b_law_pick : Binds K C.d_law_pick ["box", "some"] [] := .all fun us hl => match us, hl with | [_, _], _ => rfl
  have F_law_tables := fund (st := top 32) l_law_tables c_law_tables k_law_tables
  have b_law_tables : Binds K C.d_law_tables ["box", "sizes", "kinds"] [] := .all fun us hl => match us, hl with | [_, _, _], _ => rfl
  have F_law_log := fund (st := top 33) l_law_log c_law_log k_law_log
  have b_law_log : Binds K C.d_law_log ["box", "tables", "most"] [] := .all fun us hl => match us, hl with | [_, _, _], _ => rfl
  have F_law_reads := fund (st := top 34) l_law_reads c_law_reads k_law_reads
  have b_law_reads : Binds K C.d_law_reads ["text"] [] := .all fun us hl => match us, hl with | [_], _ => rfl
  have F_law_reads_log := fund (st := top 35) l_law_reads_log c_law_reads_log k_law_reads_log
  have b_law_reads_log : Binds K C.d_law_reads_log ["machine", "text"] [] := .all fun us hl => match us, hl with | [_, _], _ => rfl
  have F_law_machine_right := fund (st := top 36) l_law_machine_right c_law_machine_right k_law_machine_right
  have b_law_machine_right : Binds K C.d_law_machine_right ["box", "tables"] [] := .all fun us hl => match us, hl with | [_, _], _ => rfl
  have F_law_log_right := fund (st := top 37) l_law_log_right c_law_log_right k_law_log_right
  have b_law_log_right : Binds K C.d_law_log_right ["box", "tables"] [] := .all fun us hl => match us, hl with | [_, _], _ => rfl
  have F_law := fund (st := top 38) l_law c_law k_law
  have b_law : Binds K C.d_law ["script"] [] := .all fun us hl => match us, hl with | [_], _ => rfl
  have F_fi_BadMachine := fund (st := inClass (top 2) 0) l_fi_BadMachine c_fi_BadMachine k_fi_BadMachine
  have b_fi_BadMachine : Binds K C.fd_BadMachine ["self", "at"] [] := .all fun us hl => match us, hl with | [_, _], _ => rfl
  have s_fi_BadMachine : FnScope ["self", "at"] ["self", "at"] (defScope (inClass (top 2) 0)) := ⟨rfl, rfl, rfl, by decide +kernel, rfl, by decide +kernel, by decide +kernel⟩
  have F_fi_BadLog := fund (st := inClass (top 3) 0) l_fi_BadLog c_fi_BadLog k_fi_BadLog
  have b_fi_BadLog : Binds K C.fd_BadLog ["self", "at"] [] := .all fun us hl => match us, hl with | [_, _], _ => rfl
  have s_fi_BadLog : FnScope ["self", "at"] ["self", "at"] (defScope (inClass (top 3) 0)) := ⟨rfl, rfl, rfl, by decide +kernel, rfl, by decide +kernel, by decide +kernel⟩
  have F_fi_BadText := fund (st := inClass (top 4) 0) l_fi_BadText c_fi_BadText k_fi_BadText
  have b_fi_BadText : Binds K C.fd_BadText ["self", "at"] [] := .all fun us hl => match us, hl with | [_, _], _ => rfl
  have s_fi_BadText : FnScope ["self", "at"] ["self", "at"] (defScope (inClass (top 4) 0)) := ⟨rfl, rfl, rfl, by decide +kernel, rfl, by decide +kernel, by decide +kernel⟩
  have TT : ∀ base : Heap, Txt P w K mg base C := fun base => {
    b_abs := PySem.W.mg_none_of X G z_abs,
    b_bool := PySem.W.mg_none_of X G z_bool,
    b_enumerate := PySem.W.mg_none_of X G z_enumerate,
    b_int := PySem.W.mg_none_of X G z_int,
    b_isinstance := PySem.W.mg_none_of X G z_isinstance,
    b_len := PySem.W.mg_none_of X G z_len,
    b_list := PySem.W.mg_none_of X G z_list,
    b_max := PySem.W.mg_none_of X G z_max,
    b_min := PySem.W.mg_none_of X G z_min,
    b_range := PySem.W.mg_none_of X G z_range,
    b_repr := PySem.W.mg_none_of X G z_repr,
    b_str := PySem.W.mg_none_of X G z_str,
    b_tuple := PySem.W.mg_none_of X G z_tuple,
    MOST_TABLES := PySem.W.mg_of X G a_MOST_TABLES,
    MOST_STATES := PySem.W.mg_of X G a_MOST_STATES,
    MOST_DEEDS := PySem.W.mg_of X G a_MOST_DEEDS,
    AgeError := PySem.W.mg_of X G a_AgeError,
    BadMachine := PySem.W.mg_of X G a_BadMachine,
    BadLog := PySem.W.mg_of X G a_BadLog,
    BadText := PySem.W.mg_of X G a_BadText,
    Machine := PySem.W.mg_of X G a_Machine,
    cl_Machine := ⟨pg, hd, po, sa⟩,
    ic_Machine := ⟨⟨pg, hd, po, sa⟩, ha.symm, hn.symm, ht.symm, hm.symm⟩,
    mk_Machine := ⟨mk, a_Machine_init, i_Machine_init, kc⟩,
    eq_Machine := ⟨⟨_, _, _, _, _, _, _, _, _, _, _, _, _, _, _, _, cls, nk, ne1, ne2⟩, i_Machine_eq.symm⟩,
    na_Machine_tables := n_tables,
    na_Machine_deeds := n_deeds,
    na_Machine_states := n_states,
    er_BadMachine := ⟨⟨⟨_, _, _, _, _, _, _, _, _, _, _, _, _, _, _, cls_BadMachine, rv_BadMachine⟩, sa_BadMachine, ex_BadMachine, ty_BadMachine, kc_BadMachine⟩, a_fi_BadMachine, ti_BadMachine, no_BadMachine⟩,
    in_BadMachine := fun k => ini_ok F_fi_BadMachine s_fi_BadMachine (.inl rfl) (.inl rfl),
    bi_BadMachine := b_fi_BadMachine,
    xf_BadMachine := ⟨ga_BadMachine, gg_BadMachine, ex_BadMachine, hd_BadMachine⟩,
    no_BadMachine := no_BadMachine,
    ec_BadMachine := ⟨ga_BadMachine, gg_BadMachine, ex_BadMachine, hd_BadMachine, ha_BadMachine, hn, ht, hm_BadMachine⟩,
    er_BadLog := ⟨⟨⟨_, _, _, _, _, _, _, _, _, _, _, _, _, _, _, cls_BadLog, rv_BadLog⟩, sa_BadLog, ex_BadLog, ty_BadLog, kc_BadLog⟩, a_fi_BadLog, ti_BadLog, no_BadLog⟩,
    in_BadLog := fun k => ini_ok F_fi_BadLog s_fi_BadLog (.inl rfl) (.inl rfl),
    bi_BadLog := b_fi_BadLog,
    xf_BadLog := ⟨ga_BadLog, gg_BadLog, ex_BadLog, hd_BadLog⟩,
    no_BadLog := no_BadLog,
    ec_BadLog := ⟨ga_BadLog, gg_BadLog, ex_BadLog, hd_BadLog, ha_BadLog, hn, ht, hm_BadLog⟩,
    er_BadText := ⟨⟨⟨_, _, _, _, _, _, _, _, _, _, _, _, _, _, _, cls_BadText, rv_BadText⟩, sa_BadText, ex_BadText, ty_BadText, kc_BadText⟩, a_fi_BadText, ti_BadText, no_BadText⟩,
    in_BadText := fun k => ini_ok F_fi_BadText s_fi_BadText (.inl rfl) (.inl rfl),
    bi_BadText := b_fi_BadText,
    xf_BadText := ⟨ga_BadText, gg_BadText, ex_BadText, hd_BadText⟩,
    no_BadText := no_BadText,
    ec_BadText := ⟨ga_BadText, gg_BadText, ex_BadText, hd_BadText, ha_BadText, hn, ht, hm_BadText⟩ }
  have DD : Defs K mg C := {
    F_is_integer := F_is_integer,
    F_is_below := F_is_below,
    F_is_sequence := F_is_sequence,
    F_fault_place := F_fault_place,
    F_is_table := F_is_table,
    F_check_tables := F_check_tables,
    F_Machine_init := F_Machine_init,
    F_Machine_eq := F_Machine_eq,
    F_log_fault := F_log_fault,
    F_check_log := F_check_log,
    F_numbers_text := F_numbers_text,
    F_numbers_by_word := F_numbers_by_word,
    F_machine_text := F_machine_text,
    F_told_states := F_told_states,
    F_told_table := F_told_table,
    F_read_machine := F_read_machine,
    F_log_text := F_log_text,
    F_read_log := F_read_log,
    F_law_box := F_law_box,
    F_law_take := F_law_take,
    F_law_pick := F_law_pick,
    F_law_tables := F_law_tables,
    F_law_log := F_law_log,
    F_law_reads := F_law_reads,
    F_law_reads_log := F_law_reads_log,
    F_law_machine_right := F_law_machine_right,
    F_law_log_right := F_law_log_right,
    F_law := F_law,
    K_Machine_eq := kb_of b_Machine_eq rfl,
    K_Machine_init := kb_of b_Machine_init rfl,
    U_check_log := ⟨PySem.W.mg_of X G a_check_log, k_check_log, kb_of b_check_log rfl⟩,
    U_check_tables := ⟨PySem.W.mg_of X G a_check_tables, k_check_tables, kb_of b_check_tables rfl⟩,
    U_fault_place := ⟨PySem.W.mg_of X G a_fault_place, k_fault_place, kb_of b_fault_place rfl⟩,
    U_is_below := ⟨PySem.W.mg_of X G a_is_below, k_is_below, kb_of b_is_below rfl⟩,
    U_is_integer := ⟨PySem.W.mg_of X G a_is_integer, k_is_integer, kb_of b_is_integer rfl⟩,
    U_is_sequence := ⟨PySem.W.mg_of X G a_is_sequence, k_is_sequence, kb_of b_is_sequence rfl⟩,
    U_is_table := ⟨PySem.W.mg_of X G a_is_table, k_is_table, kb_of b_is_table rfl⟩,
    U_law_box := ⟨PySem.W.mg_of X G a_law_box, k_law_box, kb_of b_law_box rfl⟩,
    U_law_log := ⟨PySem.W.mg_of X G a_law_log, k_law_log, kb_of b_law_log rfl⟩,
    U_law_log_right := ⟨PySem.W.mg_of X G a_law_log_right, k_law_log_right, kb_of b_law_log_right rfl⟩,
    U_law_machine_right := ⟨PySem.W.mg_of X G a_law_machine_right, k_law_machine_right, kb_of b_law_machine_right rfl⟩,
    U_law_pick := ⟨PySem.W.mg_of X G a_law_pick, k_law_pick, kb_of b_law_pick rfl⟩,
    U_law_reads := ⟨PySem.W.mg_of X G a_law_reads, k_law_reads, kb_of b_law_reads rfl⟩,
    U_law_reads_log := ⟨PySem.W.mg_of X G a_law_reads_log, k_law_reads_log, kb_of b_law_reads_log rfl⟩,
    U_law_tables := ⟨PySem.W.mg_of X G a_law_tables, k_law_tables, kb_of b_law_tables rfl⟩,
    U_law_take := ⟨PySem.W.mg_of X G a_law_take, k_law_take, kb_of b_law_take rfl⟩,
    U_log_fault := ⟨PySem.W.mg_of X G a_log_fault, k_log_fault, kb_of b_log_fault rfl⟩,
    U_log_text := ⟨PySem.W.mg_of X G a_log_text, k_log_text, kb_of b_log_text rfl⟩,
    U_machine_text := ⟨PySem.W.mg_of X G a_machine_text, k_machine_text, kb_of b_machine_text rfl⟩,
    U_numbers_by_word := ⟨PySem.W.mg_of X G a_numbers_by_word, k_numbers_by_word, kb_of b_numbers_by_word rfl⟩,
    U_numbers_text := ⟨PySem.W.mg_of X G a_numbers_text, k_numbers_text, kb_of b_numbers_text rfl⟩,
    U_read_log := ⟨PySem.W.mg_of X G a_read_log, k_read_log, kb_of b_read_log rfl⟩,
    U_read_machine := ⟨PySem.W.mg_of X G a_read_machine, k_read_machine, kb_of b_read_machine rfl⟩,
    U_told_states := ⟨PySem.W.mg_of X G a_told_states, k_told_states, kb_of b_told_states rfl⟩,
    U_told_table := ⟨PySem.W.mg_of X G a_told_table, k_told_table, kb_of b_told_table rfl⟩,
    kb_log_text_10 := ⟨fun s us ws _ h1 h2 => match us, ws, h1, h2 with | [], [_, _], _, _ => .of_eq rfl, fun {vs us zs ws} _ r => match zs, ws, r with | [_, _], _, .cons a (.cons b .nil) => .cons b (.cons a .nil) | [_], _, .cons a .nil => .cons a .nil | [], _, .nil => .nil | _ :: _ :: _ :: _, _, .cons a (.cons b (.cons c r)) => .cons a (.cons b (.cons c r))⟩,
    kb_machine_text_0 := ⟨fun s us ws _ h1 h2 => match us, ws, h1, h2 with | [], [_], _, _ => .of_eq rfl, fun {vs us zs ws} _ r => match zs, ws, r with | [_], _, .cons a .nil => .cons a .nil | [], _, .nil => .nil | _ :: _ :: _, _, .cons a (.cons b r) => .cons a (.cons b r)⟩,
    kb_read_log_10 := ⟨fun s us ws _ h1 h2 => match us, ws, h1, h2 with | [], [_, _], _, _ => .of_eq rfl, fun {vs us zs ws} _ r => match zs, ws, r with | [_, _], _, .cons a (.cons b .nil) => .cons b (.cons a .nil) | [_], _, .cons a .nil => .cons a .nil | [], _, .nil => .nil | _ :: _ :: _ :: _, _, .cons a (.cons b (.cons c r)) => .cons a (.cons b (.cons c r))⟩,
    kb_read_machine_0 := ⟨fun s us ws _ h1 h2 => match us, ws, h1, h2 with | [], [_], _, _ => .of_eq rfl, fun {vs us zs ws} _ r => match zs, ws, r with | [_], _, .cons a .nil => .cons a .nil | [], _, .nil => .nil | _ :: _ :: _, _, .cons a (.cons b r) => .cons a (.cons b r)⟩,
    hxT := hxT,
    hxL := hxL,
    hkT := hkT,
    hkM := hkM }
  exact ⟨_, fun s v => .of_eq rfl, fun base _ _ => ok_law (TT base) DD⟩
end K04
set_option Elab.async false
set_option maxRecDepth 100000
open PyProof.Rows PySem PySem.W in
set_option maxHeartbeats 0 in
theorem PySem.Challenge.cw_agedcopy_k04_texts_of_machines_and_logs_holds : PySem.Challenge.rw_agedcopy_k04_texts_of_machines_and_logs.Holds := by
  w_on
  o_law
  k_head
  (case hw => w_witness2)
  k_fill
  refine DL.walk_g (l := PySem.Challenge.rw_agedcopy_k04_texts_of_machines_and_logs) (n := 63) (k := 12) (x := "script") rfl (by decide) rfl (fun w h Y => PySem.W.kIn_of Y) ⟨rfl, by decide, by decide⟩ ?F
  case F =>
    intro w mg fa h KX G hmg
    refine' K04.all_mk KX G hmg ?a_AgeError ?a_BadMachine ?a_BadLog ?a_BadText ?a_Machine ?a_MOST_TABLES ?a_MOST_STATES ?a_MOST_DEEDS ?a_fi_BadMachine ?l_fi_BadMachine ?c_fi_BadMachine ?k_fi_BadMachine ?ti_BadMachine ?cls_BadMachine ?rv_BadMachine ?sa_BadMachine ?ex_BadMachine ?ty_BadMachine ?kc_BadMachine ?no_BadMachine ?ga_BadMachine ?gg_BadMachine ?hd_BadMachine ?ha_BadMachine ?hm_BadMachine ?a_fi_BadLog ?l_fi_BadLog ?c_fi_BadLog ?k_fi_BadLog ?ti_BadLog ?cls_BadLog ?rv_BadLog ?sa_BadLog ?ex_BadLog ?ty_BadLog ?kc_BadLog ?no_BadLog ?ga_BadLog ?gg_BadLog ?hd_BadLog ?ha_BadLog ?hm_BadLog ?a_fi_BadText ?l_fi_BadText ?c_fi_BadText ?k_fi_BadText ?ti_BadText ?cls_BadText ?rv_BadText ?sa_BadText ?ex_BadText ?ty_BadText ?kc_BadText ?no_BadText ?ga_BadText ?gg_BadText ?hd_BadText ?ha_BadText ?hm_BadText ?hn ?ht ?a_is_integer ?l_is_integer ?c_is_integer ?k_is_integer ?a_is_below ?l_is_below ?c_is_below ?k_is_below ?a_is_sequence ?l_is_sequence ?c_is_sequence ?k_is_sequence ?a_fault_place ?l_fault_place ?c_fault_place ?k_fault_place ?a_is_table ?l_is_table ?c_is_table ?k_is_table ?a_check_tables ?l_check_tables ?c_check_tables ?k_check_tables ?a_Machine_init ?i_Machine_init ?l_Machine_init ?c_Machine_init ?k_Machine_init ?a_Machine_eq ?i_Machine_eq ?l_Machine_eq ?c_Machine_eq ?k_Machine_eq ?a_log_fault ?l_log_fault ?c_log_fault ?k_log_fault ?a_check_log ?l_check_log ?c_check_log ?k_check_log ?a_numbers_text ?l_numbers_text ?c_numbers_text ?k_numbers_text ?a_numbers_by_word ?l_numbers_by_word ?c_numbers_by_word ?k_numbers_by_word ?a_machine_text ?l_machine_text ?c_machine_text ?k_machine_text ?a_told_states ?l_told_states ?c_told_states ?k_told_states ?a_told_table ?l_told_table ?c_told_table ?k_told_table ?a_read_machine ?l_read_machine ?c_read_machine ?k_read_machine ?a_log_text ?l_log_text ?c_log_text ?k_log_text ?a_read_log ?l_read_log ?c_read_log ?k_read_log ?a_law_box ?l_law_box ?c_law_box ?k_law_box ?a_law_take ?l_law_take ?c_law_take ?k_law_take ?a_law_pick ?l_law_pick ?c_law_pick ?k_law_pick ?a_law_tables ?l_law_tables ?c_law_tables ?k_law_tables ?a_law_log ?l_law_log ?c_law_log ?k_law_log ?a_law_reads ?l_law_reads ?c_law_reads ?k_law_reads ?a_law_reads_log ?l_law_reads_log ?c_law_reads_log ?k_law_reads_log ?a_law_machine_right ?l_law_machine_right ?c_law_machine_right ?k_law_machine_right ?a_law_log_right ?l_law_log_right ?c_law_log_right ?k_law_log_right ?a_law ?l_law ?c_law ?k_law ?pg ?hd ?po ?sa ?mk ?kc ?ha ?hm ?cls ?nk ?ne1 ?ne2 ?n_tables ?n_deeds ?n_states ?z_abs ?z_bool ?z_enumerate ?z_int ?z_isinstance ?z_len ?z_list ?z_max ?z_min ?z_range ?z_repr ?z_str ?z_tuple ?hxT ?hxL ?hkT ?hkM
    (case a_AgeError => k_is)
    (case a_BadMachine => k_is)
    (case a_BadLog => k_is)
    (case a_BadText => k_is)
    (case a_Machine => k_is)
    (case a_MOST_TABLES => k_is)
    (case a_MOST_STATES => k_is)
    (case a_MOST_DEEDS => k_is)
    (case a_fi_BadMachine => k_is)
    (case l_fi_BadMachine => k_is)
    (case c_fi_BadMachine => k_is)
    (case k_fi_BadMachine => k_is)
    (case ti_BadMachine => k_is)
    (case cls_BadMachine => k_is)
    (case rv_BadMachine => first | rfl | k_is)
    (case sa_BadMachine => k_is)
    (case ex_BadMachine => k_is)
    (case ty_BadMachine => k_is)
    (case kc_BadMachine => k_is)
    (case no_BadMachine => k_is)
    (case ga_BadMachine => k_is)
    (case gg_BadMachine => k_is)
    (case hd_BadMachine => k_is)
    (case ha_BadMachine => k_is)
    (case hm_BadMachine => k_is)
    (case a_fi_BadLog => k_is)
    (case l_fi_BadLog => k_is)
    (case c_fi_BadLog => k_is)
    (case k_fi_BadLog => k_is)
    (case ti_BadLog => k_is)
    (case cls_BadLog => k_is)
    (case rv_BadLog => first | rfl | k_is)
    (case sa_BadLog => k_is)
    (case ex_BadLog => k_is)
    (case ty_BadLog => k_is)
    (case kc_BadLog => k_is)
    (case no_BadLog => k_is)
    (case ga_BadLog => k_is)
    (case gg_BadLog => k_is)
    (case hd_BadLog => k_is)
    (case ha_BadLog => k_is)
    (case hm_BadLog => k_is)
    (case a_fi_BadText => k_is)
    (case l_fi_BadText => k_is)
    (case c_fi_BadText => k_is)
    (case k_fi_BadText => k_is)
    (case ti_BadText => k_is)
    (case cls_BadText => k_is)
    (case rv_BadText => first | rfl | k_is)
    (case sa_BadText => k_is)
    (case ex_BadText => k_is)
    (case ty_BadText => k_is)
    (case kc_BadText => k_is)
    (case no_BadText => k_is)
    (case ga_BadText => k_is)
    (case gg_BadText => k_is)
    (case hd_BadText => k_is)
    (case ha_BadText => k_is)
    (case hm_BadText => k_is)
    (case hn => k_is)
    (case ht => k_is)
    (case a_is_integer => k_is)
    (case l_is_integer => k_is)
    (case c_is_integer => k_is)
    (case k_is_integer => k_is)
    (case a_is_below => k_is)
    (case l_is_below => k_is)
    (case c_is_below => k_is)
    (case k_is_below => k_is)
    (case a_is_sequence => k_is)
    (case l_is_sequence => k_is)
    (case c_is_sequence => k_is)
    (case k_is_sequence => k_is)
    (case a_fault_place => k_is)
    (case l_fault_place => k_is)
    (case c_fault_place => k_is)
    (case k_fault_place => k_is)
    (case a_is_table => k_is)
    (case l_is_table => k_is)
    (case c_is_table => k_is)
    (case k_is_table => k_is)
    (case a_check_tables => k_is)
    (case l_check_tables => k_is)
    (case c_check_tables => k_is)
    (case k_check_tables => k_is)
    (case a_Machine_init => k_is)
    (case i_Machine_init => k_is)
    (case l_Machine_init => k_is)
    (case c_Machine_init => k_is)
    (case k_Machine_init => k_is)
    (case a_Machine_eq => k_is)
    (case i_Machine_eq => k_is)
    (case l_Machine_eq => k_is)
    (case c_Machine_eq => k_is)
    (case k_Machine_eq => k_is)
    (case a_log_fault => k_is)
    (case l_log_fault => k_is)
    (case c_log_fault => k_is)
    (case k_log_fault => k_is)
    (case a_check_log => k_is)
    (case l_check_log => k_is)
    (case c_check_log => k_is)
    (case k_check_log => k_is)
    (case a_numbers_text => k_is)
    (case l_numbers_text => k_is)
    (case c_numbers_text => k_is)
    (case k_numbers_text => k_is)
    (case a_numbers_by_word => k_is)
    (case l_numbers_by_word => k_is)
    (case c_numbers_by_word => k_is)
    (case k_numbers_by_word => k_is)
    (case a_machine_text => k_is)
    (case l_machine_text => k_is)
    (case c_machine_text => k_is)
    (case k_machine_text => k_is)
    (case a_told_states => k_is)
    (case l_told_states => k_is)
    (case c_told_states => k_is)
    (case k_told_states => k_is)
    (case a_told_table => k_is)
    (case l_told_table => k_is)
    (case c_told_table => k_is)
    (case k_told_table => k_is)
    (case a_read_machine => k_is)
    (case l_read_machine => k_is)
    (case c_read_machine => k_is)
    (case k_read_machine => k_is)
    (case a_log_text => k_is)
    (case l_log_text => k_is)
    (case c_log_text => k_is)
    (case k_log_text => k_is)
    (case a_read_log => k_is)
    (case l_read_log => k_is)
    (case c_read_log => k_is)
    (case k_read_log => k_is)
    (case a_law_box => k_is)
    (case l_law_box => k_is)
    (case c_law_box => k_is)
    (case k_law_box => k_is)
    (case a_law_take => k_is)
    (case l_law_take => k_is)
    (case c_law_take => k_is)
    (case k_law_take => k_is)
    (case a_law_pick => k_is)
    (case l_law_pick => k_is)
    (case c_law_pick => k_is)
    (case k_law_pick => k_is)
    (case a_law_tables => k_is)
    (case l_law_tables => k_is)
    (case c_law_tables => k_is)
    (case k_law_tables => k_is)
    (case a_law_log => k_is)
    (case l_law_log => k_is)
    (case c_law_log => k_is)
    (case k_law_log => k_is)
    (case a_law_reads => k_is)
    (case l_law_reads => k_is)
    (case c_law_reads => k_is)
    (case k_law_reads => k_is)
    (case a_law_reads_log => k_is)
    (case l_law_reads_log => k_is)
    (case c_law_reads_log => k_is)
    (case k_law_reads_log => k_is)
    (case a_law_machine_right => k_is)
    (case l_law_machine_right => k_is)
    (case c_law_machine_right => k_is)
    (case k_law_machine_right => k_is)
    (case a_law_log_right => k_is)
    (case l_law_log_right => k_is)
    (case c_law_log_right => k_is)
    (case k_law_log_right => k_is)
    (case a_law => k_is)
    (case l_law => k_is)
    (case c_law => k_is)
    (case k_law => k_is)
    (case pg => k_is)
    (case hd => k_is)
    (case po => k_is)
    (case sa => k_is)
    (case mk => k_is)
    (case kc => k_is)
    (case ha => k_is)
    (case hm => k_is)
    (case cls => k_is)
    (case nk => first | kernel_rfl | rfl | decide +kernel)
    (case ne1 => k_is)
    (case ne2 => k_is)
    (case n_tables => k_is)
    (case n_deeds => k_is)
    (case n_states => k_is)
    (case z_abs => k_is)
    (case z_bool => k_is)
    (case z_enumerate => k_is)
    (case z_int => k_is)
    (case z_isinstance => k_is)
    (case z_len => k_is)
    (case z_list => k_is)
    (case z_max => k_is)
    (case z_min => k_is)
    (case z_range => k_is)
    (case z_repr => k_is)
    (case z_str => k_is)
    (case z_tuple => k_is)
    (case hxT => first | kernel_rfl | rfl | decide +kernel)
    (case hxL => first | kernel_rfl | rfl | decide +kernel)
    (case hkT => first | kernel_rfl | rfl | decide +kernel)
    (case hkM => first | kernel_rfl | rfl | decide +kernel)
