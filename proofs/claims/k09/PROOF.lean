import PyProof.Rows.All
import Wide.All
import OpenK.AllK
import Wide.FinOn
import HandS.ForMost
import HandS.Walk
import HandS.Conv
import HandS.Gcd
import HandS.Deep
import HandS.Star
import HandS.IsInst
import HandS.SortInts
import HandS.Flow
import HandS.TupAny
import HandS.Style
import PyProof.ListRange
import PyProof.CollectIter
import HandS.RepeatKit
import HandS.Zip
import KE.GoesEnum
import KE.KDictZip
import KE.KDictDisplayH
import KE.KDictList
import KE.KDictWalk
import HandS.More
import HandS.Wide
import HandS.CallLocal
import KE.KMathG
import KE.KDictSum
import HandS.StrMore
import HandS.StrSplit
import HandS.MapJoin
import HandS.Codes
import HandS.Exc
import HandS.TryOnly
import HandS.ExcOwn
import HandS.ExcIs
import HandS.WordsExc
import HandS.Lambda
import HandS.EndTab
import HandS.EndOwn
import HandS.Property
import HandS.FStr
import HandS.DictComp
import HandS.TupMul
import HandS.SetFor
import PySem.Challenge.RW_worthshares_k09_whole_desks
set_option Elab.async false
set_option linter.all false
set_option maxRecDepth 100000
set_option maxHeartbeats 1000000
namespace DL
open PySem PySem.Spec PyProof.Rows L2

/-! ### what a value stands for -/
mutual
inductive Rp (H : Hp) : V → PyData → Prop
  | non : Rp H .non .none
  | bl (b : Bool) : Rp H (.bl b) (.bool b)
  | int (i : Int) : Rp H (.int i) (.int i)
  | str (x : Str) : Rp H (.str x) (.str x)
  | lst {a : Addr} {xs : List V} {ds : List PyData} : H a = some (.lst xs) → RpAll H xs ds → Rp H (.ref a) (.list ds)
  | tup {a : Addr} {xs : List V} {ds : List PyData} : H a = some (.tup xs) → RpAll H xs ds → Rp H (.ref a) (.tuple ds)
inductive RpAll (H : Hp) : List V → List PyData → Prop
  | nil : RpAll H [] []
  | cons {v : V} {vs : List V} {d : PyData} {ds : List PyData} : Rp H v d → RpAll H vs ds → RpAll H (v :: vs) (d :: ds)
end
mutual
theorem Rp.mono {H H' : Hp} (m : Same H H') : ∀ (d : PyData) (v : V), Rp H v d → Rp H' v d
  | .none, _, h => by cases h; exact .non
  | .bool b, _, h => by cases h; exact .bl b
  | .int i, _, h => by cases h; exact .int i
  | .str x, _, h => by cases h; exact .str x
  | .list ds, _, h => by
    cases h with
    | lst e r => exact .lst (m _ _ e) (RpAll.mono m ds _ r)
  | .tuple ds, _, h => by
    cases h with
    | tup e r => exact .tup (m _ _ e) (RpAll.mono m ds _ r)
  | .dict _, _, h => by cases h
theorem RpAll.mono {H H' : Hp} (m : Same H H') : ∀ (ds : List PyData) (vs : List V), RpAll H vs ds → RpAll H' vs ds
  | [], _, h => by cases h; exact .nil
  | d :: ds, _, h => by
    cases h with
    | cons a b => exact .cons (Rp.mono m d _ a) (RpAll.mono m ds _ b)
end
mutual
theorem Rp.dp {K : PySem.W.Frag} {H : Hp} : ∀ (d : PyData) (v : V), Rp H v d → Dp K H v d
  | .none, _, h => by cases h; exact .non
  | .bool b, _, h => by cases h; exact .bl b
  | .int i, _, h => by cases h; exact .int i
  | .str x, _, h => by cases h; exact .str x
  | .list ds, _, h => by
    cases h with
    | lst e r => exact .lst (SqL.of e) (RpAll.dp ds _ r)
  | .tuple ds, _, h => by
    cases h with
    | tup e r => exact .tup (SqT.of e) (RpAll.dp ds _ r)
  | .dict _, _, h => by cases h
theorem RpAll.dp {K : PySem.W.Frag} {H : Hp} : ∀ (ds : List PyData) (vs : List V), RpAll H vs ds → DpAll K H vs ds
  | [], _, h => by cases h; exact .nil
  | d :: ds, _, h => by
    cases h with
    | cons a b => exact .cons (Rp.dp d _ a) (RpAll.dp ds _ b)
end
theorem RpAll.length {H : Hp} : ∀ {vs : List V} {ds : List PyData}, RpAll H vs ds → vs.length = ds.length
  | _, _, .nil => rfl
  | _, _, .cons _ t => by rw [List.length_cons, List.length_cons, RpAll.length t]
theorem RpAll.get {H : Hp} : ∀ {vs : List V} {ds : List PyData} {i : Nat} {d : PyData}, RpAll H vs ds → ds[i]? = some d → ∃ v, vs[i]? = some v ∧ Rp H v d
  | _, _, _, _, .nil, e => by simp at e
  | _, _, 0, _, .cons r _, e => by simp at e; subst e; exact ⟨_, rfl, r⟩
  | _, _, i + 1, d, .cons _ t, e => by
    obtain ⟨v, h1, h2⟩ := RpAll.get (i := i) (d := d) t (by simpa using e)
    exact ⟨v, by simpa using h1, h2⟩
theorem RpAll.append {H : Hp} : ∀ {xs ys : List V} {ds es : List PyData}, RpAll H xs ds → RpAll H ys es → RpAll H (xs ++ ys) (ds ++ es)
  | _, _, _, _, .nil, s => s
  | _, _, _, _, .cons r t, s => .cons r (RpAll.append t s)
theorem RpAll.take {H : Hp} : ∀ {xs : List V} {ds : List PyData} (n : Nat), RpAll H xs ds → RpAll H (xs.take n) (ds.take n)
  | _, _, 0, _ => .nil
  | _, _, _ + 1, .nil => .nil
  | _, _, n + 1, .cons r t => .cons r (RpAll.take n t)
theorem RpAll.drop {H : Hp} : ∀ {xs : List V} {ds : List PyData} (n : Nat), RpAll H xs ds → RpAll H (xs.drop n) (ds.drop n)
  | _, _, 0, r => r
  | _, _, _ + 1, .nil => .nil
  | _, _, n + 1, .cons _ t => RpAll.drop n t
theorem RpAll.set {H : Hp} {x : V} {d : PyData} (r : Rp H x d) : ∀ {xs : List V} {ds : List PyData} (i : Nat), RpAll H xs ds → RpAll H (xs.set i x) (ds.set i d)
  | _, _, _, .nil => .nil
  | _, _, 0, .cons _ t => .cons r t
  | _, _, i + 1, .cons q t => .cons q (RpAll.set r i t)
theorem RpAll.ints {H : Hp} : ∀ {vs : List V} {ns : List Int}, RpAll H vs (ns.map PyData.int) → vs = ns.map V.int
  | _, [], h => by rw [List.map_nil] at h; cases h; rfl
  | _, n :: ns, h => by
    rw [List.map_cons] at h
    cases h with
    | cons a b => cases a; rw [RpAll.ints b]; rfl
theorem RpAll.of_ints {H : Hp} : ∀ {ns : List Int}, RpAll H (ns.map V.int) (ns.map PyData.int)
  | [] => .nil
  | _ :: _ => .cons (.int _) RpAll.of_ints
theorem RpAll.bools {H : Hp} : ∀ {vs : List V} {ns : List Bool}, RpAll H vs (ns.map PyData.bool) → vs = ns.map V.bl
  | _, [], h => by rw [List.map_nil] at h; cases h; rfl
  | _, n :: ns, h => by
    rw [List.map_cons] at h
    cases h with
    | cons a b => cases a; rw [RpAll.bools b]; rfl

/-! ### owned objects, the environment -/
inductive Ent where
  | dat (d : PyData)
  | dct (kvs : List (List Int × Int))
  | dctA (a : Addr) (kvs : List (List Int × Int))
  | raw (v : V)
inductive OC where
  | lst (ds : List PyData)
  | dct (kvs : List (List Int × Int))
  | row (KK : PySem.W.Frag) (scr : Addr) (ns : List Int) (k s r : Int)
  | obj (C dx : Addr) (fs : List (Str × Ent))
  | dk (kvs : List (Key × V))
abbrev Ent.own (a : Addr) : Ent := .raw (.ref a)
abbrev Own := List (Addr × OC)
abbrev Rho := List (Option Ent)
abbrev dom (ω : Own) : List Addr := ω.map (·.1)
def hide (O : List Addr) (H : Hp) : Hp := fun a => if a ∈ O then none else H a
theorem hide_in {O : List Addr} {H : Hp} {a : Addr} (h : a ∈ O) : hide O H a = none := by unfold hide; rw [if_pos h]
theorem hide_out {O : List Addr} {H : Hp} {a : Addr} (h : a ∉ O) : hide O H a = H a := by unfold hide; rw [if_neg h]
theorem hide_some {O : List Addr} {H : Hp} {a : Addr} {o : HO} (h : hide O H a = some o) : a ∉ O ∧ H a = some o := by
  unfold hide at h
  by_cases q : a ∈ O
  · rw [if_pos q] at h; cases h
  · rw [if_neg q] at h; exact ⟨q, h⟩
theorem hide_le {O : List Addr} {H : Hp} : Same (hide O H) H := fun _ _ h => (hide_some h).2
theorem hide_sub {O O' : List Addr} {H : Hp} (s : ∀ a ∈ O, a ∈ O') : Same (hide O' H) (hide O H) := fun b o h => by
  obtain ⟨h1, h2⟩ := hide_some h
  rw [hide_out fun q => h1 (s b q)]; exact h2
/-- the tuple-keyed dict of ints -/
def kvT (p : List Int × Int) : List Key × V := (p.1.map Sum.inl, .int p.2)
def RE (O : List Addr) (H : Hp) : Ent → V → Prop
  | .dat d, v => Rp (hide O H) v d
  | .dct kvs, v => ∃ a, v = .ref a ∧ a ∉ O ∧ Rd H a (.dT (kvs.map kvT))
  | .dctA a kvs, v => v = .ref a ∧ a ∉ O ∧ ∃ o, H a = some (.frz o (.dT (kvs.map kvT)))
  | .raw w, v => v = w
/-- the script: a tracked list that nobody owns, or one of the written part -/
def SRow (KK : PySem.W.Frag) (O : List Addr) (H : Hp) (scr : Addr) (ns : List Int) : Prop := (scr ∉ O ∧ Rd H scr (.lst (ns.map V.int))) ∨
  ∃ (o : Obj) (its : Array Value) (n : Nat), KK.lookup scr = some o ∧ o.cls = .type "list" ∧ o.dict = none ∧ o.data = .seq its n ∧ its.size ≤ sizeLine ∧ Vals (ns.map V.int) its.toList
theorem SRow.sq {KK : PySem.W.Frag} {O : List Addr} {H : Hp} {scr : Addr} {ns : List Int} (q : SRow KK O H scr ns) : SqL KK H scr (ns.map V.int) := by
  rcases q with ⟨_, q⟩ | q
  · exact .inl q
  · exact .inr q
theorem SRow.to {KK : PySem.W.Frag} {O O' : List Addr} {H H' : Hp} {scr : Addr} {ns : List Int} (q : SRow KK O H scr ns) (f : scr ∉ O → Rd H scr (.lst (ns.map V.int)) → scr ∉ O' ∧ Rd H' scr (.lst (ns.map V.int))) : SRow KK O' H' scr ns := by
  rcases q with ⟨n, q⟩ | q
  · exact .inl (f n q)
  · exact .inr q
theorem rd_at {H H' : Hp} {a : Addr} {u : HO} (q : Rd H a u) (k : ∀ o, H a = some o → H' a = some o) : Rd H' a u := by
  rcases q with q | ⟨o, q⟩
  · exact .inl (k _ q)
  · exact .inr ⟨o, k _ q⟩
/-- what a field may hold: plain data, or a value as it is -/
def plE : Ent → Bool
  | .dat _ => true
  | .raw _ => true
  | _ => false
/-- the fields of an object -/
inductive Flds (O : List Addr) (H : Hp) : List (Str × Ent) → List (Str × V) → Prop
  | nil : Flds O H [] []
  | cons {f : Str} {e : Ent} {v : V} {fs : List (Str × Ent)} {vs : List (Str × V)} : plE e = true → RE O H e v → Flds O H fs vs → Flds O H ((f, e) :: fs) ((f, v) :: vs)
theorem Flds.map {O O' : List Addr} {H H' : Hp} (h : ∀ e v, RE O H e v → RE O' H' e v) : ∀ {fs : List (Str × Ent)} {vs : List (Str × V)}, Flds O H fs vs → Flds O' H' fs vs
  | _, _, .nil => .nil
  | _, _, .cons p a t => .cons p (h _ _ a) (Flds.map h t)
theorem Flds.mapP {O O' : List Addr} {H H' : Hp} (h : ∀ d v, Rp (hide O H) v d → Rp (hide O' H') v d) : ∀ {fs : List (Str × Ent)} {vs : List (Str × V)}, Flds O H fs vs → Flds O' H' fs vs
  | _, _, .nil => .nil
  | _, _, .cons (e := .dat d) p a t => .cons p (h _ _ a) (Flds.mapP h t)
  | _, _, .cons (e := .raw w) p a t => .cons p a (Flds.mapP h t)
def HC (O : List Addr) (H : Hp) (a : Addr) : OC → Prop
  | .lst ds => ∃ xs, H a = some (.lst xs) ∧ RpAll (hide O H) xs ds
  | .dct kvs => H a = some (.dT (kvs.map kvT))
  | .row KK scr ns k s r => H a = some (.lst [.ref scr, .int k, .int s, .int r]) ∧ SRow KK O H scr ns ∧ ns.length ≤ 63
  | .obj C dx fs => ∃ vs, H a = some (.ins C dx vs) ∧ Flds O H fs vs
  | .dk kvs => H a = some (.dK kvs)
structure OwnOk (ω : Own) (H : Hp) : Prop where
  nd : (dom ω).Nodup
  at_ : ∀ p ∈ ω, HC (dom ω) H p.1 p.2
theorem HC.some {O : List Addr} {H : Hp} {a : Addr} {c : OC} (h : HC O H a c) : ∃ o, H a = some o := by
  cases c with
  | lst ds => obtain ⟨xs, e, _⟩ := h; exact ⟨_, e⟩
  | dct kvs => exact ⟨_, h⟩
  | row KK scr ns k s r => exact ⟨_, h.1⟩
  | obj C dx fs => obtain ⟨vs, e, _⟩ := h; exact ⟨_, e⟩
  | dk kvs => exact ⟨_, h⟩
theorem OwnOk.some {ω : Own} {H : Hp} (h : OwnOk ω H) {a : Addr} (ha : a ∈ dom ω) : ∃ o, H a = some o := by
  obtain ⟨p, hp, e⟩ := List.mem_map.mp ha
  subst e
  exact (h.at_ p hp).some
theorem OwnOk.fresh {ω : Own} {H : Hp} (h : OwnOk ω H) {p : Addr} (np : H p = none) : p ∉ dom ω := fun hp => by
  obtain ⟨o, e⟩ := h.some hp
  rw [np] at e; cases e
/-- all that is not owned stays -/
def Keep (O : List Addr) (H H' : Hp) : Prop := ∀ b o, b ∉ O → H b = some o → H' b = some o
theorem Keep.refl {O : List Addr} {H : Hp} : Keep O H H := fun _ _ _ h => h
theorem Keep.trans {O : List Addr} {H H1 H2 : Hp} (a : Keep O H H1) (b : Keep O H1 H2) : Keep O H H2 := fun c o n h => b c o n (a c o n h)
theorem Keep.hide {O : List Addr} {H H' : Hp} (k : Keep O H H') : Same (hide O H) (hide O H') := fun b o h => by
  obtain ⟨h1, h2⟩ := hide_some h
  rw [hide_out h1]; exact k b o h1 h2
theorem Keep.upd {O : List Addr} {H : Hp} {p : Addr} {o : HO} (np : H p = none) : Keep O H (upd H p o) := fun b u _ h => by
  rw [upd_ne (ne_of_none h np)]; exact h
theorem Keep.rd {O : List Addr} {H H' : Hp} (k : Keep O H H') {a : Addr} {u : HO} (n : a ∉ O) (r : Rd H a u) : Rd H' a u := by
  rcases r with r | ⟨o, r⟩
  · exact .inl (k _ _ n r)
  · exact .inr ⟨o, k _ _ n r⟩
theorem RE.keep {O : List Addr} {H H' : Hp} (k : Keep O H H') {e : Ent} {v : V} (r : RE O H e v) : RE O H' e v := by
  cases e with
  | dat d => exact Rp.mono k.hide d v r
  | dct kvs => obtain ⟨a, e, n, q⟩ := r; exact ⟨a, e, n, k.rd n q⟩
  | dctA a kvs => obtain ⟨e, n, o, q⟩ := r; exact ⟨e, n, o, k _ _ n q⟩
  | raw a => exact r
/-- hiding less -/
theorem RE.sub {O O' : List Addr} {H : Hp} (s : ∀ a ∈ O, a ∈ O') {e : Ent} {v : V} (r : RE O' H e v) : RE O H e v := by
  cases e with
  | dat d => exact Rp.mono (hide_sub s) d v r
  | dct kvs => obtain ⟨a, e, n, q⟩ := r; exact ⟨a, e, fun z => n (s a z), q⟩
  | dctA a kvs => obtain ⟨e, n, q⟩ := r; exact ⟨e, fun z => n (s _ z), q⟩
  | raw a => exact r
/-- one more address hidden that was free -/
theorem Rp.hideMore {O : List Addr} {H H' : Hp} {p : Addr} (np : H p = none) (k : Keep O H H') (d : PyData) (v : V) (r : Rp (hide O H) v d) : Rp (hide (O ++ [p]) H') v d :=
  Rp.mono (fun b o h => by
    obtain ⟨h1, h2⟩ := hide_some h
    have nb : b ≠ p := ne_of_none h2 np
    rw [hide_out fun z => (List.mem_append.mp z).elim h1 fun z => nb (by simpa using z)]
    exact k b o h1 h2) d v r
theorem RpAll.hideMore {O : List Addr} {H H' : Hp} {p : Addr} (np : H p = none) (k : Keep O H H') (d : List PyData) (v : List V) (r : RpAll (hide O H) v d) : RpAll (hide (O ++ [p]) H') v d :=
  RpAll.mono (fun b o h => by
    obtain ⟨h1, h2⟩ := hide_some h
    have nb : b ≠ p := ne_of_none h2 np
    rw [hide_out fun z => (List.mem_append.mp z).elim h1 fun z => nb (by simpa using z)]
    exact k b o h1 h2) d v r
theorem rd_ne {H : Hp} {a p : Addr} {u : HO} (np : H p = none) (r : Rd H a u) : a ≠ p := by
  rcases r with r | ⟨o, r⟩
  · exact ne_of_none r np
  · exact ne_of_none r np
theorem RE.hideMore {O : List Addr} {H H' : Hp} {p : Addr} (np : H p = none) (k : Keep O H H') {e : Ent} {v : V} (r : RE O H e v) : RE (O ++ [p]) H' e v := by
  cases e with
  | dat d => exact Rp.hideMore np k d v r
  | dctA a kvs =>
    obtain ⟨e, n, o, q⟩ := r
    exact ⟨e, fun z => (List.mem_append.mp z).elim n fun z => ne_of_none q np (by simpa using z), o, k _ _ n q⟩
  | dct kvs =>
    obtain ⟨a, e, n, q⟩ := r
    exact ⟨a, e, fun z => (List.mem_append.mp z).elim n fun z => rd_ne np q (by simpa using z), k.rd n q⟩
  | raw a => exact r

structure EOk (ω : Own) (ρ : Rho) (σ : L2.St) (H : Hp) : Prop where
  own : OwnOk ω H
  len : σ.length = ρ.length
  val : ∀ (i : Nat) (e : Ent), ρ[i]? = some (some e) → ∃ v, σ[i]? = some (some v) ∧ RE (dom ω) H e v
structure Xt (ω : Own) (H : Hp) (ω' : Own) (H' : Hp) : Prop where
  dm : dom ω' = dom ω
  own : OwnOk ω' H'
  keep : Keep (dom ω) H H'
theorem Xt.refl {ω : Own} {H : Hp} (o : OwnOk ω H) : Xt ω H ω H := ⟨rfl, o, .refl⟩
theorem Xt.trans {ω ω1 ω2 : Own} {H H1 H2 : Hp} (a : Xt ω H ω1 H1) (b : Xt ω1 H1 ω2 H2) : Xt ω H ω2 H2 := ⟨b.dm.trans a.dm, b.own, a.keep.trans (by have := b.keep; rw [a.dm] at this; exact this)⟩
theorem EOk.xt {ω ω' : Own} {ρ : Rho} {σ : L2.St} {H H' : Hp} (e : EOk ω ρ σ H) (x : Xt ω H ω' H') : EOk ω' ρ σ H' :=
  ⟨x.own, e.len, fun i en h => let ⟨v, h1, h2⟩ := e.val i en h; ⟨v, h1, by rw [x.dm]; exact h2.keep x.keep⟩⟩
theorem Xt.re {ω ω' : Own} {H H' : Hp} (x : Xt ω H ω' H') {e : Ent} {v : V} (r : RE (dom ω) H e v) : RE (dom ω') H' e v := by
  rw [x.dm]; exact r.keep x.keep
theorem OwnOk.keep {ω : Own} {H H' : Hp} (o : OwnOk ω H) (k : Keep (dom ω) H H') (s : ∀ a ∈ dom ω, H' a = H a) : OwnOk ω H' := by
  refine ⟨o.nd, fun p hp => ?_⟩
  have hs := s p.1 (List.mem_map.mpr ⟨p, hp, rfl⟩)
  have h := o.at_ p hp
  obtain ⟨a, c⟩ := p
  cases c with
  | lst ds => obtain ⟨xs, e, r⟩ := h; exact ⟨xs, hs.trans e, RpAll.mono k.hide _ _ r⟩
  | dct kvs => exact hs.trans h
  | row KK scr ns kk ss rr => obtain ⟨e, q, l⟩ := h; exact ⟨hs.trans e, q.to fun n r => ⟨n, k.rd n r⟩, l⟩
  | obj C dx fs => obtain ⟨vs, e, r⟩ := h; exact ⟨vs, hs.trans e, r.map fun _ _ q => q.keep k⟩
  | dk kvs => exact hs.trans h
/-- a new object that is not owned -/
theorem OwnOk.upd {ω : Own} {H : Hp} (o : OwnOk ω H) {p : Addr} {u : HO} (np : H p = none) : OwnOk ω (upd H p u) :=
  o.keep (.upd np) fun a ha => upd_ne fun z => by rw [z] at ha; exact o.fresh np ha
theorem Xt.upd {ω : Own} {H : Hp} (o : OwnOk ω H) {p : Addr} {u : HO} (np : H p = none) : Xt ω H ω (L2.upd H p u) := ⟨rfl, o.upd np, .upd np⟩

/-! ### the judgements -/
def tD (ω : Own) (ρ : Rho) (e : Ent) (ω' : Own) : TE := fun σ H Q => EOk ω ρ σ H ∧ ∀ v H', Xt ω H ω' H' → RE (dom ω') H' e v → Q v H'
def tT (ω : Own) (ρ : Rho) (b : Bool) (ω' : Own) : TT := fun σ H Q => EOk ω ρ σ H ∧ ∀ H', Xt ω H ω' H' → Q b H'
abbrev REs (O : List Addr) (H : Hp) : List Ent → List V → Prop := Paired (RE O H)
def tAs (ω : Own) (ρ : Rho) (es : List Ent) (ω' : Own) : TA := fun σ H Q => EOk ω ρ σ H ∧ ∀ vs H', Xt ω H ω' H' → REs (dom ω') H' es vs → Q vs H'
/-- a block that ends behind its last statement -/
def tN (ω : Own) (ρ : Rho) (ω' : Own) (ρ' : Rho) : TS := fun D σ H => EOk ω ρ σ H ∧ ∀ σ' H', Xt ω H ω' H' → EOk ω' ρ' σ' H' → D.nx σ' H'
/-- a block that returns -/
def tRt (ω : Own) (ρ : Rho) (e : Ent) (ω' : Own) : TS := fun D σ H => EOk ω ρ σ H ∧ ∀ v H', Keep (dom ω) H H' → OwnOk ω' H' → RE (dom ω') H' e v → D.rt v H'
abbrev DE (X : Cx) (ω : Own) (ρ : Rho) (x : Expr) (e : Ent) (ω' : Own) : Prop := PE X x (tD ω ρ e ω')
abbrev DT (X : Cx) (ω : Own) (ρ : Rho) (x : Expr) (b : Bool) (ω' : Own) : Prop := PT X x (tT ω ρ b ω')
abbrev DA (X : Cx) (ω : Own) (ρ : Rho) (xs : List Expr) (es : List Ent) (ω' : Own) : Prop := PA X xs (tAs ω ρ es ω')
abbrev DN (X : Cx) (ω : Own) (ρ : Rho) (s : Stmt) (ω' : Own) (ρ' : Rho) : Prop := PS X s (tN ω ρ ω' ρ')
abbrev DNs (X : Cx) (ω : Own) (ρ : Rho) (s : List Stmt) (ω' : Own) (ρ' : Rho) : Prop := PSs X s (tN ω ρ ω' ρ')
abbrev DR (X : Cx) (ω : Own) (ρ : Rho) (s : List Stmt) (e : Ent) (ω' : Own) : Prop := PSs X s (tRt ω ρ e ω')

section
variable {X : Cx} {e : Expr} {st : Stmt} {sts : List Stmt} {es : List Expr}
theorem pe_w {t t' : TE} (h : PE X e t) (w : ∀ σ H Q, t' σ H Q → t σ H Q) : PE X e t' := ⟨fun pins s σ H Q I q => h.run pins s σ H Q I (w σ H Q q)⟩
theorem pt_w {t t' : TT} (h : PT X e t) (w : ∀ σ H Q, t' σ H Q → t σ H Q) : PT X e t' := ⟨fun pins s σ H Q I q => h.run pins s σ H Q I (w σ H Q q)⟩
theorem pw_w {t t' : TT} (h : PW X e t) (w : ∀ σ H Q, t' σ H Q → t σ H Q) : PW X e t' := ⟨fun wh pins s σ H Q I q => h.run wh pins s σ H Q I (w σ H Q q)⟩
theorem pa_w {t t' : TA} (h : PA X es t) (w : ∀ σ H Q, t' σ H Q → t σ H Q) : PA X es t' := ⟨fun pos pins s σ H Q I q => h.run pos pins s σ H Q I (w σ H Q q)⟩
theorem ps_w {t t' : TS} (h : PS X st t) (w : ∀ D σ H, t' D σ H → t D σ H) : PS X st t' := ⟨fun pins s σ H D I q => h.run pins s σ H D I (w D σ H q)⟩
theorem pss_w {t t' : TS} (h : PSs X sts t) (w : ∀ D σ H, t' D σ H → t D σ H) : PSs X sts t' := ⟨fun pins s σ H D I q => h.run pins s σ H D I (w D σ H q)⟩
theorem pe_ex {α : Type} {t : α → TE} {p : α → Prop} (h : ∀ a, p a → PE X e (t a)) : PE X e (fun σ H Q => ∃ a, p a ∧ t a σ H Q) := ⟨fun pins s σ H Q I ⟨a, pa, q⟩ => (h a pa).run pins s σ H Q I q⟩
theorem pts_ex {α : Type} {t : α → TT} {p : α → Prop} (h : ∀ a, p a → PTs X es (t a)) : PTs X es (fun σ H Q => ∃ a, p a ∧ t a σ H Q) := ⟨fun pins s σ H Q I ⟨a, pa, q⟩ => (h a pa).run pins s σ H Q I q⟩
theorem pss_ex {α : Type} {t : α → TS} {p : α → Prop} (h : ∀ a, p a → PSs X sts (t a)) : PSs X sts (fun D σ H => ∃ a, p a ∧ t a D σ H) := ⟨fun pins s σ H D I ⟨a, pa, q⟩ => (h a pa).run pins s σ H D I q⟩
end
end DL

set_option Elab.async false
set_option linter.all false
set_option maxRecDepth 100000
set_option maxHeartbeats 1000000
namespace DL
open PySem PySem.Spec PyProof.Rows L2

abbrev I (i : Int) : Ent := .dat (.int i)
abbrev B (b : Bool) : Ent := .dat (.bool b)
theorem RE.int {O : List Addr} {H : Hp} {i : Int} {v : V} (r : RE O H (I i) v) : v = .int i := by cases r; rfl
theorem RE.bool {O : List Addr} {H : Hp} {i : Bool} {v : V} (r : RE O H (B i) v) : v = .bl i := by cases r; rfl
theorem RE.str {O : List Addr} {H : Hp} {i : Str} {v : V} (r : RE O H (.dat (.str i)) v) : v = .str i := by cases r; rfl
theorem RE.ofInt {O : List Addr} {H : Hp} (i : Int) : RE O H (I i) (.int i) := Rp.int i
theorem RE.ofBool {O : List Addr} {H : Hp} (i : Bool) : RE O H (B i) (.bl i) := Rp.bl i
theorem RE.lst {O : List Addr} {H : Hp} {ds : List PyData} {v : V} (r : RE O H (.dat (.list ds)) v) : ∃ a xs, v = .ref a ∧ a ∉ O ∧ H a = some (.lst xs) ∧ RpAll (hide O H) xs ds := by
  cases r with
  | lst e q => obtain ⟨n, e⟩ := hide_some e; exact ⟨_, _, rfl, n, e, q⟩
theorem RE.tup {O : List Addr} {H : Hp} {ds : List PyData} {v : V} (r : RE O H (.dat (.tuple ds)) v) : ∃ a xs, v = .ref a ∧ a ∉ O ∧ H a = some (.tup xs) ∧ RpAll (hide O H) xs ds := by
  cases r with
  | tup e q => obtain ⟨n, e⟩ := hide_some e; exact ⟨_, _, rfl, n, e, q⟩
/-- a new list, a new tuple -/
theorem RE.newL {ω : Own} {H : Hp} (o : OwnOk ω H) {p : Addr} (np : H p = none) {xs : List V} {ds : List PyData} (r : RpAll (hide (dom ω) H) xs ds) : RE (dom ω) (upd H p (.lst xs)) (.dat (.list ds)) (.ref p) := by
  refine Rp.lst (xs := xs) ?_ (RpAll.mono (Keep.upd np).hide _ _ r)
  rw [hide_out (o.fresh np), upd_same]
theorem RE.newT {ω : Own} {H : Hp} (o : OwnOk ω H) {p : Addr} (np : H p = none) {xs : List V} {ds : List PyData} (r : RpAll (hide (dom ω) H) xs ds) : RE (dom ω) (upd H p (.tup xs)) (.dat (.tuple ds)) (.ref p) := by
  refine Rp.tup (xs := xs) ?_ (RpAll.mono (Keep.upd np).hide _ _ r)
  rw [hide_out (o.fresh np), upd_same]
theorem REs.all {O : List Addr} {H : Hp} : ∀ {ds : List PyData} {vs : List V}, REs O H (ds.map Ent.dat) vs → RpAll (hide O H) vs ds
  | [], _, h => by rw [List.map_nil] at h; cases h; exact .nil
  | d :: ds, _, h => by
    rw [List.map_cons] at h
    cases h with
    | cons a b => exact .cons a (REs.all b)

section
variable {X : Cx} {ω ω1 ω2 ω3 : Own} {ρ : Rho} {a b c : Expr} {es : List Expr} {e1 e2 e3 : Ent} {pos : Pos}

theorem de_var (i : Nat) {x : Str} {e : Ent} (he : ρ[i]? = some (some e) := by rfl) (hN : X.N[i]? = some x := by rfl) (hv : Vis X.env.scope x := by first | exact Or.inl rfl | exact Or.inr (Or.inl rfl) | exact Or.inr (Or.inr rfl))
    (hd : (x == ("__debug__" : Str)) = false := by decide) (hcd : (x == ("__classdict__" : Str)) = false := by decide) : DE X ω ρ (.Name x pos) e ω :=
  pe_w (pe_var hN hv hd hcd) fun σ H Q ⟨hE, q⟩ => by
    obtain ⟨v, h1, h2⟩ := hE.val i e he
    exact ⟨v, h1, q v H (.refl hE.own) h2⟩
theorem de_c {x : Expr} {v : V} {e : Ent} (h : PE X x (tC v)) (r : ∀ O H, RE O H e v) : DE X ω ρ x e ω := pe_w h fun σ H Q ⟨hE, q⟩ => q v H (.refl hE.own) (r _ _)
theorem de_int {i : Int} {j} : DE X ω ρ (.Constant (.int i) j pos) (I i) ω := de_c pe_int fun _ _ => Rp.int i
theorem de_bl {i : Bool} {j} : DE X ω ρ (.Constant (.bool i) j pos) (B i) ω := de_c pe_bl fun _ _ => Rp.bl i
theorem de_non {j} : DE X ω ρ (.Constant .none j pos) (.dat .none) ω := de_c pe_non fun _ _ => Rp.non
theorem de_str {x : Str} {j} : DE X ω ρ (.Constant (.str x) j pos) (.dat (.str x)) ω := de_c pe_str fun _ _ => Rp.str x
/-- a module's int -/
theorem de_globI {x : Str} {i : Int} {t : Tok} (hm : X.mg x = some (.int i t)) (hg : Gl X x := by rfl) (hd : (x == ("__debug__" : Str)) = false := by decide) : DE X ω ρ (.Name x pos) (I i) ω := de_c (pe_glob (v := .int i) hg hm ⟨t, rfl⟩ hd) fun _ _ => Rp.int i

/-! ### two-place operations -/
/-- e1 op e2 is e3 -/
structure Op2 (X : Cx) (f : Value → Value → Sem Value) (e1 e2 e3 : Ent) : Prop where
  ex : ∃ r : R2, OpR X f r ∧ ∀ (ω : Own) (x y : V) (H : Hp) (Q : VK), OwnOk ω H → RE (dom ω) H e1 x → RE (dom ω) H e2 y → (∀ v H', Xt ω H ω H' → RE (dom ω) H' e3 v → Q v H') → r x y H Q
theorem tOp_w {r : R2} (h : ∀ (ω : Own) (x y : V) (H : Hp) (Q : VK), OwnOk ω H → RE (dom ω) H e1 x → RE (dom ω) H e2 y → (∀ v H', Xt ω H ω H' → RE (dom ω) H' e3 v → Q v H') → r x y H Q) :
    ∀ σ H Q, tD ω ρ e3 ω2 σ H Q → tOp r (tD ω ρ e1 ω1) (tD ω1 ρ e2 ω2) σ H Q := fun σ H Q ⟨hE, q⟩ =>
  ⟨hE, fun x H1 x1 r1 => ⟨hE.xt x1, fun y H2 x2 r2 => h ω2 x y H2 Q x2.own (x2.re r1) r2 fun v H3 x3 r3 => q v H3 ((x1.trans x2).trans x3) r3⟩⟩
theorem de_op {op : Operator} (ho : Op2 X (binaryOp op) e1 e2 e3) (ha : DE X ω ρ a e1 ω1) (hb : DE X ω1 ρ b e2 ω2) : DE X ω ρ (.BinOp a op b pos) e3 ω2 := by
  obtain ⟨r, h1, h2⟩ := ho.ex
  exact pe_w (pe_op h1 ha hb) (tOp_w h2)
theorem de_cmp {op : CmpOp} (ho : Op2 X (compareOp op) e1 e2 e3) (ha : DE X ω ρ a e1 ω1) (hb : DE X ω1 ρ b e2 ω2) (hm : behindInMarks op b = false := by first | exact nomark _ | with_unfolding_all rfl) : DE X ω ρ (.Compare a [op] [b] pos) e3 ω2 := by
  obtain ⟨r, h1, h2⟩ := ho.ex
  exact pe_w (pe_cmpR h1 ha hb hm) (tOp_w h2)
theorem dt_cmp {op : CmpOp} {k : Bool} (ho : Op2 X (compareOp op) e1 e2 (B k)) (ha : DE X ω ρ a e1 ω1) (hb : DE X ω1 ρ b e2 ω2) (hm : behindInMarks op b = false := by first | exact nomark _ | with_unfolding_all rfl) : DT X ω ρ (.Compare a [op] [b] pos) k ω2 := by
  obtain ⟨r, h1, h2⟩ := ho.ex
  exact pt_w (pt_cmpR h1 ha hb hm) fun σ H Q ⟨hE, q⟩ => tOp_w h2 σ H _ ⟨hE, fun v H' x r => ⟨k, r.bool, q H' x⟩⟩
theorem de_chain {op op' : CmpOp} {k k' : Bool} (ho : Op2 X (compareOp op) e1 e2 (B k)) (ho' : Op2 X (compareOp op') e2 e3 (B k')) (ha : DE X ω ρ a e1 ω) (hb : DE X ω ρ b e2 ω) (hc : DE X ω ρ c e3 ω)
    (hm : lastMarks [op, op'] [b, c] = false := by with_unfolding_all rfl) : DE X ω ρ (.Compare a [op, op'] [b, c] pos) (B (k && k')) ω := by
  obtain ⟨r, h1, h2⟩ := ho.ex
  obtain ⟨r', h3, h4⟩ := ho'.ex
  refine pe_w (pe_chain h1 h3 ha hb hc hm) fun σ H Q ⟨hE, q⟩ => ?_
  refine ⟨hE, fun x H1 x1 r1 => ⟨hE.xt x1, fun y H2 x2 r2 => h2 ω x y H2 _ x2.own (x2.re r1) r2 fun v H3 x3 r3 => ⟨k, r3.bool, ?_⟩⟩⟩
  cases k with
  | false => exact iteF (q _ H3 ((x1.trans x2).trans x3) (.ofBool _))
  | true =>
    refine iteT ⟨((hE.xt x1).xt x2).xt x3, fun z H4 x4 r4 => h4 ω y z H4 Q x4.own (x4.re (x3.re r2)) r4 fun v H5 x5 r5 => ?_⟩
    exact q v H5 ((((x1.trans x2).trans x3).trans x4).trans x5) r5
/-- by ints -/
theorem op2_I {f : Value → Value → Sem Value} {i j : Int} {C : Int → Int → Prop} {g : Int → Int → Int} (h : OpR X f (rI C fun i j => .int (g i j))) (hc : C i j) : Op2 X f (I i) (I j) (I (g i j)) :=
  ⟨_, h, fun ω x y H Q o rx ry q => ⟨i, j, rx.int, ry.int, hc, q _ H (.refl o) (.ofInt _)⟩⟩
theorem op2_I0 {f : Value → Value → Sem Value} {i j : Int} {g : Int → Int → Int} (h : OpR X f (rI0 fun i j => .int (g i j))) : Op2 X f (I i) (I j) (I (g i j)) :=
  ⟨_, h, fun ω x y H Q o rx ry q => ⟨i, j, rx.int, ry.int, q _ H (.refl o) (.ofInt _)⟩⟩
theorem op2_B0 {f : Value → Value → Sem Value} {i j : Int} {g : Int → Int → Bool} (h : OpR X f (rI0 fun i j => .bl (g i j))) : Op2 X f (I i) (I j) (B (g i j)) :=
  ⟨_, h, fun ω x y H Q o rx ry q => ⟨i, j, rx.int, ry.int, q _ H (.refl o) (.ofBool _)⟩⟩
variable {i j : Int}
theorem o_add : Op2 X (binaryOp .Add) (I i) (I j) (I (i + j)) := op2_I0 op_add
theorem o_sub : Op2 X (binaryOp .Sub) (I i) (I j) (I (i - j)) := op2_I0 op_sub
theorem o_mul (h : CMul i j) : Op2 X (binaryOp .Mult) (I i) (I j) (I (i * j)) := op2_I op_mul h
theorem o_fdiv (h : CDiv i j) : Op2 X (binaryOp .FloorDiv) (I i) (I j) (I (i / j)) := op2_I op_fdiv h
theorem o_mod (h : 0 < j) : Op2 X (binaryOp .Mod) (I i) (I j) (I (i % j)) := op2_I op_mod h
theorem o_pow (h : CPow i j) : Op2 X (binaryOp .Pow) (I i) (I j) (I (i ^ j.toNat)) := op2_I op_pow h
theorem o_lt : Op2 X (compareOp .Lt) (I i) (I j) (B (decide (i < j))) := op2_B0 op_lt
theorem o_le : Op2 X (compareOp .LtE) (I i) (I j) (B (decide (i ≤ j))) := op2_B0 op_le
theorem o_gt : Op2 X (compareOp .Gt) (I i) (I j) (B (decide (j < i))) := op2_B0 op_gt
theorem o_ge : Op2 X (compareOp .GtE) (I i) (I j) (B (decide (j ≤ i))) := op2_B0 op_ge
theorem o_eqD (hu : X.A.units + 64 < cLine) {d e : PyData} (hd : SeqAt.shaped d = true) (he : SeqAt.shaped e = true) : Op2 X (compareOp .Eq) (.dat d) (.dat e) (B (PyData.eqv d e)) :=
  ⟨_, op_eqD hu, fun ω x y H Q o rx ry q => ⟨d, e, Rp.dp d x (Rp.mono hide_le d x rx), Rp.dp e y (Rp.mono hide_le e y ry), hd, he, q _ H (.refl o) (.ofBool _)⟩⟩
theorem o_neD (hu : X.A.units + 64 < cLine) {d e : PyData} (hd : SeqAt.shaped d = true) (he : SeqAt.shaped e = true) : Op2 X (compareOp .NotEq) (.dat d) (.dat e) (B (!PyData.eqv d e)) :=
  ⟨_, op_neD hu, fun ω x y H Q o rx ry q => ⟨d, e, Rp.dp d x (Rp.mono hide_le d x rx), Rp.dp e y (Rp.mono hide_le e y ry), hd, he, q _ H (.refl o) (.ofBool _)⟩⟩
theorem o_eqI : Op2 X (compareOp .Eq) (I i) (I j) (B (decide (i = j))) :=
  ⟨_, op_eq, fun ω x y H Q o rx ry q => by
    cases rx.int; cases ry.int
    refine ⟨rfl, q _ H (.refl o) ?_⟩
    rw [show decide (V.int i = V.int j) = decide (i = j) from by by_cases h : i = j <;> simp [h]]
    exact .ofBool _⟩
theorem o_neI : Op2 X (compareOp .NotEq) (I i) (I j) (B (!decide (i = j))) :=
  ⟨_, op_ne, fun ω x y H Q o rx ry q => by
    cases rx.int; cases ry.int
    refine ⟨rfl, q _ H (.refl o) ?_⟩
    rw [show decide (V.int i = V.int j) = decide (i = j) from by by_cases h : i = j <;> simp [h]]
    exact .ofBool _⟩
theorem o_eqB {k l : Bool} : Op2 X (compareOp .Eq) (B k) (B l) (B (decide (k = l))) :=
  ⟨_, op_eq, fun ω x y H Q o rx ry q => by
    cases rx.bool; cases ry.bool
    refine ⟨rfl, q _ H (.refl o) ?_⟩
    rw [show decide (V.bl k = V.bl l) = decide (k = l) from by by_cases h : k = l <;> simp [h]]
    exact .ofBool _⟩
theorem o_neB {k l : Bool} : Op2 X (compareOp .NotEq) (B k) (B l) (B (!decide (k = l))) :=
  ⟨_, op_ne, fun ω x y H Q o rx ry q => by
    cases rx.bool; cases ry.bool
    refine ⟨rfl, q _ H (.refl o) ?_⟩
    rw [show decide (V.bl k = V.bl l) = decide (k = l) from by by_cases h : k = l <;> simp [h]]
    exact .ofBool _⟩
theorem inV_ints (k : Int) : ∀ ns : List Int, inV (.int k) (ns.map V.int) = decide (k ∈ ns)
  | [] => rfl
  | n :: ns => by
    have ih := inV_ints k ns
    show (eqV (.int n) (.int k) || inV (.int k) (ns.map V.int)) = _
    rw [ih]
    by_cases h : k = n
    · subst h; simp [eqV]
    · have h' : ¬ n = k := fun z => h z.symm
      simp [eqV, h, h']
theorem flat_ints : ∀ ns : List Int, (ns.map V.int).all flatV = true
  | [] => rfl
  | n :: ns => by show (flatV (.int n) && (ns.map V.int).all flatV) = true; rw [flat_ints ns]; rfl
abbrev tupI (g : List Int) : PyData := .tuple (g.map .int)
abbrev lstI (g : List Int) : PyData := .list (g.map .int)
theorem o_inT {g : List Int} : Op2 X (compareOp .In) (I i) (.dat (tupI g)) (B (decide (i ∈ g))) :=
  ⟨_, op_in_seq, fun ω x y H Q o rx ry q => by
    obtain ⟨p, xs, rfl, n, e, r⟩ := ry.tup
    cases rx.int
    have ex := r.ints
    subst ex
    refine ⟨p, _, rfl, .inr (SqT.of e), rfl, flat_ints g, ?_⟩
    rw [inV_ints]
    exact q _ H (.refl o) (.ofBool _)⟩
theorem o_notInT {g : List Int} : Op2 X (compareOp .NotIn) (I i) (.dat (tupI g)) (B (!decide (i ∈ g))) :=
  ⟨_, op_notIn_seq, fun ω x y H Q o rx ry q => by
    obtain ⟨p, xs, rfl, n, e, r⟩ := ry.tup
    cases rx.int
    have ex := r.ints
    subst ex
    refine ⟨p, _, rfl, .inr (SqT.of e), rfl, flat_ints g, ?_⟩
    rw [inV_ints]
    exact q _ H (.refl o) (.ofBool _)⟩
/-- list + list, tuple + tuple -/
theorem o_cat {d e : List PyData} (hz : d.length + e.length ≤ sizeLine) : Op2 X (binaryOp .Add) (.dat (.list d)) (.dat (.list e)) (.dat (.list (d ++ e))) :=
  ⟨_, op_cat, fun ω x y H Q o rx ry q => by
    obtain ⟨p, xs, rfl, n, e1, r⟩ := rx.lst
    obtain ⟨p', ys, rfl, n', e2, r'⟩ := ry.lst
    refine ⟨p, p', xs, ys, rfl, rfl, e1, e2, by rw [r.length, r'.length]; exact hz, fun t nt => ?_⟩
    exact q _ _ (Xt.upd o nt) (.newL o nt (r.append r'))⟩
theorem o_catT {d e : List PyData} (hz : d.length + e.length ≤ sizeLine) (hd : d ≠ []) (he : e ≠ []) : Op2 X (binaryOp .Add) (.dat (.tuple d)) (.dat (.tuple e)) (.dat (.tuple (d ++ e))) :=
  ⟨_, op_catT, fun ω x y H Q o rx ry q => by
    obtain ⟨p, xs, rfl, n, e1, r⟩ := rx.tup
    obtain ⟨p', ys, rfl, n', e2, r'⟩ := ry.tup
    refine ⟨p, p', xs, ys, rfl, rfl, SqT.of e1, SqT.of e2, fun z => ?_, by rw [r.length, r'.length]; exact hz, fun z => ?_, fun _ t nt => ?_⟩
    · subst z; cases r; exact hd rfl
    · subst z; cases r'; exact absurd rfl he
    · exact q _ _ (Xt.upd o nt) (.newT o nt (r.append r'))⟩
theorem de_neg (ha : DE X ω ρ a (I i) ω1) : DE X ω ρ (.UnaryOp .USub a pos) (I (-i)) ω1 :=
  pe_w (pe_un un_neg ha) fun σ H Q ⟨hE, q⟩ => ⟨hE, fun x H1 x1 r1 => ⟨i, r1.int, q _ H1 x1 (.ofInt _)⟩⟩

/-! ### tests, and or not -/
theorem dt_val {k : Bool} (h : DE X ω ρ a (B k) ω1) (he : ∀ whole, isTrue a X.env whole = (do let v ← whole; standAt a.pos; holding [v] (truthy v)) := by intro _; rfl) : DT X ω ρ a k ω1 :=
  pt_w (pt_val h he) fun σ H Q ⟨hE, q⟩ => ⟨hE, fun v H1 x1 r1 => ⟨k, r1.bool, q H1 x1⟩⟩
theorem dt_not {k : Bool} (h : DT X ω ρ a k ω1) : DT X ω ρ (.UnaryOp .Not a pos) (!k) ω1 := pt_w (pt_not h) fun σ H Q ⟨hE, q⟩ => ⟨hE, fun H1 x1 => q H1 x1⟩
abbrev DW (X : Cx) (ω : Own) (ρ : Rho) (x : Expr) (b : Bool) (ω' : Own) : Prop := PW X x (tT ω ρ b ω')
theorem dw_and1 {k : Bool} (h : DT X ω ρ a k ω1) : DW X ω ρ (.BoolOp .And [a] pos) k ω1 := pw_and1 h
theorem dw_or1 {k : Bool} (h : DT X ω ρ a k ω1) : DW X ω ρ (.BoolOp .Or [a] pos) k ω1 := pw_or1 h
theorem dw_and {k l : Bool} (h : DT X ω ρ a k ω) (h2 : k = true → DW X ω ρ (.BoolOp .And (b :: es) pos) l ω) : DW X ω ρ (.BoolOp .And (a :: b :: es) pos) (k && l) ω := by
  cases k with
  | true => exact pw_w (pw_and h (h2 rfl)) fun σ H Q ⟨hE, q⟩ => ⟨hE, fun H1 x1 => iteT ⟨hE.xt x1, fun H2 x2 => q H2 (x1.trans x2)⟩⟩
  | false => exact pw_w (pw_and h (⟨fun _ _ _ _ _ _ _ z => z.elim⟩ : PW X _ (fun _ _ _ => False))) fun σ H Q ⟨hE, q⟩ => ⟨hE, fun H1 x1 => iteF (q H1 x1)⟩
theorem dw_or {k l : Bool} (h : DT X ω ρ a k ω) (h2 : k = false → DW X ω ρ (.BoolOp .Or (b :: es) pos) l ω) : DW X ω ρ (.BoolOp .Or (a :: b :: es) pos) (k || l) ω := by
  cases k with
  | true => exact pw_w (pw_or h (⟨fun _ _ _ _ _ _ _ z => z.elim⟩ : PW X _ (fun _ _ _ => False))) fun σ H Q ⟨hE, q⟩ => ⟨hE, fun H1 x1 => iteT (q H1 x1)⟩
  | false => exact pw_w (pw_or h (h2 rfl)) fun σ H Q ⟨hE, q⟩ => ⟨hE, fun H1 x1 => iteF ⟨hE.xt x1, fun H2 x2 => q H2 (x1.trans x2)⟩⟩
theorem dt_w {k : Bool} (h : DW X ω ρ a k ω1) : DT X ω ρ a k ω1 := h.pt
/-- as values (of bools) -/
theorem de_one {op} {e : Ent} (h : DE X ω ρ a e ω1) : DE X ω ρ (.BoolOp op [a] pos) e ω1 := pe_one h
theorem de_and {k l : Bool} (h : DE X ω ρ a (B k) ω) (h2 : k = true → DE X ω ρ (.BoolOp .And (b :: es) pos) (B l) ω) : DE X ω ρ (.BoolOp .And (a :: b :: es) pos) (B (k && l)) ω := by
  cases k with
  | true => exact pe_w (pe_and h (h2 rfl)) fun σ H Q ⟨hE, q⟩ => ⟨hE, fun v H1 x1 r1 => ⟨true, r1.bool, iteT ⟨hE.xt x1, fun v H2 x2 r2 => q v H2 (x1.trans x2) r2⟩⟩⟩
  | false => exact pe_w (pe_and h (⟨fun _ _ _ _ _ _ z => z.elim⟩ : PE X _ (fun _ _ _ => False))) fun σ H Q ⟨hE, q⟩ => ⟨hE, fun v H1 x1 r1 => ⟨false, r1.bool, iteF (q _ H1 x1 (.ofBool _))⟩⟩
theorem de_or {k l : Bool} (h : DE X ω ρ a (B k) ω) (h2 : k = false → DE X ω ρ (.BoolOp .Or (b :: es) pos) (B l) ω) : DE X ω ρ (.BoolOp .Or (a :: b :: es) pos) (B (k || l)) ω := by
  cases k with
  | true => exact pe_w (pe_or h (⟨fun _ _ _ _ _ _ z => z.elim⟩ : PE X _ (fun _ _ _ => False))) fun σ H Q ⟨hE, q⟩ => ⟨hE, fun v H1 x1 r1 => ⟨true, r1.bool, iteT (q _ H1 x1 (.ofBool _))⟩⟩
  | false => exact pe_w (pe_or h (h2 rfl)) fun σ H Q ⟨hE, q⟩ => ⟨hE, fun v H1 x1 r1 => ⟨false, r1.bool, iteF ⟨hE.xt x1, fun v H2 x2 r2 => q v H2 (x1.trans x2) r2⟩⟩⟩
theorem de_if {k : Bool} {e : Ent} (h : DT X ω ρ c k ω) (h1 : k = true → DE X ω ρ a e ω1) (h2 : k = false → DE X ω ρ b e ω1) : DE X ω ρ (.IfExp c a b pos) e ω1 := by
  cases k with
  | true => exact pe_w (pe_ifExp h (h1 rfl) (⟨fun _ _ _ _ _ _ z => z.elim⟩ : PE X _ (fun _ _ _ => False))) fun σ H Q ⟨hE, q⟩ => ⟨hE, fun H1 x1 => iteT ⟨hE.xt x1, fun v H2 x2 r2 => q v H2 (x1.trans x2) r2⟩⟩
  | false => exact pe_w (pe_ifExp h (⟨fun _ _ _ _ _ _ z => z.elim⟩ : PE X _ (fun _ _ _ => False)) (h2 rfl)) fun σ H Q ⟨hE, q⟩ => ⟨hE, fun H1 x1 => iteF ⟨hE.xt x1, fun v H2 x2 r2 => q v H2 (x1.trans x2) r2⟩⟩
theorem de_not {k : Bool} (h : PE X (.UnaryOp .Not a pos) (tNotV (tD ω ρ (B k) ω1))) : DE X ω ρ (.UnaryOp .Not a pos) (B (!k)) ω1 :=
  pe_w h fun σ H Q ⟨hE, q⟩ => ⟨hE, fun v H1 x1 r1 => ⟨k, r1.bool, q _ H1 x1 (.ofBool _)⟩⟩

/-! ### displays, arguments -/
theorem da_nil : DA X ω ρ [] [] ω := pa_w pa_nil fun σ H Q ⟨hE, q⟩ => q [] H (.refl hE.own) .nil
theorem da_cons {rs : List Ent} (h : DE X ω ρ a e1 ω1) (hr : DA X ω1 ρ es rs ω2) (hs : starEach (a :: es) X.env = (false, eval a X.env) :: starEach es X.env := by rfl) : DA X ω ρ (a :: es) (e1 :: rs) ω2 :=
  pa_w (pa_cons h hr hs) fun σ H Q ⟨hE, q⟩ => ⟨hE, fun x H1 x1 r1 => ⟨hE.xt x1, fun xs H2 x2 r2 => q _ H2 (x1.trans x2) (.cons (x2.re r1) r2)⟩⟩
theorem REs.app {O : List Addr} {H : Hp} : ∀ {es fs : List Ent} {vs ws : List V}, REs O H es vs → REs O H fs ws → REs O H (es ++ fs) (vs ++ ws)
  | _, _, _, _, .nil, s => s
  | _, _, _, _, .cons r t, s => .cons r (REs.app t s)
theorem REs.of {O : List Addr} {H : Hp} : ∀ {ds : List PyData} {vs : List V}, RpAll (hide O H) vs ds → REs O H (ds.map Ent.dat) vs
  | [], _, h => by cases h; exact .nil
  | d :: ds, _, h => by cases h with | cons a b => exact .cons a (REs.of b)
theorem REs.keep {O : List Addr} {H H' : Hp} (k : Keep O H H') : ∀ {es : List Ent} {vs : List V}, REs O H es vs → REs O H' es vs
  | _, _, .nil => .nil
  | _, _, .cons a b => .cons (a.keep k) (REs.keep k b)
/-- *t in a display -/
theorem da_starT {ds : List PyData} {rs : List Ent} {p : Pos} (h : DE X ω ρ a (.dat (.tuple ds)) ω1) (hr : DA X ω1 ρ es rs ω2) (hs : starEach (.Starred a p :: es) X.env = (true, eval a X.env) :: starEach es X.env := by rfl) : DA X ω ρ (.Starred a p :: es) (ds.map Ent.dat ++ rs) ω2 :=
  pa_w (StX.pa_star h hr) fun σ H Q ⟨hE, q⟩ => ⟨hE, fun x H1 x1 r1 => by
    obtain ⟨t, xs, rfl, n, e, r⟩ := r1.tup
    refine ⟨t, xs, rfl, .inl (SqT.of e), hE.xt x1, fun ys H2 x2 r2 => ?_⟩
    refine q _ H2 (x1.trans x2) (REs.app (REs.of ?_) r2)
    rw [x2.dm]
    exact RpAll.mono x2.keep.hide _ _ r⟩
theorem de_tup {ds : List PyData} {k} (h : DA X ω ρ es (ds.map Ent.dat) ω1) (hz : ds.length ≤ sizeLine) : DE X ω ρ (.Tuple es k pos) (.dat (.tuple ds)) ω1 :=
  pe_w (pe_tup h) fun σ H Q ⟨hE, q⟩ => ⟨hE, fun vs H1 x1 r1 => ⟨by rw [← r1.length, List.length_map]; exact hz, fun p np => q _ _ (x1.trans (.upd x1.own np)) (.newT x1.own np r1.all)⟩⟩
theorem de_lst {ds : List PyData} (h : DA X ω ρ es (ds.map Ent.dat) ω1) (hz : ds.length ≤ sizeLine) : DE X ω ρ (.List es pos) (.dat (.list ds)) ω1 :=
  pe_w (pe_lst h) fun σ H Q ⟨hE, q⟩ => ⟨hE, fun vs H1 x1 r1 => ⟨by rw [← r1.length, List.length_map]; exact hz, fun p np => q _ _ (x1.trans (.upd x1.own np)) (.newL x1.own np r1.all)⟩⟩
end
end DL

set_option Elab.async false
set_option linter.all false
set_option maxRecDepth 100000
set_option maxHeartbeats 1000000
namespace DL
open PySem PySem.Spec PyProof.Rows L2
section
variable {X : Cx} {ω ω1 ω2 ω3 : Own} {ρ ρ' : Rho} {a b c : Expr} {es : List Expr} {e1 e2 e3 : Ent} {pos p2 p3 : Pos}

/-! ### calls of built-ins -/
structure CallD (X : Cx) (f : Value) (es : List Ent) (e : Ent) : Prop where
  ex : ∃ r, CallR X f r ∧ ∀ (ω : Own) (vs : List V) (H : Hp) (Q : VK), OwnOk ω H → REs (dom ω) H es vs → (∀ v H', Xt ω H ω H' → RE (dom ω) H' e v → Q v H') → r vs H Q
theorem de_callB {x : Str} {id : String} {rs : List Ent} {e : Ent} (hc : CallD X (.builtin id) rs e) (hm : X.mg x = none) (hv : bootBuiltins x = some (.builtin id)) (ha : DA X ω ρ (a :: es) rs ω1) (hg : Gl X x := by rfl) (hn : x ≠ "__name__" := by decide) (hdb : (x == ("__debug__" : Str)) = false := by decide)
    (he : starEach (a :: es) X.env = (false, eval a X.env) :: starEach es X.env := by rfl) (hpl : (backTo pos (starEach es X.env)).any (·.1) = false := by rfl) : DE X ω ρ (.Call (.Name x p2) (a :: es) [] pos) e ω1 := by
  obtain ⟨r, h1, h2⟩ := hc.ex
  exact pe_w (pe_callB h1 hg hm hv ha hn hdb he hpl) fun σ H Q ⟨hE, q⟩ => ⟨hE, fun vs H1 x1 r1 => h2 _ vs H1 Q x1.own r1 fun v H2 x2 r2 => q v H2 (x1.trans x2) r2⟩
theorem de_callT {x : Str} {T : String} {rs : List Ent} {e : Ent} (hc : CallD X (.type T) rs e) (hm : X.mg x = none) (hv : bootBuiltins x = some (.type T)) (ha : DA X ω ρ (a :: es) rs ω1) (hg : Gl X x := by rfl) (hn : x ≠ "__name__" := by decide) (hdb : (x == ("__debug__" : Str)) = false := by decide)
    (he : starEach (a :: es) X.env = (false, eval a X.env) :: starEach es X.env := by rfl) (hpl : (backTo pos (starEach es X.env)).any (·.1) = false := by rfl) : DE X ω ρ (.Call (.Name x p2) (a :: es) [] pos) e ω1 := by
  obtain ⟨r, h1, h2⟩ := hc.ex
  exact pe_w (pe_callTy h1 hg hm hv ha hn hdb he hpl) fun σ H Q ⟨hE, q⟩ => ⟨hE, fun vs H1 x1 r1 => h2 _ vs H1 Q x1.own r1 fun v H2 x2 r2 => q v H2 (x1.trans x2) r2⟩
theorem REs.one {O : List Addr} {H : Hp} {vs : List V} {e : Ent} (h : REs O H [e] vs) : ∃ v, vs = [v] ∧ RE O H e v := by
  cases h with
  | cons a b => cases b; exact ⟨_, rfl, a⟩
theorem REs.two {O : List Addr} {H : Hp} {vs : List V} {e f : Ent} (h : REs O H [e, f] vs) : ∃ v w, vs = [v, w] ∧ RE O H e v ∧ RE O H f w := by
  cases h with
  | cons a b =>
    obtain ⟨w, rfl, q⟩ := REs.one b
    exact ⟨_, _, rfl, a, q⟩
theorem c_lenL {ds : List PyData} : CallD X (.builtin "len") [.dat (.list ds)] (I ds.length) :=
  ⟨_, call_len_seq, fun ω vs H Q o rr q => by
    obtain ⟨v, rfl, r⟩ := REs.one rr
    obtain ⟨p, xs, rfl, n, e, r⟩ := r.lst
    refine ⟨p, xs, rfl, .inl (SqL.of e), ?_⟩
    rw [r.length]
    exact q _ H (.refl o) (.ofInt _)⟩
theorem c_lenT {ds : List PyData} : CallD X (.builtin "len") [.dat (.tuple ds)] (I ds.length) :=
  ⟨_, call_len_seq, fun ω vs H Q o rr q => by
    obtain ⟨v, rfl, r⟩ := REs.one rr
    obtain ⟨p, xs, rfl, n, e, r⟩ := r.tup
    refine ⟨p, xs, rfl, .inr (SqT.of e), ?_⟩
    rw [r.length]
    exact q _ H (.refl o) (.ofInt _)⟩
theorem c_sum (hc : X.calm = true) {ns : List Int} : CallD X (.builtin "sum") [.dat (lstI ns)] (I ns.sum) :=
  ⟨_, cr_sum hc, fun ω vs H Q o rr q => by
    obtain ⟨v, rfl, r⟩ := REs.one rr
    obtain ⟨p, xs, rfl, n, e, r⟩ := r.lst
    have ex := r.ints
    subst ex
    exact ⟨p, ns, rfl, SqL.of e, q _ H (.refl o) (.ofInt _)⟩⟩
theorem c_all (hc : X.calm = true) {ns : List Bool} : CallD X (.builtin "all") [.dat (.list (ns.map .bool))] (B (ns.all id)) :=
  ⟨_, cr_all hc, fun ω vs H Q o rr q => by
    obtain ⟨v, rfl, r⟩ := REs.one rr
    obtain ⟨p, xs, rfl, n, e, r⟩ := r.lst
    have ex := r.bools
    subst ex
    exact ⟨p, ns, rfl, SqL.of e, q _ H (.refl o) (.ofBool _)⟩⟩
theorem c_any (hc : X.calm = true) {ns : List Bool} : CallD X (.builtin "any") [.dat (.list (ns.map .bool))] (B (ns.any id)) :=
  ⟨_, cr_any hc, fun ω vs H Q o rr q => by
    obtain ⟨v, rfl, r⟩ := REs.one rr
    obtain ⟨p, xs, rfl, n, e, r⟩ := r.lst
    have ex := r.bools
    subst ex
    exact ⟨p, ns, rfl, SqL.of e, q _ H (.refl o) (.ofBool _)⟩⟩
def sortI (ns : List Int) : List Int := ns.mergeSort (fun a b => decide (a ≤ b))
theorem sortI_eq {ns ms : List Int} (p : ms.Perm ns) (s : ms.Pairwise (· ≤ ·)) : ms = sortI ns := by
  have h1 : (sortI ns).Perm ns := List.mergeSort_perm _ _
  have h2 : (sortI ns).Pairwise (· ≤ ·) := by
    have := List.pairwise_mergeSort (le := fun a b : Int => decide (a ≤ b)) (fun a b c h1 h2 => by simp at *; omega) (fun a b => by simp; omega) ns
    exact this.imp (by intro a b h; simpa using h)
  exact (p.trans h1.symm).eq_of_pairwise (le := (· ≤ ·)) (fun a b _ _ h h' => by omega) s h2
theorem c_sortedI {ns : List Int} : CallD X (.builtin "sorted") [.dat (lstI ns)] (.dat (lstI (sortI ns))) :=
  ⟨_, cr_sortedI, fun ω vs H Q o rr q => by
    obtain ⟨v, rfl, r⟩ := REs.one rr
    obtain ⟨p, xs, rfl, n, e, r⟩ := r.lst
    have ex := r.ints
    subst ex
    refine ⟨p, ns, rfl, SqL.of e, fun ms t hp hs nt => ?_⟩
    have em := sortI_eq hp hs
    subst em
    exact q _ _ (Xt.upd o nt) (.newL o nt .of_ints)⟩
theorem c_listL {ds : List PyData} : CallD X (.type "list") [.dat (.list ds)] (.dat (.list ds)) :=
  ⟨_, call_list_of, fun ω vs H Q o rr q => by
    obtain ⟨v, rfl, r⟩ := REs.one rr
    obtain ⟨p, xs, rfl, n, e, r⟩ := r.lst
    exact ⟨p, xs, rfl, .inl (SqL.of e), fun t nt => q _ _ (Xt.upd o nt) (.newL o nt r)⟩⟩
theorem c_listT {ds : List PyData} : CallD X (.type "list") [.dat (.tuple ds)] (.dat (.list ds)) :=
  ⟨_, call_list_of, fun ω vs H Q o rr q => by
    obtain ⟨v, rfl, r⟩ := REs.one rr
    obtain ⟨p, xs, rfl, n, e, r⟩ := r.tup
    exact ⟨p, xs, rfl, .inr (SqT.of e), fun t nt => q _ _ (Xt.upd o nt) (.newL o nt r)⟩⟩
theorem c_tupleL {ds : List PyData} : CallD X (.type "tuple") [.dat (.list ds)] (.dat (.tuple ds)) :=
  ⟨_, call_tuple_of, fun ω vs H Q o rr q => by
    obtain ⟨v, rfl, r⟩ := REs.one rr
    obtain ⟨p, xs, rfl, n, e, r⟩ := r.lst
    exact ⟨p, xs, rfl, .inl ⟨SqL.of e, fun t nt => q _ _ (Xt.upd o nt) (.newT o nt r)⟩⟩⟩
theorem c_int {i : Int} : CallD X (.type "int") [I i] (I i) :=
  ⟨_, call_int1, fun ω vs H Q o rr q => by
    obtain ⟨v, rfl, r⟩ := REs.one rr
    exact .inl ⟨i, by rw [r.int], q _ H (.refl o) (.ofInt _)⟩⟩
theorem c_intB {k : Bool} : CallD X (.type "int") [B k] (I (if k then 1 else 0)) :=
  ⟨_, call_int1, fun ω vs H Q o rr q => by
    obtain ⟨v, rfl, r⟩ := REs.one rr
    exact .inr ⟨k, by rw [r.bool], q _ H (.refl o) (.ofInt _)⟩⟩
theorem c_abs {i : Int} : CallD X (.builtin "abs") [I i] (I (if i < 0 then -i else i)) :=
  ⟨_, call_abs, fun ω vs H Q o rr q => by
    obtain ⟨v, rfl, r⟩ := REs.one rr
    exact ⟨i, by rw [r.int], q _ H (.refl o) (.ofInt _)⟩⟩
/-- range(..) as an argument -/
theorem de_listRg {n : Int} {p4 : Pos} (hc : X.calm = true) (hml : X.mg "list" = none) (hmr : X.mg "range" = none) (h : DE X ω ρ a (I n) ω1) (hn : 0 ≤ n ∧ n ≤ 16777216) (hg : Gl X "list" := by rfl) (hg' : Gl X "range" := by rfl)
    (na : starEach [Expr.Call (.Name "range" p3) [a] [] p2] X.env = (false, eval (Expr.Call (.Name "range" p3) [a] [] p2) X.env) :: starEach [] X.env := by rfl) (na' : starEach [a] X.env = (false, eval a X.env) :: starEach [] X.env := by rfl) :
    DE X ω ρ (.Call (.Name "list" p4) [.Call (.Name "range" p3) [a] [] p2] [] pos) (.dat (lstI ((List.range n.toNat).map fun (k : Nat) => (k : Int)))) ω1 :=
  pe_w (pe_listRg hc hg hml (prg_1 hg' hmr h na') na) fun σ H Q ⟨hE, q⟩ => ⟨hE, fun v H1 x1 r1 => ⟨n, r1.int, RgOk.of_le (by omega) (by omega) (by omega) (by omega), fun t nt => by
    have e : rgV 0 n = ((List.range n.toNat).map fun (k : Nat) => (k : Int)).map V.int := by
      unfold rgV
      rw [List.map_map, Int.sub_zero]
      exact List.map_congr_left fun k _ => by show V.int (0 + (k : Int)) = V.int (k : Int); rw [Int.zero_add]
    rw [e]
    exact q _ _ (x1.trans (.upd x1.own nt)) (.newL x1.own nt .of_ints)⟩⟩
theorem de_tupRg {n : Int} {p4 : Pos} (hc : X.calm = true) (hml : X.mg "tuple" = none) (hmr : X.mg "range" = none) (h : DE X ω ρ a (I n) ω1) (hn : 0 ≤ n ∧ n ≤ 16777216) (hg : Gl X "tuple" := by rfl) (hg' : Gl X "range" := by rfl)
    (na : starEach [Expr.Call (.Name "range" p3) [a] [] p2] X.env = (false, eval (Expr.Call (.Name "range" p3) [a] [] p2) X.env) :: starEach [] X.env := by rfl) (na' : starEach [a] X.env = (false, eval a X.env) :: starEach [] X.env := by rfl) :
    DE X ω ρ (.Call (.Name "tuple" p4) [.Call (.Name "range" p3) [a] [] p2] [] pos) (.dat (tupI ((List.range n.toNat).map fun (k : Nat) => (k : Int)))) ω1 :=
  pe_w (pe_tupRg hc hg hml (prg_1 hg' hmr h na') na) fun σ H Q ⟨hE, q⟩ => ⟨hE, fun v H1 x1 r1 => ⟨n, r1.int, RgOk.of_le (by omega) (by omega) (by omega) (by omega), fun t nt => by
    have e : rgV 0 n = ((List.range n.toNat).map fun (k : Nat) => (k : Int)).map V.int := by
      unfold rgV
      rw [List.map_map, Int.sub_zero]
      exact List.map_congr_left fun k _ => by show V.int (0 + (k : Int)) = V.int (k : Int); rw [Int.zero_add]
    rw [e]
    exact q _ _ (x1.trans (.upd x1.own nt)) (.newT x1.own nt .of_ints)⟩⟩
/-! ### isinstance -/
def tyD : PyData → String
  | .none => "NoneType" | .bool _ => "bool" | .int _ => "int" | .str _ => "str" | .list _ => "list" | .tuple _ => "tuple" | .dict _ => "dict"
theorem RE.ty {K : PySem.W.Frag} {O : List Addr} {H : Hp} {d : PyData} {v : V} (r : RE O H (.dat d) v) : TyX K H v (.type (tyD d)) := by
  have r : Rp (hide O H) v d := r
  cases r with
  | non => exact .base .non
  | bl b => exact .base (.bl b)
  | int i => exact .base (.int i)
  | str x => exact .base (.str x)
  | lst e _ => exact .base (.lst (hide_some e).2)
  | tup e _ => exact .base (.tup (hide_some e).2)
theorem c_isi {d : PyData} {T : String} {k : Bool} (hk : kitB (tyD d) T = some k) : CallD X (.builtin "isinstance") [.dat d, .raw (.ty T)] (B k) :=
  ⟨_, call_isi, fun ω vs H Q o rr q => by
    obtain ⟨v, w, rfl, r1, r2⟩ := REs.two rr
    have r2 : w = .ty T := r2
    subst r2
    exact ⟨v, .ty T, _, _, k, rfl, .ty T, r1.ty, kit_ty hk, q _ H (.refl o) (.ofBool _)⟩⟩
theorem de_ty {x : Str} {T : String} (hm : X.mg x = none) (hv : bootBuiltins x = some (.type T)) (hg : Gl X x := by rfl) (hn : x ≠ "__name__" := by decide) (hd : (x == ("__debug__" : Str)) = false := by decide) : DE X ω ρ (.Name x pos) (.raw (.ty T)) ω :=
  de_c (pe_bltn (v := .ty T) hg hm hv rfl hn hd) fun _ _ => rfl
/-- isinstance(x, (T, U)) -/
theorem de_isi2 {x y : Str} {T U : String} {d : PyData} {k l : Bool} {k' : Nat} {pi pt p4 p5 : Pos} (hmi : X.mg "isinstance" = none) (h : DE X ω ρ a (.dat d) ω1) (hm : X.mg x = none) (hv : bootBuiltins x = some (.type T)) (hm' : X.mg y = none) (hv' : bootBuiltins y = some (.type U))
    (hk : kitB (tyD d) T = some k) (hl : kitB (tyD d) U = some l) (hgi : Gl X "isinstance" := by rfl) (hg : Gl X x := by rfl) (hn : x ≠ "__name__" := by decide) (hd : (x == ("__debug__" : Str)) = false := by decide) (hg' : Gl X y := by rfl) (hn' : y ≠ "__name__" := by decide) (hd' : (y == ("__debug__" : Str)) = false := by decide)
    (he1 : starEach [a, Expr.Tuple [.Name x p4, .Name y p5] k' pt] X.env = (false, eval a X.env) :: starEach [Expr.Tuple [.Name x p4, .Name y p5] k' pt] X.env := by rfl)
    (he2 : starEach [Expr.Tuple [.Name x p4, .Name y p5] k' pt] X.env = (false, eval (Expr.Tuple [.Name x p4, .Name y p5] k' pt) X.env) :: starEach [] X.env := by rfl)
    (hpl : (backTo pos (starEach [Expr.Tuple [.Name x p4, .Name y p5] k' pt] X.env)).any (·.1) = false := by rfl) :
    DE X ω ρ (.Call (.Name "isinstance" pi) [a, .Tuple [.Name x p4, .Name y p5] k' pt] [] pos) (B (k || l)) ω1 :=
  pe_w (pe_callB call_isiT hgi hmi boot_isinstance (pa_cons h (pa_cons (pe_tup (pa_cons (pe_bltn (v := .ty T) hg hm hv rfl hn hd) (pa_cons (pe_bltn (v := .ty U) hg' hm' hv' rfl hn' hd') pa_nil))) pa_nil he2) he1) (by decide) (by decide) he1 hpl)
    fun σ H Q ⟨hE, q⟩ => ⟨hE, fun v H1 x1 r1 => by
      refine ⟨by show 2 ≤ sizeLine; decide, fun p np => ?_⟩
      refine ⟨v, p, [.ty T, .ty U], _, [.type T, .type U], k || l, rfl, upd_same, .cons (.ty T) (.cons (.ty U) .nil), (r1.keep (Keep.upd np)).ty, ?_, q _ _ (x1.trans (.upd x1.own np)) (.ofBool _)⟩
      refine kitAny_cons (b := k) (kit_ty hk) (fun e => ?_) (fun e => by rw [e]; rfl)
      subst e
      refine kitAny_cons (b := l) (kit_ty hl) (fun e => by subst e; rfl) (fun e => by rw [e]; rfl)⟩

/-! ### subscripts -/
theorem RpAll.atI {H : Hp} {vs : List V} {ds : List PyData} {i : Int} {d : PyData} (r : RpAll H vs ds) (h : L2.atI ds i = some d) : ∃ v, L2.atI vs i = some v ∧ Rp H v d := by
  unfold L2.atI at h ⊢
  rw [r.length]
  cases hj : ixN ds.length i with
  | none => rw [hj] at h; cases h
  | some j =>
    rw [hj] at h
    exact r.get h
theorem de_ixL {ds : List PyData} {i : Int} {d : PyData} (ha : DE X ω ρ a (.dat (.list ds)) ω1) (hb : DE X ω1 ρ b (I i) ω2) (h : L2.atI ds i = some d) (hs : PlainIx b := by exact fun _ _ => rfl) : DE X ω ρ (.Subscript a b pos) (.dat d) ω2 :=
  pe_w (pe_ix ix_list ha hb hs) fun σ H Q ⟨hE, q⟩ => ⟨hE, fun x H1 x1 r1 => ⟨hE.xt x1, fun y H2 x2 r2 => by
    obtain ⟨p, xs, rfl, n, e, r⟩ := (x2.re r1).lst
    obtain ⟨v, hv, rv⟩ := r.atI h
    exact ⟨p, xs, i, v, rfl, r2.int, SqL.of e, hv, q v H2 (x1.trans x2) rv⟩⟩⟩
theorem de_ixT {ds : List PyData} {i : Int} {d : PyData} (ha : DE X ω ρ a (.dat (.tuple ds)) ω1) (hb : DE X ω1 ρ b (I i) ω2) (h : L2.atI ds i = some d) (hs : PlainIx b := by exact fun _ _ => rfl) : DE X ω ρ (.Subscript a b pos) (.dat d) ω2 :=
  pe_w (pe_ix ix_tup ha hb hs) fun σ H Q ⟨hE, q⟩ => ⟨hE, fun x H1 x1 r1 => ⟨hE.xt x1, fun y H2 x2 r2 => by
    obtain ⟨p, xs, rfl, n, e, r⟩ := (x2.re r1).tup
    obtain ⟨v, hv, rv⟩ := r.atI h
    exact ⟨p, xs, i, v, rfl, r2.int, SqT.of e, hv, q v H2 (x1.trans x2) rv⟩⟩⟩
def cutD (xs : List PyData) (lo hi : Option Int) : List PyData := (xs.drop (HT.sIx xs.length 0 lo)).take (HT.sIx xs.length xs.length hi - HT.sIx xs.length 0 lo)
theorem RpAll.cut {H : Hp} {vs : List V} {ds : List PyData} (r : RpAll H vs ds) (lo hi : Option Int) : RpAll H (cutV vs lo hi) (cutD ds lo hi) := by
  unfold cutV cutD
  rw [r.length]
  exact (r.drop _).take _
def tP (ω : Own) (ρ : Rho) (o : Option Int) (ω' : Own) : L2.St → Hp → (Option Int → Hp → Prop) → Prop := fun σ H Q => EOk ω ρ σ H ∧ ∀ H', Xt ω H ω' H' → Q o H'
abbrev DP (X : Cx) (ω : Own) (ρ : Rho) (x : Option Expr) (o : Option Int) (ω' : Own) : Prop := PO X x (tP ω ρ o ω')
theorem po_w {x : Option Expr} {t t' : L2.St → Hp → (Option Int → Hp → Prop) → Prop} (h : PO X x t) (w : ∀ σ H Q, t' σ H Q → t σ H Q) : PO X x t' := ⟨fun pins s σ H Q I q => h.run pins s σ H Q I (w σ H Q q)⟩
theorem dp_none : DP X ω ρ none none ω := po_w po_none fun σ H Q ⟨hE, q⟩ => q H (.refl hE.own)
theorem dp_some {i : Int} (h : DE X ω ρ a (I i) ω1) : DP X ω ρ (some a) (some i) ω1 := po_w (po_some h) fun σ H Q ⟨hE, q⟩ => ⟨hE, fun v H1 x1 r1 => ⟨i, r1.int, q H1 x1⟩⟩
theorem de_sliceT {ds : List PyData} {lo hi : Option Expr} {l h : Option Int} (ha : DE X ω ρ a (.dat (.tuple ds)) ω) (hl : DP X ω ρ lo l ω) (hh : DP X ω ρ hi h ω) : DE X ω ρ (.Subscript a (.Slice lo hi none p2) pos) (.dat (.tuple (cutD ds l h))) ω :=
  pe_w (pe_slice sl_tupA ha hl hh) fun σ H Q ⟨hE, q⟩ => ⟨hE, fun x H1 x1 r1 => ⟨hE.xt x1, fun H2 x2 => ⟨(hE.xt x1).xt x2, fun H3 x3 => by
    obtain ⟨p, xs, rfl, n, e, r⟩ := (x3.re (x2.re r1)).tup
    have rc := r.cut l h
    refine ⟨p, xs, rfl, SqT.of e, fun z => ?_, fun _ t nt => ?_⟩
    · have e1 : cutD ds l h = ds := by
        unfold cutD
        rw [r.length] at z
        rw [z.1, z.2, List.drop_zero, Nat.sub_zero, List.take_length]
      rw [e1] at q
      refine q _ H3 ((x1.trans x2).trans x3) (Rp.tup (xs := xs) (by rw [hide_out n]; exact e) r)
    · exact q _ _ (((x1.trans x2).trans x3).trans (.upd x3.own nt)) (.newT x3.own nt rc)⟩⟩⟩
theorem de_sliceL {ds : List PyData} {lo hi : Option Expr} {l h : Option Int} (ha : DE X ω ρ a (.dat (.list ds)) ω) (hl : DP X ω ρ lo l ω) (hh : DP X ω ρ hi h ω) : DE X ω ρ (.Subscript a (.Slice lo hi none p2) pos) (.dat (.list (cutD ds l h))) ω :=
  pe_w (pe_slice sl_list ha hl hh) fun σ H Q ⟨hE, q⟩ => ⟨hE, fun x H1 x1 r1 => ⟨hE.xt x1, fun H2 x2 => ⟨(hE.xt x1).xt x2, fun H3 x3 => by
    obtain ⟨p, xs, rfl, n, e, r⟩ := (x3.re (x2.re r1)).lst
    exact ⟨p, xs, rfl, SqL.of e, fun t nt => q _ _ (((x1.trans x2).trans x3).trans (.upd x3.own nt)) (.newL x3.own nt (r.cut l h))⟩⟩⟩⟩
/-! dicts with tuple keys -/
def lookD (kvs : List (List Int × Int)) (g : List Int) : Option Int := (kvs.find? fun p => decide (p.1 = g)).map (·.2)
def putD (kvs : List (List Int × Int)) (g : List Int) (n : Int) : List (List Int × Int) :=
  if (kvs.any fun p => decide (p.1 = g)) = true then kvs.map (fun p => if p.1 = g then (p.1, n) else p) else kvs ++ [(g, n)]
theorem inl_inj {g h : List Int} : (g.map Sum.inl : List Key) = h.map Sum.inl ↔ g = h := by
  constructor
  · intro e
    have := congrArg (List.map fun (k : Key) => match k with | .inl i => i | .inr _ => 0) e
    simpa [List.map_map, Function.comp_def] using this
  · intro e; rw [e]
theorem valV_kvT (g : List Int) : ∀ kvs : List (List Int × Int), valV (kvs.map kvT) (g.map Sum.inl) = (lookD kvs g).map V.int
  | [] => rfl
  | p :: r => by
    have ih := valV_kvT g r
    by_cases h : p.1 = g
    · rw [List.map_cons, valV_pos (p := kvT p) (by show p.1.map Sum.inl = _; rw [h])]
      simp [lookD, List.find?_cons, h, kvT]
    · rw [List.map_cons, valV_neg (p := kvT p) (fun z => h (inl_inj.mp z)), ih]
      simp [lookD, List.find?_cons, h]
theorem putK_kvT (g : List Int) (n : Int) (kvs : List (List Int × Int)) : putK (kvs.map kvT) (g.map Sum.inl) (V.int n) = (putD kvs g n).map kvT := by
  have ea : ((kvs.map kvT).any fun kv => decide (kv.1 = (g.map Sum.inl : List Key))) = kvs.any fun p => decide (p.1 = g) := by
    rw [List.any_map]
    congr 1
    funext p
    show decide ((p.1.map Sum.inl : List Key) = g.map Sum.inl) = decide (p.1 = g)
    rw [decide_eq_decide]; exact inl_inj
  unfold putK putD
  rw [ea]
  by_cases h : (kvs.any fun p => decide (p.1 = g)) = true
  · rw [if_pos h, if_pos h, List.map_map, List.map_map]
    refine List.map_congr_left fun p _ => ?_
    show (if (p.1.map Sum.inl : List Key) = g.map Sum.inl then ((p.1.map Sum.inl : List Key), V.int n) else kvT p) = kvT (if p.1 = g then (p.1, n) else p)
    by_cases e : p.1 = g
    · rw [if_pos (inl_inj.mpr e), if_pos e]; rfl
    · rw [if_neg (fun z => e (inl_inj.mp z)), if_neg e]
  · rw [if_neg h, if_neg h, List.map_append]; rfl
theorem key_tup {O : List Addr} {H : Hp} {g : List Int} {v : V} (r : RE O H (.dat (tupI g)) v) : ∃ p, v = .ref p ∧ p ∉ O ∧ H p = some (.tup ((g.map Sum.inl : List Key).map kV)) := by
  obtain ⟨p, xs, rfl, n, e, r⟩ := r.tup
  have ex := r.ints
  subst ex
  refine ⟨p, rfl, n, ?_⟩
  rw [e, List.map_map]
  rfl
theorem de_dget (hu : X.A.units + 1 < cLine) {kvs : List (List Int × Int)} {g : List Int} {n : Int} (ha : DE X ω ρ a (.dct kvs) ω1) (hb : DE X ω1 ρ b (.dat (tupI g)) ω2) (h : lookD kvs g = some n) (hs : NoSl b := by exact fun _ _ => rfl) : DE X ω ρ (.Subscript a b pos) (I n) ω2 :=
  pe_w (pe_dget hu ha hb hs) fun σ H Q ⟨hE, q⟩ => ⟨hE, fun x H1 x1 r1 => ⟨hE.xt x1, fun y H2 x2 r2 => by
    obtain ⟨d, rfl, nd, rd⟩ := x2.re r1
    obtain ⟨p, rfl, np, ep⟩ := key_tup r2
    refine ⟨d, .int n, rfl, .inr ⟨kvs.map kvT, g.map Sum.inl, p, rd, rfl, ep, ?_⟩, q _ H2 (x1.trans x2) (.ofInt _)⟩
    rw [valV_kvT, h]; rfl⟩⟩
theorem own_dct {ω : Own} {H : Hp} (o : OwnOk ω H) {d : Addr} {kvs : List (List Int × Int)} (h : (d, OC.dct kvs) ∈ ω) : H d = some (HO.dT (kvs.map kvT)) := o.at_ _ h
theorem de_dgetO (hu : X.A.units + 1 < cLine) {kvs : List (List Int × Int)} {g : List Int} {n : Int} {d : Addr} (ha : DE X ω ρ a (.own d) ω1) (hb : DE X ω1 ρ b (.dat (tupI g)) ω2) (hd : (d, OC.dct kvs) ∈ ω2) (h : lookD kvs g = some n) (hs : NoSl b := by exact fun _ _ => rfl) : DE X ω ρ (.Subscript a b pos) (I n) ω2 :=
  pe_w (pe_dget hu ha hb hs) fun σ H Q ⟨hE, q⟩ => ⟨hE, fun x H1 x1 r1 => ⟨hE.xt x1, fun y H2 x2 r2 => by
    have r1 : x = .ref d := r1
    subst r1
    obtain ⟨p, rfl, np, ep⟩ := key_tup r2
    refine ⟨d, .int n, rfl, .inr ⟨kvs.map kvT, g.map Sum.inl, p, .inl (own_dct x2.own hd), rfl, ep, ?_⟩, q _ H2 (x1.trans x2) (.ofInt _)⟩
    rw [valV_kvT, h]; rfl⟩⟩
end
end DL

set_option Elab.async false
set_option linter.all false
set_option maxRecDepth 100000
set_option maxHeartbeats 1000000
namespace DL
open PySem PySem.Spec PyProof.Rows L2

/-! ### targets -/
/-- e is stored by g: the slots in S alone change -/
structure Bnd (K : PySem.W.Frag) (g : TG) (S : List Nat) (e : Ent) (ρ ρ' : Rho) : Prop where
  go : ∀ (ω : Own) (v : V) (σ : L2.St) (H : Hp) (Q : L2.St → Hp → Prop), EOk ω ρ σ H → RE (dom ω) H e v →
    (∀ σ', EOk ω ρ' σ' H → (∀ i, i ∉ S → σ'[i]? = σ[i]?) → σ'.length = σ.length → Q σ' H) → g v σ H Q
theorem EOk.set {ω : Own} {ρ : Rho} {σ : L2.St} {H : Hp} (E : EOk ω ρ σ H) {i : Nat} {e : Ent} {v : V} (r : RE (dom ω) H e v) : EOk ω (ρ.set i (some e)) (σ.set i (some v)) H := by
  refine ⟨E.own, by rw [List.length_set, List.length_set]; exact E.len, fun j f h => ?_⟩
  by_cases hj : i = j
  · subst hj
    by_cases hi : i < ρ.length
    · rw [List.getElem?_set_self hi] at h
      cases h
      exact ⟨v, List.getElem?_set_self (by rw [E.len]; exact hi), r⟩
    · rw [List.getElem?_eq_none (by rw [List.length_set]; omega)] at h; cases h
  · rw [List.getElem?_set_ne hj] at h ⊢
    exact E.val j f h
theorem bnd_name {K : PySem.W.Frag} {i : Nat} {e : Ent} {ρ : Rho} : Bnd K (gName i) [i] e ρ (ρ.set i (some e)) :=
  ⟨fun ω v σ H Q E r q => q _ (E.set r) (fun j hj => List.getElem?_set_ne fun z => hj (by simp [z])) (by rw [List.length_set])⟩
theorem bnd_pair {K : PySem.W.Frag} {i j : Nat} {d e : PyData} {ρ : Rho} : Bnd K (gTup K 2 (gCons (gName i) (gCons (gName j) gNil))) [i, j] (.dat (.tuple [d, e])) ρ ((ρ.set i (some (.dat d))).set j (some (.dat e))) :=
  ⟨fun ω v σ H Q E r q => by
    obtain ⟨p, xs, rfl, n, ee, r⟩ := r.tup
    cases r with
    | cons r1 rr =>
      cases rr with
      | cons r2 rr =>
        cases rr
        refine ⟨p, _, rfl, SqT.of ee, rfl, _, _, rfl, _, _, rfl, rfl, ?_⟩
        refine q _ ((E.set (e := .dat d) r1).set (e := .dat e) r2) (fun k hk => ?_) (by rw [List.length_set, List.length_set])
        rw [List.getElem?_set_ne fun z => hk (by simp [z]), List.getElem?_set_ne fun z => hk (by simp [z])]⟩

/-! ### walks -/
def Quiet (O : List Addr) (H H' : Hp) : Prop := Keep O H H' ∧ ∀ a ∈ O, H' a = H a
structure WalkD (O : List Addr) (H0 : Hp) (J : It) (xs : List Ent) : Prop where
  w : ∀ O' : List Addr, (∀ a ∈ O, a ∈ O') → (∀ a ∈ O', a ∉ O → H0 a = none) → Walk J xs.length (fun H => Keep O' H0 H ∧ ∀ a ∈ O', H a ≠ none) (fun i H x H' => ∃ e, xs[i]? = some e ∧ Quiet O' H H' ∧ RE O' H' e x)
theorem hide_grow {O O' : List Addr} {H0 H : Hp} (f : ∀ a ∈ O', a ∉ O → H0 a = none) (k : Keep O' H0 H) : Same (hide O H0) (hide O' H) := fun b o h => by
  obtain ⟨h1, h2⟩ := hide_some h
  have nb : b ∉ O' := fun z => by rw [f b z h1] at h2; cases h2
  rw [hide_out nb]; exact k b o nb h2
theorem out_grow {O O' : List Addr} {H0 : Hp} (f : ∀ a ∈ O', a ∉ O → H0 a = none) {a : Addr} {o : HO} (n : a ∉ O) (e : H0 a = some o) : a ∉ O' := fun z => by rw [f a z n] at e; cases e
def iD (ω : Own) (ρ : Rho) (xs : List Ent) (ω' : Own) : TI := fun σ H R => EOk ω ρ σ H ∧ ∀ J H', Xt ω H ω' H' → WalkD (dom ω') H' J xs → R J H'
abbrev DI (X : Cx) (tg : Expr) (ω : Own) (ρ : Rho) (x : Expr) (xs : List Ent) (ω' : Own) : Prop := PI X tg x (iD ω ρ xs ω')
theorem pi_w {X : Cx} {tg x : Expr} {t t' : TI} (h : PI X tg x t) (w : ∀ σ H Q, t' σ H Q → t σ H Q) : PI X tg x t' := ⟨fun pins s σ H Q I q => h.run pins s σ H Q I (w σ H Q q)⟩
section
variable {X : Cx} {tg a b : Expr} {ω ω1 ω2 : Own} {ρ ρ' : Rho} {pos p2 : Pos}
theorem RpAll.toGet {H : Hp} {vs : List V} {ds : List PyData} (r : RpAll H vs ds) {i : Nat} {v : V} (h : vs[i]? = some v) : ∃ d, ds[i]? = some d ∧ Rp H v d := by
  have hi : i < ds.length := by
    have := r.length
    obtain ⟨h1, _⟩ := List.getElem?_eq_some_iff.mp h
    omega
  obtain ⟨w, h1, h2⟩ := r.get (List.getElem?_eq_getElem hi)
  rw [h] at h1; cases h1
  exact ⟨_, List.getElem?_eq_getElem hi, h2⟩
theorem di_list {ds : List PyData} (h : DE X ω ρ a (.dat (.list ds)) ω1) : DI X tg ω ρ a (ds.map Ent.dat) ω1 :=
  pi_w (pi_list h) fun σ H R ⟨hE, q⟩ => ⟨hE, fun v H1 x1 r1 => by
    obtain ⟨p, xs, rfl, n, e, r⟩ := r1.lst
    refine ⟨p, rfl, ⟨xs, SqL.of e⟩, q _ H1 x1 ⟨fun O' hs' hf' => ?_⟩⟩
    rw [List.length_map, ← r.length]
    refine (walk_list (K := X.K) (a := p) (xs := xs)).mono (fun H hg => SqL.of (hg.1 _ _ (out_grow hf' n e) e)) fun i H x H' hi hg y => ?_
    obtain ⟨rfl, hx⟩ := y
    obtain ⟨d, hd, rd⟩ := r.toGet hx
    exact ⟨.dat d, by rw [List.getElem?_map, hd]; rfl, ⟨.refl, fun _ _ => rfl⟩, Rp.mono (hide_grow hf' hg.1) _ _ rd⟩⟩
theorem di_tup {ds : List PyData} (h : DE X ω ρ a (.dat (.tuple ds)) ω1) : DI X tg ω ρ a (ds.map Ent.dat) ω1 :=
  pi_w (pi_tup h) fun σ H R ⟨hE, q⟩ => ⟨hE, fun v H1 x1 r1 => by
    obtain ⟨p, xs, rfl, n, e, r⟩ := r1.tup
    refine ⟨p, rfl, ⟨xs, SqT.of e⟩, q _ H1 x1 ⟨fun O' hs' hf' => ?_⟩⟩
    rw [List.length_map, ← r.length]
    refine (walk_tup (K := X.K) (a := p) (xs := xs)).mono (fun H hg => SqT.of (hg.1 _ _ (out_grow hf' n e) e)) fun i H x H' hi hg y => ?_
    obtain ⟨rfl, hx⟩ := y
    obtain ⟨d, hd, rd⟩ := r.toGet hx
    exact ⟨.dat d, by rw [List.getElem?_map, hd]; rfl, ⟨.refl, fun _ _ => rfl⟩, Rp.mono (hide_grow hf' hg.1) _ _ rd⟩⟩
def rgI (lo : Int) (n : Nat) : List Int := (List.range n).map fun (k : Nat) => lo + (k : Int)
theorem di_range1 {n : Int} (hm : X.mg "range" = none) (h : DE X ω ρ a (I n) ω1) (hn : -(2 ^ 62) ≤ n ∧ n < 2 ^ 62) (hg : Gl X "range" := by rfl) (hs : starEach [a] X.env = [(false, eval a X.env)] := by rfl) (na : starEach [a] X.env = (false, eval a X.env) :: starEach [] X.env := by rfl) :
    DI X tg ω ρ (.Call (.Name "range" p2) [a] [] pos) ((rgI 0 n.toNat).map I) ω1 :=
  pi_w (pi_range1 hg hm (pa_cons h pa_nil na) hs) fun σ H R ⟨hE, q⟩ => ⟨hE, fun v H1 x1 r1 => by
    refine ⟨n, by rw [r1.int], hn.1, hn.2, q _ H1 x1 ⟨fun O' hs' hf' => ?_⟩⟩
    rw [List.length_map, rgI, List.length_map, List.length_range]
    refine (walk_range (lo := 0) (n := n.toNat)).mono (fun _ _ => trivial) fun i H x H' hi hg y => ?_
    obtain ⟨rfl, rfl⟩ := y
    refine ⟨I (0 + (i : Int)), ?_, ⟨.refl, fun _ _ => rfl⟩, .ofInt _⟩
    rw [List.map_map, List.getElem?_map, List.getElem?_range hi]; rfl⟩
theorem di_range2 {m n : Int} (hm : X.mg "range" = none) (h : DE X ω ρ a (I m) ω1) (h2 : DE X ω1 ρ b (I n) ω2) (hn : -(2 ^ 62) ≤ m ∧ m < 2 ^ 62 ∧ -(2 ^ 62) ≤ n ∧ n < 2 ^ 62) (hg : Gl X "range" := by rfl) (hs : starEach [a, b] X.env = [(false, eval a X.env), (false, eval b X.env)] := by rfl)
    (hs2 : starEach [b] X.env = [(false, eval b X.env)] := by rfl) (na : starEach [a, b] X.env = (false, eval a X.env) :: starEach [b] X.env := by rfl) (na2 : starEach [b] X.env = (false, eval b X.env) :: starEach [] X.env := by rfl) :
    DI X tg ω ρ (.Call (.Name "range" p2) [a, b] [] pos) ((rgI m (n - m).toNat).map I) ω2 :=
  pi_w (pi_range2 hg hm (pa_cons h (pa_cons h2 pa_nil na2) na) hs hs2) fun σ H R ⟨hE, q⟩ => ⟨hE, fun v H1 x1 r1 => ⟨hE.xt x1, fun w H2 x2 r2 => by
    refine ⟨m, n, by rw [r1.int, r2.int], hn, q _ H2 (x1.trans x2) ⟨fun O' hs' hf' => ?_⟩⟩
    rw [List.length_map, rgI, List.length_map, List.length_range]
    refine (walk_range (lo := m) (n := (n - m).toNat)).mono (fun _ _ => trivial) fun i H x H' hi hg y => ?_
    obtain ⟨rfl, rfl⟩ := y
    refine ⟨I (m + (i : Int)), ?_, ⟨.refl, fun _ _ => rfl⟩, .ofInt _⟩
    rw [List.map_map, List.getElem?_map, List.getElem?_range hi]; rfl⟩⟩
end

/-! ### statements -/
section
variable {X : Cx} {tg a b c : Expr} {ω ω1 ω2 : Own} {ρ ρ1 ρ2 ρ' : Rho} {pos p2 : Pos} {e e1 e2 : Ent} {s : Stmt} {ss body els : List Stmt}
theorem Xt.weak {ω ω' : Own} {H H' : Hp} (x : Xt ω H ω' H') : Keep (dom ω) H H' ∧ OwnOk ω' H' := ⟨x.keep, x.own⟩
theorem dr_ret (h : DE X ω ρ a e ω1) : DR X ω ρ [.Return (some a) pos] e ω1 :=
  pss_w (pss_one (ps_ret h)) fun D σ H ⟨hE, q⟩ => ⟨hE, fun v H1 x1 r1 => q v H1 x1.keep x1.own r1⟩
theorem dr_cons (h : DN X ω ρ s ω1 ρ1) (h2 : DR X ω1 ρ1 ss e ω2) : DR X ω ρ (s :: ss) e ω2 :=
  pss_w (pss_cons h h2) fun D σ H ⟨hE, q⟩ => ⟨hE, fun σ' H1 x1 E1 => ⟨E1, fun v H2 k2 o2 r2 => q v H2 (x1.keep.trans (by rw [x1.dm] at k2; exact k2)) o2 r2⟩⟩
theorem dns_nil : DNs X ω ρ [] ω ρ := pss_w pss_nil fun D σ H ⟨hE, q⟩ => q σ H (.refl hE.own) hE
theorem dns_cons (h : DN X ω ρ s ω1 ρ1) (h2 : DNs X ω1 ρ1 ss ω2 ρ2) : DNs X ω ρ (s :: ss) ω2 ρ2 :=
  pss_w (pss_cons h h2) fun D σ H ⟨hE, q⟩ => ⟨hE, fun σ' H1 x1 E1 => ⟨E1, fun σ2 H2 x2 E2 => q σ2 H2 (x1.trans x2) E2⟩⟩
theorem dns_one (h : DN X ω ρ s ω1 ρ1) : DNs X ω ρ [s] ω1 ρ1 := pss_one h
/-- forgetting -/
def Le (ρ' ρ : Rho) : Prop := ρ'.length = ρ.length ∧ ∀ (i : Nat) (e : Ent), ρ'[i]? = some (some e) → ρ[i]? = some (some e)
theorem Le.refl : Le ρ ρ := ⟨rfl, fun _ _ h => h⟩
theorem EOk.le {σ : L2.St} {H : Hp} (E : EOk ω ρ σ H) (l : Le ρ' ρ) : EOk ω ρ' σ H := ⟨E.own, E.len.trans l.1.symm, fun i e h => E.val i e (l.2 i e h)⟩
inductive LeL : Rho → Rho → Prop
  | nil : LeL [] []
  | same {x : Option Ent} {xs ys : Rho} : LeL xs ys → LeL (x :: xs) (x :: ys)
  | drop {x : Option Ent} {xs ys : Rho} : LeL xs ys → LeL (none :: xs) (x :: ys)
theorem LeL.le : ∀ {xs ys : Rho}, LeL xs ys → Le xs ys
  | _, _, .nil => ⟨rfl, fun _ _ h => h⟩
  | _, _, .same t => ⟨by rw [List.length_cons, List.length_cons, (LeL.le t).1], fun i e h => by
    cases i with
    | zero => exact h
    | succ i => exact (LeL.le t).2 i e h⟩
  | _, _, .drop t => ⟨by rw [List.length_cons, List.length_cons, (LeL.le t).1], fun i e h => by
    cases i with
    | zero => cases h
    | succ i => exact (LeL.le t).2 i e h⟩
theorem dns_le (h : DNs X ω ρ ss ω1 ρ1) (l : Le ρ2 ρ1) : DNs X ω ρ ss ω1 ρ2 := pss_w h fun D σ H ⟨hE, q⟩ => ⟨hE, fun σ' H1 x1 E1 => q σ' H1 x1 (E1.le l)⟩
theorem dn_le (h : DN X ω ρ s ω1 ρ1) (l : Le ρ2 ρ1) : DN X ω ρ s ω1 ρ2 := ps_w h fun D σ H ⟨hE, q⟩ => ⟨hE, fun σ' H1 x1 E1 => q σ' H1 x1 (E1.le l)⟩
theorem dr_le (h : DR X ω ρ' ss e ω1) (l : Le ρ' ρ) : DR X ω ρ ss e ω1 := pss_w h fun D σ H ⟨hE, q⟩ => ⟨hE.le l, q⟩
theorem dns_pre (h : DNs X ω ρ' ss ω1 ρ1) (l : Le ρ' ρ) : DNs X ω ρ ss ω1 ρ1 := pss_w h fun D σ H ⟨hE, q⟩ => ⟨hE.le l, q⟩
theorem de_pre (h : DE X ω ρ' a e ω1) (l : Le ρ' ρ) : DE X ω ρ a e ω1 := pe_w h fun σ H Q ⟨hE, q⟩ => ⟨hE.le l, q⟩
/-- x = e -/
theorem dn_set (i : Nat) {x : Str} (hN : X.N.Nodup) (h : DE X ω ρ a e ω1) (hi : X.N[i]? = some x := by rfl) (hx : Loc X.env.scope x := by first | exact Or.inl rfl | exact Or.inr rfl) (hs : swapsWith a (some (.Name x p2)) pos.line X.env = pure false := by rfl)
    (hf : X.fn x = true ∨ X.env.scope.names.lookup x = some .local := by first | exact .inl rfl | exact .inr rfl | assumption) : DN X ω ρ (.Assign [.Name x p2] a pos) ω1 (ρ.set i (some e)) :=
  ps_w (ps_set hN hi hx h hs hf) fun D σ H ⟨hE, q⟩ => ⟨hE, fun v H1 x1 r1 => q _ H1 x1 ((hE.xt x1).set r1)⟩
/-- a, b = x, y by the pair (a name is a cell) -/
theorem dn_asg2 (i j : Nat) {x y : Str} {k k' : Nat} {px py pt pv' : Pos} (hc : X.calm = true) (hN : X.N.Nodup) (h : DA X ω ρ [a, b] [e1, e2] ω1) (hi : X.N[i]? = some x := by rfl) (hj : X.N[j]? = some y := by rfl)
    (hx : Loc X.env.scope x := by first | exact Or.inl rfl | exact Or.inr rfl) (hy : Loc X.env.scope y := by first | exact Or.inl rfl | exact Or.inr rfl)
    (hs : swapsWithSole [Expr.Tuple [.Name x px, .Name y py] k pt] (.Tuple [a, b] k' pv') pos.line X.env = pure false := by rfl) (hw : swappedStores [Expr.Tuple [.Name x px, .Name y py] k pt] (.Tuple [a, b] k' pv') X.env = pure none := by rfl)
    (h1 : (assignEach [Expr.Tuple [.Name x px, .Name y py] k pt] X.env).map (·.2) = [assign (Expr.Tuple [.Name x px, .Name y py] k pt) X.env] := by rfl)
    (hf : X.fn x = true ∨ X.env.scope.names.lookup x = some .local := by first | exact .inl rfl | exact .inr rfl | assumption) (hf' : X.fn y = true ∨ X.env.scope.names.lookup y = some .local := by first | exact .inl rfl | exact .inr rfl | assumption)
    (hn : (assignEach [Expr.Name x px, .Name y py] X.env).length = 2 := by rfl) (hst : (assignEach [Expr.Name x px, .Name y py] X.env).findIdx? (·.1) = none := by rfl)
    (ha1 : (assignEach [Expr.Name x px, .Name y py] X.env).map (·.2) = assign (.Name x px) X.env :: (assignEach [Expr.Name y py] X.env).map (·.2) := by rfl) (ha2 : (assignEach [Expr.Name y py] X.env).map (·.2) = assign (.Name y py) X.env :: (assignEach [] X.env).map (·.2) := by rfl) :
    DN X ω ρ (.Assign [.Tuple [.Name x px, .Name y py] k pt] (.Tuple [a, b] k' pv') pos) ω1 ((ρ.set i (some e1)).set j (some e2)) :=
  ps_w (ps_asg (pe_tup h) (pg_tup hc (pgs_cons (pg_name hN hi hx hf) (pgs_cons (pg_name hN hj hy hf') pgs_nil ha2) ha1) hn hst) hs hw h1) fun D σ H ⟨hE, q⟩ => ⟨hE, fun vs H1 x1 r1 => by
    obtain ⟨v, w, rfl, r1, r2⟩ := REs.two r1
    refine ⟨by show 2 ≤ sizeLine; decide, fun p np => ⟨p, _, rfl, SqT.of upd_same, rfl, _, _, rfl, _, _, rfl, rfl, ?_⟩⟩
    have x2 : Xt ω H ω1 (upd H1 p (.tup [v, w])) := x1.trans (.upd x1.own np)
    exact q _ _ x2 (((hE.xt x2).set (r1.keep (Keep.upd np))).set (r2.keep (Keep.upd np)))⟩
/-- a, b = x, y with plain locals -/
theorem dn_par (i j : Nat) {x y : Str} {k k' : Nat} {px py pt pv' : Pos} (hc : X.calm = true) (hN : X.N.Nodup) (h : DA X ω ρ [a, b] [e1, e2] ω1) (hi : X.N[i]? = some x := by rfl) (hj : X.N[j]? = some y := by rfl) (hij : i ≠ j := by decide)
    (hx : X.env.scope.names.lookup x = some .local := by rfl) (hy : X.env.scope.names.lookup y = some .local := by rfl)
    (hw : swappedStores [.Tuple [.Name x px, .Name y py] k pt] (.Tuple [a, b] k' pv') X.env = pure (some [x, y]) := by rfl)
    (hs : swapsWithSole [.Tuple [.Name x px, .Name y py] k pt] (.Tuple [a, b] k' pv') pos.line X.env = pure false := by rfl) :
    DN X ω ρ (.Assign [.Tuple [.Name x px, .Name y py] k pt] (.Tuple [a, b] k' pv') pos) ω1 ((ρ.set i (some e1)).set j (some e2)) :=
  ps_w (ps_par hc hN hi hj hij hx hy h hw hs) fun D σ H ⟨hE, q⟩ => ⟨hE, fun vs H1 x1 r1 => by
    obtain ⟨v, w, rfl, r1, r2⟩ := REs.two r1
    exact ⟨v, w, rfl, q _ H1 x1 (((hE.xt x1).set r1).set r2)⟩⟩
theorem dn_expr (h : DE X ω ρ a e ω1) (hs : swapsWith a none pos.line X.env = pure false := by rfl) : DN X ω ρ (.Expr a pos) ω1 ρ :=
  ps_w (ps_expr h hs) fun D σ H ⟨hE, q⟩ => ⟨hE, fun v H1 x1 r1 => q _ H1 x1 (hE.xt x1)⟩
/-- ifs -/
theorem dn_if {k : Bool} (h : DT X ω ρ c k ω1) (h1 : k = true → DNs X ω1 ρ body ω2 ρ2) (h2 : k = false → DNs X ω1 ρ els ω2 ρ2) : DN X ω ρ (.If c body els pos) ω2 ρ2 := by
  cases k with
  | true => exact ps_w (ps_if h (h1 rfl) pss_never) fun D σ H ⟨hE, q⟩ => ⟨hE, fun H1 x1 => iteT ⟨hE.xt x1, fun σ2 H2 x2 E2 => q σ2 H2 (x1.trans x2) E2⟩⟩
  | false => exact ps_w (ps_if h pss_never (h2 rfl)) fun D σ H ⟨hE, q⟩ => ⟨hE, fun H1 x1 => iteF ⟨hE.xt x1, fun σ2 H2 x2 E2 => q σ2 H2 (x1.trans x2) E2⟩⟩
theorem dn_ifF (h : DT X ω ρ c false ω1) : DN X ω ρ (.If c body [] pos) ω1 ρ := dn_if h (fun z => nomatch z) fun _ => dns_nil
theorem dn_ifT (h : DT X ω ρ c true ω1) (h1 : DNs X ω1 ρ body ω2 ρ2) : DN X ω ρ (.If c body els pos) ω2 ρ2 := dn_if h (fun _ => h1) fun z => nomatch z
theorem dr_ifT (h : DT X ω ρ c true ω1) (h1 : DR X ω1 ρ body e ω2) : DR X ω ρ (.If c body els pos :: ss) e ω2 :=
  pss_w (pss_cons (ps_if h h1 pss_never) pss_never) fun D σ H ⟨hE, q⟩ => ⟨hE, fun H1 x1 => iteT ⟨hE.xt x1, fun v H2 k2 o2 r2 => q v H2 (x1.keep.trans (by rw [x1.dm] at k2; exact k2)) o2 r2⟩⟩
theorem dr_ifF (h : DT X ω ρ c false ω1) (h2 : DR X ω1 ρ ss e ω2) : DR X ω ρ (.If c body [] pos :: ss) e ω2 := dr_cons (dn_ifF h) h2
/-- for -/
def tFB (X : Cx) (g : TG) (S : List Nat) (xs : List Ent) (Ω : Nat → Own) (P : Nat → Rho) (body : List Stmt) : TS := fun D σ H => ∃ p : Nat × Ent × Rho, (xs[p.1]? = some p.2.1 ∧ Bnd X.K g S p.2.1 (P p.1) p.2.2 ∧ DNs X (Ω p.1) p.2.2 body (Ω (p.1 + 1)) (P (p.1 + 1))) ∧ tN (Ω p.1) p.2.2 (Ω (p.1 + 1)) (P (p.1 + 1)) D σ H
theorem dn_for {g : TG} {S : List Nat} {xs : List Ent} (hp : PassesOwn (model X.prog X.w) X.A X.env X.xe) (hc : X.calm = true) (hi : DI X tg ω ρ a xs ω1) (Ω : Nat → Own) (P : Nat → Rho) (h0 : Ω 0 = ω1) (h1 : P 0 = ρ) (hg : PG X tg g)
    (hb : ∀ (k : Nat) (x : Ent), xs[k]? = some x → ∃ ρb, Bnd X.K g S x (P k) ρb ∧ DNs X (Ω k) ρb body (Ω (k + 1)) (P (k + 1))) (hs : ∀ x, foldedSetIterable a X.env x = pure x := by intro _; rfl) :
    DN X ω ρ (.For tg a body [] pos) (Ω xs.length) (P xs.length) := by
  have hbody : PSs X body (tFB X g S xs Ω P body) :=
    pss_ex (p := fun p : Nat × Ent × Rho => xs[p.1]? = some p.2.1 ∧ Bnd X.K g S p.2.1 (P p.1) p.2.2 ∧ DNs X (Ω p.1) p.2.2 body (Ω (p.1 + 1)) (P (p.1 + 1))) (t := fun p => tN (Ω p.1) p.2.2 (Ω (p.1 + 1)) (P (p.1 + 1))) fun p hp => hp.2.2
  refine ps_w (ps_for hp hc hi hg hbody hs) fun D σ H ⟨hE, q⟩ => ⟨hE, fun J H1 x1 wk => ?_⟩
  have E1 : EOk (Ω 0) (P 0) σ H1 := by rw [h0, h1]; exact hE.xt x1
  refine for_it (g := g) (tb := tFB X g S xs Ω P body) (wk.w (dom ω1) (fun _ h => h) fun _ h n => absurd h n) (fun i σ2 H2 => Xt ω1 H1 (Ω i) H2 ∧ EOk (Ω i) (P i) σ2 H2) ⟨by rw [h0]; exact .refl x1.own, E1⟩ (fun i σ2 H2 _ hv => ⟨hv.1.keep, fun a ha z => ?_⟩) (fun i x σ2 H2 H3 hi' hv y => ?_) (fun σ2 H2 hv => q σ2 H2 (x1.trans hv.1) hv.2)
  · rw [← hv.1.dm] at ha
    obtain ⟨o, eo⟩ := hv.1.own.some ha
    rw [z] at eo; cases eo
  · obtain ⟨en, he, hq, hr⟩ := y
    obtain ⟨ρb, bn, hd⟩ := hb i en he
    have x3 : Xt (Ω i) H2 (Ω i) H3 := by
      refine ⟨rfl, ?_, ?_⟩
      · refine hv.2.own.keep ?_ ?_
        · rw [hv.1.dm]; exact hq.1
        · rw [hv.1.dm]; exact hq.2
      · rw [hv.1.dm]; exact hq.1
    refine bn.go (Ω i) x σ2 H3 _ (hv.2.xt x3) (by rw [hv.1.dm]; exact hr) fun σ3 E3 _ _ => ?_
    exact ⟨⟨i, en, ρb⟩, ⟨he, bn, hd⟩, E3, fun σ4 H4 x4 E4 => ⟨hv.1.trans (x3.trans x4), E4⟩⟩
end
end DL

set_option Elab.async false
set_option linter.all false
set_option maxRecDepth 100000
set_option maxHeartbeats 1000000
namespace DL
open PySem PySem.Spec PyProof.Rows L2

theorem hide_upd_in {O : List Addr} {H : Hp} {a : Addr} {o : HO} (h : a ∈ O) : hide O (upd H a o) = hide O H := by
  funext b
  by_cases hb : b ∈ O
  · rw [hide_in hb, hide_in hb]
  · rw [hide_out hb, hide_out hb, upd_ne fun z => hb (by rw [z]; exact h)]
theorem RE.updIn {O : List Addr} {H : Hp} {a : Addr} {o : HO} (h : a ∈ O) {e : Ent} {v : V} (r : RE O H e v) : RE O (upd H a o) e v := by
  cases e with
  | dat d =>
    have r : Rp (hide O H) v d := r
    show Rp (hide O (upd H a o)) v d
    rw [hide_upd_in h]; exact r
  | dct kvs =>
    obtain ⟨b, e, n, q⟩ := r
    have nb : b ≠ a := fun z => n (by rw [z]; exact h)
    refine ⟨b, e, n, ?_⟩
    rcases q with q | ⟨u, q⟩
    · exact .inl (by rw [upd_ne nb]; exact q)
    · exact .inr ⟨u, by rw [upd_ne nb]; exact q⟩
  | dctA b kvs =>
    obtain ⟨e, n, u, q⟩ := r
    exact ⟨e, n, u, by rw [upd_ne fun z => n (by rw [z]; exact h)]; exact q⟩
  | raw a => exact r
theorem HC.updIn {O : List Addr} {H : Hp} {a b : Addr} {o : HO} (h : a ∈ O) (nb : b ≠ a) {c : OC} (r : HC O H b c) : HC O (upd H a o) b c := by
  cases c with
  | lst ds =>
    obtain ⟨xs, e, r⟩ := r
    exact ⟨xs, by rw [upd_ne nb]; exact e, by rw [hide_upd_in h]; exact r⟩
  | dct kvs => show upd H a o b = _; rw [upd_ne nb]; exact r
  | row KK scr ns k s rr =>
    obtain ⟨e, q, l⟩ := r
    exact ⟨by rw [upd_ne nb]; exact e, q.to fun n r => ⟨n, rd_at r fun o y => by rw [upd_ne fun z => n (by rw [z]; exact h)]; exact y⟩, l⟩
  | obj C dx fs => obtain ⟨vs, e, r⟩ := r; exact ⟨vs, by rw [upd_ne nb]; exact e, r.map fun _ _ q => q.updIn h⟩
  | dk kvs => show upd H a o b = _; rw [upd_ne nb]; exact r
/-- the content of one owned object is changed -/
theorem OwnOk.put {ωa ωb : Own} {p : Addr} {c c' : OC} {H : Hp} {o : HO} (h : OwnOk (ωa ++ (p, c) :: ωb) H) (hc : HC (dom (ωa ++ (p, c) :: ωb)) (L2.upd H p o) p c') : OwnOk (ωa ++ (p, c') :: ωb) (L2.upd H p o) := by
  have ed : dom (ωa ++ (p, c') :: ωb) = dom (ωa ++ (p, c) :: ωb) := by simp [dom]
  have hp : p ∈ dom (ωa ++ (p, c) :: ωb) := by simp [dom]
  refine ⟨by rw [ed]; exact h.nd, fun q hq => ?_⟩
  rw [ed]
  have nd := h.nd
  rcases List.mem_append.mp hq with hq | hq
  · have nq : q.1 ≠ p := fun z => by
      have h1 := List.nodup_append.mp (show (ωa.map (·.1) ++ ((p, c) :: ωb).map (·.1)).Nodup from by rw [← List.map_append]; exact nd)
      exact h1.2.2 q.1 (List.mem_map.mpr ⟨q, hq, rfl⟩) p (by simp) z
    exact (h.at_ q (List.mem_append_left _ hq)).updIn hp nq
  · rcases List.mem_cons.mp hq with e | hq
    · subst e; exact hc
    · have nq : q.1 ≠ p := fun z => by
        have h1 := List.nodup_append.mp (show (ωa.map (·.1) ++ ((p, c) :: ωb).map (·.1)).Nodup from by rw [← List.map_append]; exact nd)
        have h2 := List.nodup_cons.mp (show (p :: ωb.map (·.1)).Nodup from h1.2.1)
        exact h2.1 (by rw [← z]; exact List.mem_map.mpr ⟨q, hq, rfl⟩)
      exact (h.at_ q (List.mem_append_right _ (List.mem_cons_of_mem _ hq))).updIn hp nq
theorem HC.sub {O O' : List Addr} {H : Hp} (s : ∀ a ∈ O, a ∈ O') {b : Addr} {c : OC} (r : HC O' H b c) : HC O H b c := by
  cases c with
  | lst ds => obtain ⟨xs, e, r⟩ := r; exact ⟨xs, e, RpAll.mono (hide_sub s) _ _ r⟩
  | dct kvs => exact r
  | row KK scr ns k s' rr => obtain ⟨e, q, l⟩ := r; exact ⟨e, q.to fun n r => ⟨fun z => n (s _ z), r⟩, l⟩
  | obj C dx fs => obtain ⟨vs, e, r⟩ := r; exact ⟨vs, e, r.map fun _ _ q => q.sub s⟩
  | dk kvs => exact r
theorem OwnOk.pre {ω ωd : Own} {H : Hp} (h : OwnOk (ω ++ ωd) H) : OwnOk ω H :=
  ⟨(List.nodup_append.mp (show (ω.map (·.1) ++ ωd.map (·.1)).Nodup from by rw [← List.map_append]; exact h.nd)).1, fun p hp => (h.at_ p (List.mem_append_left _ hp)).sub fun a ha => by
    show a ∈ (ω ++ ωd).map (·.1)
    rw [List.map_append]; exact List.mem_append_left _ ha⟩
theorem dom_app (ω ωd : Own) : dom (ω ++ ωd) = dom ω ++ dom ωd := by simp [dom]
theorem HC.hideMore {O : List Addr} {H H' : Hp} {p b : Addr} (np : H p = none) (k : Keep O H H') (eb : H' b = H b) {c : OC} (r : HC O H b c) : HC (O ++ [p]) H' b c := by
  cases c with
  | lst ds => obtain ⟨xs, e, r⟩ := r; exact ⟨xs, eb.trans e, RpAll.hideMore np k _ _ r⟩
  | dct kvs => exact eb.trans r
  | row KK scr ns kk s' rr =>
    obtain ⟨e, q, l⟩ := r
    exact ⟨eb.trans e, q.to fun n r => ⟨fun z => (List.mem_append.mp z).elim n fun z => rd_ne np r (by simpa using z), k.rd n r⟩, l⟩
  | obj C dx fs => obtain ⟨vs, e, r⟩ := r; exact ⟨vs, eb.trans e, r.map fun _ _ q => q.hideMore np k⟩
  | dk kvs => exact eb.trans r
/-- a new object is owned -/
theorem OwnOk.snoc {ω : Own} {H : Hp} (h : OwnOk ω H) {p : Addr} {o : HO} {c : OC} (np : H p = none) (hc : HC (dom ω ++ [p]) (L2.upd H p o) p c) : OwnOk (ω ++ [(p, c)]) (L2.upd H p o) := by
  have ed : dom (ω ++ [(p, c)]) = dom ω ++ [p] := by simp [dom]
  refine ⟨?_, fun q hq => ?_⟩
  · rw [ed]
    refine List.nodup_append.mpr ⟨h.nd, by simp, fun a ha b hb => ?_⟩
    have : b = p := by simpa using hb
    subst this
    intro z; subst z
    exact h.fresh np ha
  · rw [ed]
    rcases List.mem_append.mp hq with hq | hq
    · have nq : q.1 ≠ p := fun z => h.fresh np (by rw [← z]; exact List.mem_map.mpr ⟨q, hq, rfl⟩)
      exact (h.at_ q hq).hideMore np (Keep.upd np) (upd_ne nq)
    · have : q = (p, c) := by simpa using hq
      subst this; exact hc
theorem EOk.snoc {ω : Own} {ρ : Rho} {σ : L2.St} {H : Hp} (E : EOk ω ρ σ H) {p : Addr} {o : HO} {c : OC} (np : H p = none) (hc : HC (dom ω ++ [p]) (upd H p o) p c) : EOk (ω ++ [(p, c)]) ρ σ (upd H p o) :=
  ⟨E.own.snoc np hc, E.len, fun i e h => let ⟨v, h1, h2⟩ := E.val i e h; ⟨v, h1, by rw [dom_app]; exact h2.hideMore np (Keep.upd np)⟩⟩
def wipeR (ρ : Rho) : List Nat → Rho
  | [] => ρ
  | v :: vs => (wipeR ρ vs).set v none
theorem wipeR_length (ρ : Rho) : ∀ vs, (wipeR ρ vs).length = ρ.length
  | [] => rfl
  | v :: vs => by unfold wipeR; rw [List.length_set, wipeR_length ρ vs]
theorem wipeR_some {ρ : Rho} {i : Nat} {x : Ent} : ∀ {vs : List Nat}, (wipeR ρ vs)[i]? = some (some x) → ρ[i]? = some (some x) ∧ i ∉ vs
  | [], h => ⟨h, by simp⟩
  | v :: vs, h => by
    unfold wipeR at h
    by_cases hi : v = i
    · subst hi
      by_cases hv : v < (wipeR ρ vs).length
      · rw [List.getElem?_set_self hv] at h; cases h
      · rw [List.getElem?_eq_none (by simpa using hv)] at h; cases h
    · rw [List.getElem?_set_ne hi] at h
      obtain ⟨h1, h2⟩ := wipeR_some h
      exact ⟨h1, by simp only [List.mem_cons, not_or]; exact ⟨fun e => hi e.symm, h2⟩⟩
theorem wipe_out {σ : L2.St} {i : Nat} : ∀ {vs : List Nat}, i ∉ vs → (wipe σ vs)[i]? = σ[i]?
  | [], _ => rfl
  | v :: vs, h => by
    unfold wipe
    rw [List.getElem?_set_ne fun z => h (by simp [z])]
    exact wipe_out fun z => h (by simp [z])
theorem wipe_in {σ : L2.St} {i : Nat} : ∀ {vs : List Nat}, i ∈ vs → i < σ.length → (wipe σ vs)[i]? = some none
  | [], h, _ => nomatch h
  | v :: vs, h, hl => by
    unfold wipe
    by_cases e : v = i
    · subst e; rw [List.getElem?_set_self (by rw [wipe_length]; exact hl)]
    · rw [List.getElem?_set_ne e]
      exact wipe_in ((List.mem_cons.mp h).resolve_left fun z => e z.symm) hl
theorem wipe_eq {σ σ' : L2.St} {vs S : List Nat} (hl : σ'.length = σ.length) (s : ∀ i ∈ S, i ∈ vs) (h : ∀ i, i ∉ S → σ'[i]? = σ[i]?) : wipe σ' vs = wipe σ vs := by
  refine List.ext_getElem? fun i => ?_
  by_cases hi : i ∈ vs
  · by_cases hb : i < σ.length
    · rw [wipe_in hi hb, wipe_in hi (by rw [hl]; exact hb)]
    · rw [List.getElem?_eq_none (by rw [wipe_length]; omega), List.getElem?_eq_none (by rw [wipe_length]; omega)]
  · rw [wipe_out hi, wipe_out hi]
    exact h i fun z => hi (s i z)
theorem wipe_wipe {σ : L2.St} {vs : List Nat} : wipe (wipe σ vs) vs = wipe σ vs := by
  refine List.ext_getElem? fun i => ?_
  by_cases hi : i ∈ vs
  · by_cases hb : i < σ.length
    · rw [wipe_in hi (by rw [wipe_length]; exact hb), wipe_in hi hb]
    · rw [List.getElem?_eq_none (by rw [wipe_length, wipe_length]; omega), List.getElem?_eq_none (by rw [wipe_length]; omega)]
  · rw [wipe_out hi]
theorem EOk.wipe {ω : Own} {ρ : Rho} {σ : L2.St} {H : Hp} (E : EOk ω ρ σ H) (vs : List Nat) : EOk ω (wipeR ρ vs) (wipe σ vs) H :=
  ⟨E.own, by rw [wipe_length, wipeR_length]; exact E.len, fun i e h => by
    obtain ⟨h1, h2⟩ := wipeR_some h
    rw [wipe_out h2]
    exact E.val i e h1⟩

section
variable {X : Cx} {tg elt iter a b c : Expr} {ifs : List Expr} {ω ω1 ω2 : Own} {ρ ρ1 ρ2 ρ' : Rho} {pos p2 : Pos} {e e1 e2 : Ent} {scope : Scope}
/-- what the list of a comprehension holds behind k turns -/
def accD (c : Nat → Bool) (f : Nat → PyData) (k : Nat) : List PyData := ((List.range k).filter c).map f
theorem accD_succ (c : Nat → Bool) (f : Nat → PyData) (k : Nat) : accD c f (k + 1) = if c k = true then accD c f k ++ [f k] else accD c f k := by
  unfold accD
  rw [List.range_succ, List.filter_append, List.map_append]
  by_cases h : c k = true
  · rw [if_pos h]; simp [h]
  · rw [if_neg h]; simp [h]
theorem accD_len (c : Nat → Bool) (f : Nat → PyData) (k : Nat) : (accD c f k).length ≤ k := by
  unfold accD
  rw [List.length_map]
  exact Nat.le_trans (List.length_filter_le _ _) (by rw [List.length_range]; exact Nat.le_refl _)
abbrev BlkC (X : Cx) (scope : Scope) (s : Shared) (H : Hp) (C : Addr) (cl : List (Str × Addr)) (fp : List Addr) : Cx := X.blk s H scope (compEnvC scope cl C X.env) fp
def tLT (n : Nat) (Ω : Nat → Own) (ρb : Nat → Rho) (c : Nat → Bool) : TT := fun σ H Q => ∃ p : Nat × Own, p.1 < n ∧ tT (Ω p.1 ++ p.2) (ρb p.1) (c p.1) (Ω p.1 ++ p.2) σ H Q
def tLE (n : Nat) (Ω : Nat → Own) (ρb : Nat → Rho) (c : Nat → Bool) (f : Nat → PyData) : TE := fun σ H Q => ∃ p : Nat × Own, (p.1 < n ∧ c p.1 = true) ∧ tD (Ω p.1 ++ p.2) (ρb p.1) (.dat (f p.1)) (Ω (p.1 + 1) ++ p.2) σ H Q
theorem lc_read {g : TG} {S vs : List Nat} {xs : List Ent} {wi : TI} (hwi : wi = iD ω ρ xs ω1) (Ω : Nat → Own) (ρb : Nat → Rho) (c : Nat → Bool) (f : Nat → PyData) (h0 : Ω 0 = ω1) (hz : xs.length ≤ 1000) (hS : ∀ i ∈ S, i ∈ vs)
    (hb : ∀ (k : Nat) (x : Ent), xs[k]? = some x → Bnd X.K g S x (wipeR ρ vs) (ρb k)) (hq : ∀ k, k < xs.length → c k = false → Ω (k + 1) = Ω k) :
    ∀ σ H Q, tD ω ρ (.dat (.list (accD c f xs.length))) (Ω xs.length) σ H Q → tLc wi g (tLT xs.length Ω ρb c) (tLE xs.length Ω ρb c f) vs σ H Q := by
  subst hwi
  intro σ H Q ⟨hE, q⟩
  refine ⟨hE, fun J H1 x1 wk D nD => ?_⟩
  have E1 : EOk (Ω 0) ρ σ H1 := by rw [h0]; exact hE.xt x1
  have hfree : ∀ a ∈ dom ω1 ++ [D], a ∉ dom ω1 → H1 a = none := fun a ha n => by
    rcases List.mem_append.mp ha with z | z
    · exact absurd z n
    · have : a = D := by simpa using z
      rw [this]; exact nD
  refine lc_it (g := g) (tt := tLT xs.length Ω ρb c) (te := tLE xs.length Ω ρb c f) (wk.w (dom ω1 ++ [D]) (fun _ h => List.mem_append_left _ h) hfree)
    (fun i H2 => dom (Ω i) = dom ω1 ∧ Keep (dom ω1) H1 H2 ∧ EOk (Ω i ++ [(D, .lst (accD c f i))]) (wipeR ρ vs) (wipe σ vs) H2) ⟨by rw [h0], .upd nD, ?_⟩ (fun i H2 _ hv => ⟨fun b o nb hb => ?_, fun a ha z => ?_⟩) (fun i x H2 H3 hi' hv y => ?_) (fun H2 hv => ?_)
  · refine (E1.wipe vs).snoc nD ⟨[], upd_same, ?_⟩
    exact .nil
  · exact hv.2.1 b o (fun z => nb (List.mem_append_left _ z)) hb
  · have ed : dom (Ω i ++ [(D, OC.lst (accD c f i))]) = dom ω1 ++ [D] := by rw [dom_app, hv.1]; rfl
    obtain ⟨o, eo⟩ := hv.2.2.own.some (by rw [ed]; exact ha)
    rw [z] at eo; cases eo
  · obtain ⟨dm, kp, E2⟩ := hv
    obtain ⟨en, he, hqt, hr⟩ := y
    have ed : dom (Ω i ++ [(D, OC.lst (accD c f i))]) = dom ω1 ++ [D] := by rw [dom_app, dm]; rfl
    have x3 : Xt (Ω i ++ [(D, OC.lst (accD c f i))]) H2 (Ω i ++ [(D, OC.lst (accD c f i))]) H3 :=
      ⟨rfl, E2.own.keep (by rw [ed]; exact hqt.1) (by rw [ed]; exact hqt.2), by rw [ed]; exact hqt.1⟩
    refine (hb i en he).go (Ω i ++ [(D, OC.lst (accD c f i))]) x _ H3 _ (E2.xt x3) (by rw [ed]; exact hr) fun σ3 E3 hs3 hl3 => ⟨?_, ?_⟩
    · rw [wipe_eq hl3 hS hs3, wipe_wipe]
    · refine ⟨(i, [(D, OC.lst (accD c f i))]), hi', E3, fun H4 x4 => ?_⟩
      have kD : ∀ {ω' : Own} {H' : Hp}, dom ω' = dom ω1 → Xt (Ω i ++ [(D, OC.lst (accD c f i))]) H3 (ω' ++ [(D, OC.lst (accD c f i))]) H' → Keep (dom ω1) H1 H' := fun {ω' H'} _ xx b o nb hb' => by
        have nbD : b ≠ D := ne_of_none hb' nD
        have nb' : b ∉ dom (Ω i ++ [(D, OC.lst (accD c f i))]) := by
          rw [ed]
          exact fun z => (List.mem_append.mp z).elim nb fun z => nbD (by simpa using z)
        exact xx.keep b o nb' (x3.keep b o nb' (kp b o nb hb'))
      have Ew : ∀ {ω' : Own} {σ' : L2.St} {H' : Hp}, Xt (Ω i ++ [(D, OC.lst (accD c f i))]) H3 ω' H' → EOk ω' (wipeR ρ vs) (wipe σ vs) H' := fun xx => (E2.xt x3).xt xx
      cases hc : c i with
      | false =>
        refine iteF ⟨by rw [hq i hi' hc]; exact dm, kD dm x4, ?_⟩
        have := Ew (σ' := σ3) x4
        rw [hq i hi' hc, accD_succ, hc, if_neg (by decide)]
        exact this
      | true =>
        refine iteT ⟨(i, [(D, OC.lst (accD c f i))]), ⟨hi', hc⟩, E3.xt x4, fun v H5 x5 r5 => ?_⟩
        have dm5 : dom (Ω (i + 1)) = dom ω1 := by
          have := x5.dm
          rw [dom_app, dom_app, dm] at this
          exact (List.append_inj_left' this rfl)
        obtain ⟨acc, ea, ra⟩ := x5.own.at_ (D, OC.lst (accD c f i)) (by simp)
        have x45 : Xt (Ω i ++ [(D, OC.lst (accD c f i))]) H3 (Ω (i + 1) ++ [(D, OC.lst (accD c f i))]) H5 := x4.trans x5
        refine ⟨acc, ea, by rw [ra.length]; exact small1000 (Nat.le_trans (accD_len c f i) (by omega)), dm5, ?_, ?_⟩
        · intro b o nb hb'
          rw [upd_ne (ne_of_none hb' nD)]
          exact kD dm5 x45 b o nb hb'
        · have E5 := Ew (σ' := σ3) x45
          have inD : D ∈ dom (Ω (i + 1) ++ [(D, OC.lst (accD c f i))]) := by simp [dom]
          have eds : dom (Ω (i + 1) ++ [(D, OC.lst (accD c f (i + 1)))]) = dom (Ω (i + 1) ++ [(D, OC.lst (accD c f i))]) := by simp [dom]
          refine ⟨?_, E5.len, fun j ee h => ?_⟩
          · have := OwnOk.put (ωa := Ω (i + 1)) (ωb := []) (p := D) (c := OC.lst (accD c f i)) (c' := OC.lst (accD c f (i + 1))) (o := .lst (acc ++ [v])) x5.own ⟨acc ++ [v], upd_same, ?_⟩
            · exact this
            · rw [hide_upd_in inD, accD_succ, hc, if_pos rfl]
              exact ra.append (.cons r5 .nil)
          · obtain ⟨w, h1, h2⟩ := E5.val j ee h
            exact ⟨w, h1, by rw [eds]; exact h2.updIn inD⟩
  · obtain ⟨dm, kp, E2⟩ := hv
    obtain ⟨acc, ea, ra⟩ := E2.own.at_ (D, OC.lst (accD c f xs.length)) (by simp)
    have nD' : D ∉ dom (Ω xs.length) := by rw [dm]; exact x1.own.fresh nD
    refine q _ H2 (x1.trans ⟨dm, E2.own.pre, kp⟩) (Rp.lst (xs := acc) (by rw [hide_out nD']; exact ea) (RpAll.mono (hide_sub fun a ha => ?_) _ _ ra))
    rw [dom_app]; exact List.mem_append_left _ ha
/-- THE RULE for a list comprehension -/
theorem de_comp {g : TG} {S : List Nat} {own : List (Str × Nat)} {xs : List Ent} (hc : X.calm = true) (hN : X.N.Nodup) (ok : BlkOk X.N X.env.scope scope own) (hi : DI X tg ω ρ iter xs ω1) (Ω : Nat → Own) (ρb : Nat → Rho) (c : Nat → Bool) (f : Nat → PyData)
    (h0 : Ω 0 = ω1) (hz : xs.length ≤ 1000) (hS : ∀ i ∈ S, i ∈ own.map (·.2)) (hg : ∀ s H C cl fp, PG (BlkC X scope s H C cl fp) tg g) (hb : ∀ (k : Nat) (x : Ent), xs[k]? = some x → Bnd X.K g S x (wipeR ρ (own.map (·.2))) (ρb k))
    (hq : ∀ k, k < xs.length → c k = false → Ω (k + 1) = Ω k)
    (ht : ∀ s H C cl fp (k : Nat) (ωd : Own), k < xs.length → PTs (BlkC X scope s H C cl fp) ifs (tT (Ω k ++ ωd) (ρb k) (c k) (Ω k ++ ωd)))
    (he : ∀ s H C cl fp (k : Nat) (ωd : Own), k < xs.length → c k = true → DE (BlkC X scope s H C cl fp) (Ω k ++ ωd) (ρb k) elt (.dat (f k)) (Ω (k + 1) ++ ωd)) (hs : ∀ x, foldedSetIterable iter X.env x = pure x := by intro _; rfl) :
    DE X ω ρ (.ListComp elt [⟨tg, iter, ifs, 0⟩] scope pos) (.dat (.list (accD c f xs.length))) (Ω xs.length) :=
  pe_w (pe_lc hc hN hi ok hg (fun s H C cl fp => pts_ex (p := fun p : Nat × Own => p.1 < xs.length) (t := fun p => tT (Ω p.1 ++ p.2) (ρb p.1) (c p.1) (Ω p.1 ++ p.2)) fun p hp => ht s H C cl fp p.1 p.2 hp)
    (fun s H C cl fp => pe_ex (p := fun p : Nat × Own => p.1 < xs.length ∧ c p.1 = true) (t := fun p => tD (Ω p.1 ++ p.2) (ρb p.1) (.dat (f p.1)) (Ω (p.1 + 1) ++ p.2)) fun p hp => he s H C cl fp p.1 p.2 hp.1 hp.2) hs)
    (lc_read (X := X) rfl Ω ρb c f h0 hz hS hb hq)
/-- x = [..] -/
theorem dn_setC (i : Nat) {y : Str} {py spos : Pos} {g : TG} {S : List Nat} {own : List (Str × Nat)} {xs : List Ent} (hc : X.calm = true) (hN : X.N.Nodup) (ok : BlkOk X.N X.env.scope scope own) (hi : DI X tg ω ρ iter xs ω1) (Ω : Nat → Own) (ρb : Nat → Rho) (c : Nat → Bool) (f : Nat → PyData)
    (h0 : Ω 0 = ω1) (hz : xs.length ≤ 1000) (hS : ∀ i ∈ S, i ∈ own.map (·.2)) (hg : ∀ s H C cl fp, PG (BlkC X scope s H C cl fp) tg g) (hb : ∀ (k : Nat) (x : Ent), xs[k]? = some x → Bnd X.K g S x (wipeR ρ (own.map (·.2))) (ρb k))
    (hq : ∀ k, k < xs.length → c k = false → Ω (k + 1) = Ω k)
    (ht : ∀ s H C cl fp (k : Nat) (ωd : Own), k < xs.length → PTs (BlkC X scope s H C cl fp) ifs (tT (Ω k ++ ωd) (ρb k) (c k) (Ω k ++ ωd)))
    (he : ∀ s H C cl fp (k : Nat) (ωd : Own), k < xs.length → c k = true → DE (BlkC X scope s H C cl fp) (Ω k ++ ωd) (ρb k) elt (.dat (f k)) (Ω (k + 1) ++ ωd)) (hy : X.N[i]? = some y := by rfl) (hyl : X.env.scope.names.lookup y = some .local := by rfl)
    (hsw : swapsWith (.ListComp elt [⟨tg, iter, ifs, 0⟩] scope pos) (some (.Name y py)) spos.line X.env = pure true := by exact sw_true rfl rfl rfl (by decide +kernel)) (hs : ∀ x, foldedSetIterable iter X.env x = pure x := by intro _; rfl) :
    DN X ω ρ (.Assign [.Name y py] (.ListComp elt [⟨tg, iter, ifs, 0⟩] scope pos) spos) (Ω xs.length) (ρ.set i (some (.dat (.list (accD c f xs.length))))) :=
  ps_w (ps_setLc hc hN hy hyl hsw hi ok hg (fun s H C cl fp => pts_ex (p := fun p : Nat × Own => p.1 < xs.length) (t := fun p => tT (Ω p.1 ++ p.2) (ρb p.1) (c p.1) (Ω p.1 ++ p.2)) fun p hp => ht s H C cl fp p.1 p.2 hp)
    (fun s H C cl fp => pe_ex (p := fun p : Nat × Own => p.1 < xs.length ∧ c p.1 = true) (t := fun p => tD (Ω p.1 ++ p.2) (ρb p.1) (.dat (f p.1)) (Ω (p.1 + 1) ++ p.2)) fun p hp => he s H C cl fp p.1 p.2 hp.1 hp.2) hs)
    fun D σ H ⟨hE, q⟩ => lc_read (X := X) rfl Ω ρb c f h0 hz hS hb hq σ H (fun x H1 => gName i x σ H1 D.nx) ⟨hE, fun v H1 x1 r1 => q _ H1 x1 ((hE.xt x1).set r1)⟩
end
end DL

set_option Elab.async false
set_option linter.all false
set_option maxRecDepth 100000
set_option maxHeartbeats 1000000
namespace DL
open PySem PySem.Spec PyProof.Rows L2
/-! ### defs -/
def dsp (R : List Ent → Own → Ent → Own → Prop) : Sp := fun vs H Q _ => ∃ es ω e ω', R es ω e ω' ∧ OwnOk ω H ∧ REs (dom ω) H es vs ∧ ∀ v H', Keep (dom ω) H H' → OwnOk ω' H' → RE (dom ω') H' e v → Q v H'
/-- the def x keeps R, at level k -/
structure DFn (P : Program) (w : World) (K : PySem.W.Frag) (mg : Str → Option Value) (base : Heap) (k : Nat) (x : Str) (R : List Ent → Own → Ent → Own → Prop) : Prop where
  ex : ∃ (f : Addr) (fd : FuncData) (ps : List Str), FnOk P w K mg base CX0 k f fd ps (dsp R) ∧ mg x = some (.ref f) ∧ PySem.W.keepIn K (.ref f) = true ∧ Binds K fd ps []
theorem DFn.imp {P : Program} {w : World} {K : PySem.W.Frag} {mg : Str → Option Value} {base : Heap} {k : Nat} {x : Str} {R R' : List Ent → Own → Ent → Own → Prop} (F : DFn P w K mg base k x R) (h : ∀ es ω e ω', R' es ω e ω' → R es ω e ω') : DFn P w K mg base k x R' := by
  obtain ⟨f, fd, ps, F, a, b, c⟩ := F.ex
  exact ⟨f, fd, ps, F.imp fun vs H Q E ⟨es, ω, e, ω', r, q⟩ => ⟨es, ω, e, ω', h _ _ _ _ r, q⟩, a, b, c⟩
section
variable {X : Cx} {a b c : Expr} {es : List Expr} {ω ω1 ω2 : Own} {ρ ρ1 ρ2 ρ' : Rho} {pos p2 : Pos} {e e1 e2 : Ent} {R : List Ent → Own → Ent → Own → Prop} {rs : List Ent} {k : Nat}
theorem de_call {x : Str} (F : DFn X.prog X.w X.K X.mg X.base k x R) (hr : Room k X.A) (ha : DA X ω ρ (a :: es) rs ω1) (hR : R rs ω1 e ω2) (hd : dom ω2 = dom ω1 := by rfl) (hg : Gl X x := by rfl) (hdb : (x == ("__debug__" : Str)) = false := by decide)
    (he : starEach (a :: es) X.env = (false, eval a X.env) :: starEach es X.env := by rfl) (hpl : (backTo pos (starEach es X.env)).any (·.1) = false := by rfl) : DE X ω ρ (.Call (.Name x p2) (a :: es) [] pos) e ω2 := by
  obtain ⟨f, fd, ps, F, hm, hk, hb⟩ := F.ex
  refine pe_w (pe_call F hr hg hm hk hb .nil pass0 ha hdb he hpl) fun σ H Q ⟨hE, q⟩ => ⟨hE, fun vs H1 x1 r1 => ?_⟩
  show dsp R (vs ++ []) H1 Q E0
  rw [List.append_nil]
  exact ⟨rs, ω1, e, ω2, hR, x1.own, r1, fun v H2 k2 o2 r2 => q v H2 (x1.trans ⟨hd, o2, k2⟩) r2⟩
theorem de_call0 {x : Str} (F : DFn X.prog X.w X.K X.mg X.base k x R) (hr : Room k X.A) (hR : R [] ω e ω2) (hd : dom ω2 = dom ω := by rfl) (hg : Gl X x := by rfl) (hdb : (x == ("__debug__" : Str)) = false := by decide) : DE X ω ρ (.Call (.Name x p2) [] [] pos) e ω2 := by
  obtain ⟨f, fd, ps, F, hm, hk, hb⟩ := F.ex
  exact pe_w (pe_call0 F hr hg hm hk hb .nil pass0 hdb) fun σ H Q ⟨hE, q⟩ =>
    ⟨[], ω, e, ω2, hR, hE.own, .nil, fun v H2 k2 o2 r2 => q v H2 ⟨hd, o2, k2⟩ r2⟩
end
abbrev CxF (P : Program) (w : World) (K : PySem.W.Frag) (mg : Str → Option Value) (base : Heap) (N : List Str) (qual : Str) (st : Stmt) (f : Addr) (cdv : Value) (A : Around) (outer : List Env) (s : Shared) (H : Hp) (E : XK) : Cx := (cxOf CX0 P w K mg base N qual (defScope st) f cdv A outer s H E).nox
def rho0 (N : List Str) (es : List Ent) : Rho := es.map some ++ List.replicate (N.length - es.length) none
theorem EOk_start {ω : Own} {N : List Str} {es : List Ent} {vs : List V} {H : Hp} (o : OwnOk ω H) (r : REs (dom ω) H es vs) : EOk ω (rho0 N es) (L2.start N vs) H := by
  have hl : es.length = vs.length := r.length
  refine ⟨o, ?_, fun i e h => ?_⟩
  · unfold L2.start rho0
    rw [List.length_append, List.length_append, List.length_map, List.length_map, List.length_replicate, List.length_replicate, hl]
  · unfold rho0 at h
    unfold L2.start
    by_cases hi : i < es.length
    · rw [List.getElem?_append_left (by simpa using hi), List.getElem?_map, List.getElem?_eq_getElem hi] at h
      rw [List.getElem?_append_left (by rw [List.length_map]; omega), List.getElem?_map]
      have : es[i] = e := by simpa using h
      subst this
      have key : ∀ {es : List Ent} {vs : List V} (i : Nat) (hi : i < es.length), REs (dom ω) H es vs → ∃ v, vs[i]? = some v ∧ RE (dom ω) H es[i] v := by
        intro es vs i hi r
        induction r generalizing i with
        | nil => exact absurd hi (Nat.not_lt_zero _)
        | cons a t ih =>
          cases i with
          | zero => exact ⟨_, rfl, a⟩
          | succ i => exact ih i (by simpa using hi)
      obtain ⟨v, h1, h2⟩ := key i hi r
      exact ⟨v, by rw [h1]; rfl, h2⟩
    · rw [List.getElem?_append_right (by simpa using Nat.le_of_not_lt hi), List.getElem?_replicate] at h
      split at h <;> cases h
section
variable {P : Program} {w : World} {K : PySem.W.Frag} {mg : Str → Option Value} {base : Heap} {x qual : Str} {st : Stmt} {f : Addr} {fd : FuncData} {N ps : List Str} {k : Nat} {R : List Ent → Own → Ent → Own → Prop}
theorem dfn_ret (F : Fun K x qual st f fd) (hm : mg x = some (.ref f)) (hb : Binds K fd ps []) (S : FnScope N ps (defScope st)) (len : ∀ es ω e ω', R es ω e ω' → es.length = ps.length)
    (body : ∀ (cdv : Value) (A : Around) (outer : List Env) (s : Shared) (H : Hp) (E : XK), Room k (CxF P w K mg base N qual st f cdv A outer s H E).A → ∀ es ω e ω', R es ω e ω' → DR (CxF P w K mg base N qual st f cdv A outer s H E) ω (rho0 N es) (defBody st) e ω') : DFn P w K mg base (k + 1) x R := by
  refine ⟨f, fd, ps, F.ok S (fun vs H Q E ⟨es, ω, e, ω', r, o, rs, q⟩ => ?_) (fun cdv A outer s H vs Q E hr ⟨es, ω, e, ω', r, o, rs, q⟩ => ?_), hm, F.kp, hb⟩
  · exact rs.length.symm.trans (len _ _ _ _ r)
  · exact ⟨_, body cdv A outer s H E hr es ω e ω' r, EOk_start o rs, q⟩
/-- a def that hands back None behind its last statement -/
theorem dfn_none (F : Fun K x qual st f fd) (hm : mg x = some (.ref f)) (hb : Binds K fd ps []) (S : FnScope N ps (defScope st)) (len : ∀ es ω e ω', R es ω e ω' → es.length = ps.length) (hn : ∀ es ω e ω', R es ω e ω' → e = .dat .none)
    (body : ∀ (cdv : Value) (A : Around) (outer : List Env) (s : Shared) (H : Hp) (E : XK), Room k (CxF P w K mg base N qual st f cdv A outer s H E).A → ∀ es ω e ω', R es ω e ω' → ∃ ρ', DNs (CxF P w K mg base N qual st f cdv A outer s H E) ω (rho0 N es) (defBody st) ω' ρ') : DFn P w K mg base (k + 1) x R := by
  refine ⟨f, fd, ps, F.ok S (fun vs H Q E ⟨es, ω, e, ω', r, o, rs, q⟩ => ?_) (fun cdv A outer s H vs Q E hr ⟨es, ω, e, ω', r, o, rs, q⟩ => ?_), hm, F.kp, hb⟩
  · exact rs.length.symm.trans (len _ _ _ _ r)
  · obtain ⟨ρ', hb⟩ := body cdv A outer s H E hr es ω e ω' r
    have he := hn _ _ _ _ r
    subst he
    exact ⟨_, hb, EOk_start o rs, fun σ' H' x1 E1 => q .non H' x1.keep x1.own .non⟩
end

/-! ### objects of one's own -/
section
variable {X : Cx} {tg a b c i1 : Expr} {ω ω1 ω2 ω' ωa ωb : Own} {ρ ρ1 ρ2 ρ' : Rho} {pos p2 p3 : Pos} {e e1 e2 : Ent} {s : Stmt} {ss body els : List Stmt}
theorem dr_new (i : Nat) {x : Str} {o : HO} {oc : OC} (hN : X.N.Nodup) (he : PE X a (fun _ H Q => ∀ p, H p = none → Q (.ref p) (upd H p o))) (hc : ∀ O H p, HC O (upd H p o) p oc) (h : ∀ p, DR X (ω ++ [(p, oc)]) (ρ.set i (some (.own p))) ss e ω')
    (hi : X.N[i]? = some x := by rfl) (hx : Loc X.env.scope x := by first | exact Or.inl rfl | exact Or.inr rfl) (hs : swapsWith a (some (.Name x p2)) pos.line X.env = pure false := by rfl)
    (hf : X.fn x = true ∨ X.env.scope.names.lookup x = some .local := by first | exact .inl rfl | exact .inr rfl | assumption) : DR X ω ρ (.Assign [.Name x p2] a pos :: ss) e ω' := by
  have hall : PSs X ss (fun D σ H => ∃ p : Addr, True ∧ tRt (ω ++ [(p, oc)]) (ρ.set i (some (.own p))) e ω' D σ H) := pss_ex (p := fun _ => True) (t := fun p => tRt (ω ++ [(p, oc)]) (ρ.set i (some (.own p))) e ω') fun p _ => h p
  refine pss_w (pss_cons (ps_set hN hi hx he hs hf) hall) fun D σ H ⟨hE, q⟩ => fun p np => ⟨p, trivial, ?_, fun v H' kk oo rr => q v H' (fun b' u nb hb => ?_) oo rr⟩
  · exact (hE.snoc np (hc _ _ _)).set (e := .own p) rfl
  · refine kk b' u (fun z => ?_) (by rw [upd_ne (ne_of_none hb np)]; exact hb)
    rw [dom_app] at z
    exact (List.mem_append.mp z).elim nb fun z => ne_of_none hb np (by simpa [dom] using z)
theorem dr_newL (i : Nat) {x : Str} (hN : X.N.Nodup) (h : ∀ p, DR X (ω ++ [(p, .lst [])]) (ρ.set i (some (.own p))) ss e ω') (hi : X.N[i]? = some x := by rfl) (hx : Loc X.env.scope x := by first | exact Or.inl rfl | exact Or.inr rfl)
    (hs : swapsWith (.List [] p3) (some (.Name x p2)) pos.line X.env = pure false := by rfl) (hf : X.fn x = true ∨ X.env.scope.names.lookup x = some .local := by first | exact .inl rfl | exact .inr rfl | assumption) : DR X ω ρ (.Assign [.Name x p2] (.List [] p3) pos :: ss) e ω' :=
  dr_new i (o := .lst []) (oc := .lst []) hN (pe_w (pe_lst pa_nil) fun σ H Q q => ⟨Nat.zero_le _, q⟩) (fun O H p => ⟨[], upd_same, .nil⟩) h hi hx hs hf
theorem dr_newT (i : Nat) {x : Str} (hN : X.N.Nodup) (h : ∀ p, DR X (ω ++ [(p, .dct [])]) (ρ.set i (some (.own p))) ss e ω') (hi : X.N[i]? = some x := by rfl) (hx : Loc X.env.scope x := by first | exact Or.inl rfl | exact Or.inr rfl)
    (hs : swapsWith (.Dict [] [] p3) (some (.Name x p2)) pos.line X.env = pure false := by rfl) (hf : X.fn x = true ∨ X.env.scope.names.lookup x = some .local := by first | exact .inl rfl | exact .inr rfl | assumption) : DR X ω ρ (.Assign [.Name x p2] (.Dict [] [] p3) pos :: ss) e ω' :=
  dr_new i (o := .dT []) (oc := .dct []) hN (pe_w pe_dnewT fun σ H Q q => q) (fun O H p => upd_same) h hi hx hs hf
/-- what an owned object is to be read as, once nobody writes it -/
def view : OC → Ent
  | .lst ds => .dat (.list ds)
  | .dct kvs => .dct kvs
  | _ => .dat .none
/-- what can be read as plain data -/
def vw : OC → Bool
  | .lst _ => true
  | .dct _ => true
  | _ => false
inductive RelL (p : Addr) (c : OC) : Rho → Rho → Prop
  | nil : RelL p c [] []
  | same {x : Option Ent} {xs ys : Rho} : RelL p c xs ys → RelL p c (x :: xs) (x :: ys)
  | drop {x : Option Ent} {xs ys : Rho} : RelL p c xs ys → RelL p c (none :: xs) (x :: ys)
  | view {xs ys : Rho} : RelL p c xs ys → RelL p c (some (view c) :: xs) (some (.own p) :: ys)
theorem RelL.len {p : Addr} {c : OC} : ∀ {xs ys : Rho}, RelL p c xs ys → xs.length = ys.length
  | _, _, .nil => rfl
  | _, _, .same t => by rw [List.length_cons, List.length_cons, RelL.len t]
  | _, _, .drop t => by rw [List.length_cons, List.length_cons, RelL.len t]
  | _, _, .view t => by rw [List.length_cons, List.length_cons, RelL.len t]
theorem RelL.get {p : Addr} {c : OC} : ∀ {xs ys : Rho} {i : Nat} {e : Ent}, RelL p c xs ys → xs[i]? = some (some e) → ys[i]? = some (some e) ∨ (e = DL.view c ∧ ys[i]? = some (some (.own p)))
  | _, _, i, e, .nil, h => by cases i <;> cases h
  | _, _, i, e, .same t, h => by
    cases i with
    | zero => exact .inl h
    | succ i => exact RelL.get (i := i) t h
  | _, _, i, e, .drop t, h => by
    cases i with
    | zero => cases h
    | succ i => exact RelL.get (i := i) t h
  | _, _, i, e, .view t, h => by
    cases i with
    | zero => cases h; exact .inr ⟨rfl, rfl⟩
    | succ i => exact RelL.get (i := i) t h
theorem EOk.release {p : Addr} {c : OC} {σ : L2.St} {H : Hp} (E : EOk (ω ++ [(p, c)]) ρ σ H) (hc : vw c = true) (hr : RelL p c ρ' ρ) : EOk ω ρ' σ H := by
  have np : p ∉ dom ω := fun z => by
    have h1 := List.nodup_append.mp (show (ω.map (·.1) ++ [p]).Nodup from by have := E.own.nd; rw [dom_app] at this; exact this)
    exact h1.2.2 p z p (by simp) rfl
  refine ⟨E.own.pre, by rw [E.len, hr.len], fun i e h => ?_⟩
  rcases hr.get h with h' | ⟨he, h'⟩
  · obtain ⟨v, h1, h2⟩ := E.val i e h'
    exact ⟨v, h1, h2.sub fun a ha => by rw [dom_app]; exact List.mem_append_left _ ha⟩
  · subst he
    obtain ⟨v, h1, h2⟩ := E.val i _ h'
    have h2 : v = .ref p := h2
    subst h2
    refine ⟨_, h1, ?_⟩
    have hh := E.own.at_ (p, c) (by simp)
    cases c with
    | lst ds =>
      obtain ⟨xs, e, r⟩ := hh
      exact Rp.lst (xs := xs) (by rw [hide_out np]; exact e) (RpAll.mono (hide_sub fun a ha => by rw [dom_app]; exact List.mem_append_left _ ha) _ _ r)
    | dct kvs => exact ⟨p, rfl, np, .inl hh⟩
    | row KK scr ns k s r => cases hc
    | obj C dx fs => cases hc
    | dk kvs => cases hc
theorem dr_release {p : Addr} {cc : OC} (h : DR X ω ρ' ss e ω') (hr : RelL p cc ρ' ρ) (hc : vw cc = true := by rfl) : DR X (ω ++ [(p, cc)]) ρ ss e ω' :=
  pss_w h fun D σ H ⟨hE, q⟩ => ⟨hE.release hc hr, fun v H' kk oo rr => q v H' (fun b' u nb hb => kk b' u (fun z => nb (by rw [dom_app]; exact List.mem_append_left _ z)) hb) oo rr⟩
theorem EOk.put {p : Addr} {c c' : OC} {σ : L2.St} {H : Hp} {o : HO} (E : EOk (ωa ++ (p, c) :: ωb) ρ σ H) (hc : HC (dom (ωa ++ (p, c) :: ωb)) (upd H p o) p c') : EOk (ωa ++ (p, c') :: ωb) ρ σ (upd H p o) := by
  have ed : dom (ωa ++ (p, c') :: ωb) = dom (ωa ++ (p, c) :: ωb) := by simp [dom]
  have hp : p ∈ dom (ωa ++ (p, c) :: ωb) := by simp [dom]
  exact ⟨E.own.put hc, E.len, fun i e h => let ⟨v, h1, h2⟩ := E.val i e h; ⟨v, h1, by rw [ed]; exact h2.updIn hp⟩⟩
theorem Xt.put {p : Addr} {c c' : OC} {H : Hp} {o : HO} (O : OwnOk (ωa ++ (p, c) :: ωb) H) (hc : HC (dom (ωa ++ (p, c) :: ωb)) (L2.upd H p o) p c') : Xt (ωa ++ (p, c) :: ωb) H (ωa ++ (p, c') :: ωb) (L2.upd H p o) := by
  have ed : dom (ωa ++ (p, c') :: ωb) = dom (ωa ++ (p, c) :: ωb) := by simp [dom]
  have hp : p ∈ dom (ωa ++ (p, c) :: ωb) := by simp [dom]
  exact ⟨ed, O.put hc, fun b u nb hb => by rw [upd_ne fun z => nb (by rw [z]; exact hp)]; exact hb⟩
/-- x.append(e) -/
theorem dn_append {p : Addr} {ds : List PyData} {d : PyData} {apos cpos : Pos} (ωa ωb : Own) (h0 : ω = ωa ++ (p, .lst ds) :: ωb) (ho : DE X ω ρ a (.own p) ω) (hb : DE X ω ρ b (.dat d) ω) (hz : ds.length ≤ 1000) (h1 : ω1 = ωa ++ (p, .lst (ds ++ [d])) :: ωb)
    (hbase : attributeBase a "append" X.env (eval a X.env) = eval a X.env := by rfl)
    (hfew : ((backTo cpos (starEach [b] X.env)).all (fun x => !x.1) && (backToKw cpos (keywordEach [] X.env)).all (fun x => x.1.isSome)
      && decide ([b].length + ([] : List Keyword).length + (if ([] : List Keyword).isEmpty then 0 else 1) < 30)) = true := by rfl)
    (hline : (apos.endLine == cpos.line) = true := by rfl) (hs : starEach [b] X.env = (false, eval b X.env) :: starEach [] X.env := by rfl) (hplain : (backTo cpos (starEach [] X.env)).any (·.1) = false := by rfl)
    (hsw : swapsWith (.Call (.Attribute a "append" apos) [b] [] cpos) none pos.line X.env = pure false := by rfl) : DN X ω ρ (.Expr (.Call (.Attribute a "append" apos) [b] [] cpos) pos) ω1 ρ := by
  subst h0 h1
  refine ps_w (ps_expr (pe_bm PySem.F.plainAttrs_list PySem.F.slot_list_append PySem.F.type_list_append mt_append ho (pa_cons hb pa_nil hs) hbase hfew hline hs hplain) hsw) fun D σ H ⟨hE, q⟩ => ⟨hE, fun v H1 x1 r1 => ?_⟩
  have r1 : v = .ref p := r1
  subst r1
  obtain ⟨xs1, e1, _⟩ := x1.own.at_ (p, .lst ds) (by simp)
  refine ⟨.inl ⟨rfl, xs1, SqL.of e1⟩, hE.xt x1, fun w H2 x2 r2 => ?_⟩
  obtain ⟨xs, e2, r⟩ := x2.own.at_ (p, .lst ds) (by simp)
  have hc : HC (dom (ωa ++ (p, .lst ds) :: ωb)) (upd H2 p (.lst (xs ++ [w]))) p (.lst (ds ++ [d])) := ⟨_, upd_same, by rw [hide_upd_in (by simp [dom])]; exact r.append (.cons r2 .nil)⟩
  refine ⟨p, xs, w, rfl, rfl, e2, by rw [r.length]; exact small1000 hz, ?_⟩
  exact q σ _ ((x1.trans x2).trans (Xt.put x2.own hc)) (((hE.xt x1).xt x2).put hc)
/-- x[g] = n, x a dict of one's own -/
theorem dn_dput (hu : X.A.units + 1 < cLine) {p : Addr} {kvs : List (List Int × Int)} {g : List Int} {n : Int} (ωa ωb : Own) (h0 : ω = ωa ++ (p, .dct kvs) :: ωb) (hv : DE X ω ρ b (I n) ω) (ho : DE X ω ρ a (.own p) ω) (hi : DE X ω ρ i1 (.dat (tupI g)) ω) (hz : kvs.length ≤ 1000)
    (h1 : ω1 = ωa ++ (p, .dct (putD kvs g n)) :: ωb) (hs : swapsWith b (some (.Subscript a i1 p2)) pos.line X.env = pure false := by rfl) : DN X ω ρ (.Assign [.Subscript a i1 p2] b pos) ω1 ρ := by
  subst h0 h1
  refine ps_w (ps_dput hu ho hi hv hs) fun D σ H ⟨hE, q⟩ => ⟨hE, fun v H1 x1 r1 => ⟨hE.xt x1, fun v2 H2 x2 r2 => ⟨(hE.xt x1).xt x2, fun v3 H3 x3 r3 => ?_⟩⟩⟩
  have r2 : v2 = .ref p := r2
  subst r2
  obtain ⟨t, rfl, nt, et⟩ := key_tup r3
  have eh : H3 p = some (.dT (kvs.map kvT)) := x3.own.at_ (p, .dct kvs) (by simp)
  have ev : v = .int n := r1.int
  subst ev
  have hc : HC (dom (ωa ++ (p, .dct kvs) :: ωb)) (upd H3 p (.dT ((putD kvs g n).map kvT))) p (.dct (putD kvs g n)) := upd_same
  refine ⟨p, _, rfl, .inr ⟨kvs.map kvT, g.map Sum.inl, t, eh, rfl, et, by rw [List.length_map]; exact small1000 hz, rfl⟩, ?_⟩
  rw [putK_kvT]
  exact q σ _ (((x1.trans x2).trans x3).trans (Xt.put x3.own hc)) ((((hE.xt x1).xt x2).xt x3).put hc)
end
end DL

set_option Elab.async false
set_option linter.all false
set_option maxRecDepth 100000
set_option maxHeartbeats 1000000
namespace DL
open PySem PySem.Spec PyProof.Rows L2
section
variable {α : Type}
def cAt (c : α → Bool) (as : List α) (k : Nat) : Bool := match as[k]? with | some x => c x | none => false
def fAt (f : α → PyData) (as : List α) (k : Nat) : PyData := match as[k]? with | some x => f x | none => .none
def rAt (r : α → Rho) (d : Rho) (as : List α) (k : Nat) : Rho := match as[k]? with | some x => r x | none => d
theorem accD_eq (c : α → Bool) (f : α → PyData) : ∀ as : List α, accD (cAt c as) (fAt f as) as.length = (as.filter c).map f
  | [] => rfl
  | x :: xs => by
    have ih := accD_eq c f xs
    unfold accD at ih ⊢
    rw [List.length_cons, List.range_succ_eq_map, List.filter_cons]
    have e0 : cAt c (x :: xs) 0 = c x := rfl
    have em : (List.map Nat.succ (List.range xs.length)).filter (cAt c (x :: xs)) = ((List.range xs.length).filter (cAt c xs)).map Nat.succ := by
      rw [List.filter_map]; rfl
    rw [e0, em]
    have ef : (((List.range xs.length).filter (cAt c xs)).map Nat.succ).map (fAt f (x :: xs)) = ((List.range xs.length).filter (cAt c xs)).map (fAt f xs) := by
      rw [List.map_map]; rfl
    by_cases h : c x = true
    · rw [if_pos h, List.filter_cons_of_pos h, List.map_cons, List.map_cons, ef, ih]; rfl
    · rw [if_neg h, List.filter_cons_of_neg h, ef, ih]
end
section
variable {X : Cx} {tg elt iter a b c : Expr} {ifs : List Expr} {ω ω1 ω2 : Own} {ρ ρ1 ρ2 ρ' : Rho} {pos p2 : Pos} {e e1 e2 : Ent} {scope : Scope} {α : Type}
theorem dts_nil : PTs X [] (tT ω ρ true ω) := ⟨fun pins s σ H Q I ⟨hE, q⟩ => pts_nil.run pins s σ H Q I (q H (.refl hE.own))⟩
theorem dts_one {k : Bool} (h : DT X ω ρ c k ω1) : PTs X [c] (tT ω ρ k ω1) := pts_one h
theorem de_map {g : TG} {S : List Nat} (own : List (Str × Nat)) {as : List α} {enc : α → Ent} (ρb : α → Rho) (c : α → Bool) (f : α → PyData) (hc : X.calm = true) (hN : X.N.Nodup) (hi : DI X tg ω ρ iter (as.map enc) ω) (hg : ∀ s H C cl fp, PG (BlkC X scope s H C cl fp) tg g)
    (hb : ∀ x ∈ as, Bnd X.K g S (enc x) (wipeR ρ (own.map (·.2))) (ρb x))
    (ht : ∀ s H C cl fp (ωd : Own) (x : α), x ∈ as → PTs (BlkC X scope s H C cl fp) ifs (tT (ω ++ ωd) (ρb x) (c x) (ω ++ ωd)))
    (he : ∀ s H C cl fp (ωd : Own) (x : α), x ∈ as → c x = true → DE (BlkC X scope s H C cl fp) (ω ++ ωd) (ρb x) elt (.dat (f x)) (ω ++ ωd)) (hz : as.length ≤ 1000 := by decide) (ok : blkC X.N X.env.scope scope own = true := by kernel_rfl) (hS : ∀ i ∈ S, i ∈ own.map (·.2) := by decide)
    (hs : ∀ x, foldedSetIterable iter X.env x = pure x := by intro _; rfl) :
    DE X ω ρ (.ListComp elt [⟨tg, iter, ifs, 0⟩] scope pos) (.dat (.list ((as.filter c).map f))) ω := by
  have key := de_comp (ifs := ifs) (elt := elt) (scope := scope) (pos := pos) (own := own) (g := g) (S := S) hc hN (blkOk_by ok) hi (fun _ => ω) (rAt ρb [] as) (cAt c as) (fAt f as) rfl (by rw [List.length_map]; exact hz) hS hg
    (fun k x hx => by
      rw [List.getElem?_map] at hx
      unfold rAt
      cases hk : as[k]? with
      | none => rw [hk] at hx; cases hx
      | some y => rw [hk] at hx; cases hx; exact hb y (List.mem_of_getElem? hk))
    (fun _ _ _ => rfl)
    (fun s H C cl fp k ωd hk => by
      rw [List.length_map] at hk
      have e := List.getElem?_eq_getElem hk
      unfold rAt cAt
      rw [e]
      exact ht s H C cl fp ωd _ (List.getElem_mem hk))
    (fun s H C cl fp k ωd hk h => by
      rw [List.length_map] at hk
      have e := List.getElem?_eq_getElem hk
      unfold cAt at h
      unfold rAt fAt
      rw [e] at h ⊢
      exact he s H C cl fp ωd _ (List.getElem_mem hk) h) hs
  rw [List.length_map, accD_eq] at key
  exact key
theorem dn_setM (i : Nat) {y : Str} {py spos : Pos} {g : TG} {S : List Nat} (own : List (Str × Nat)) {as : List α} {enc : α → Ent} (ρb : α → Rho) (c : α → Bool) (f : α → PyData) (hc : X.calm = true) (hN : X.N.Nodup) (hi : DI X tg ω ρ iter (as.map enc) ω) (hg : ∀ s H C cl fp, PG (BlkC X scope s H C cl fp) tg g)
    (hb : ∀ x ∈ as, Bnd X.K g S (enc x) (wipeR ρ (own.map (·.2))) (ρb x))
    (ht : ∀ s H C cl fp (ωd : Own) (x : α), x ∈ as → PTs (BlkC X scope s H C cl fp) ifs (tT (ω ++ ωd) (ρb x) (c x) (ω ++ ωd)))
    (he : ∀ s H C cl fp (ωd : Own) (x : α), x ∈ as → c x = true → DE (BlkC X scope s H C cl fp) (ω ++ ωd) (ρb x) elt (.dat (f x)) (ω ++ ωd)) (hz : as.length ≤ 1000 := by decide) (ok : blkC X.N X.env.scope scope own = true := by kernel_rfl) (hS : ∀ i ∈ S, i ∈ own.map (·.2) := by decide)
    (hy : X.N[i]? = some y := by rfl) (hyl : X.env.scope.names.lookup y = some .local := by rfl)
    (hsw : swapsWith (.ListComp elt [⟨tg, iter, ifs, 0⟩] scope pos) (some (.Name y py)) spos.line X.env = pure true := by exact sw_true rfl rfl rfl (by decide +kernel)) (hs : ∀ x, foldedSetIterable iter X.env x = pure x := by intro _; rfl) :
    DN X ω ρ (.Assign [.Name y py] (.ListComp elt [⟨tg, iter, ifs, 0⟩] scope pos) spos) ω (ρ.set i (some (.dat (.list ((as.filter c).map f))))) := by
  have key := dn_setC (ifs := ifs) (elt := elt) (scope := scope) (pos := pos) (py := py) (spos := spos) (own := own) (g := g) (S := S) i hc hN (blkOk_by ok) hi (fun _ => ω) (rAt ρb [] as) (cAt c as) (fAt f as) rfl (by rw [List.length_map]; exact hz) hS hg
    (fun k x hx => by
      rw [List.getElem?_map] at hx
      unfold rAt
      cases hk : as[k]? with
      | none => rw [hk] at hx; cases hx
      | some y => rw [hk] at hx; cases hx; exact hb y (List.mem_of_getElem? hk))
    (fun _ _ _ => rfl)
    (fun s H C cl fp k ωd hk => by
      rw [List.length_map] at hk
      have e := List.getElem?_eq_getElem hk
      unfold rAt cAt
      rw [e]
      exact ht s H C cl fp ωd _ (List.getElem_mem hk))
    (fun s H C cl fp k ωd hk h => by
      rw [List.length_map] at hk
      have e := List.getElem?_eq_getElem hk
      unfold cAt at h
      unfold rAt fAt
      rw [e] at h ⊢
      exact he s H C cl fp ωd _ (List.getElem_mem hk) h) hy hyl hsw hs
  rw [List.length_map, accD_eq] at key
  exact key
/-- the state goes on with each item: no test -/
theorem de_mapS {g : TG} {S : List Nat} (own : List (Str × Nat)) {xs : List Ent} (Ω : Nat → Own) (ρb : Nat → Rho) (f : Nat → PyData) (hc : X.calm = true) (hN : X.N.Nodup) (hi : DI X tg ω ρ iter xs ω1) (h0 : Ω 0 = ω1) (hg : ∀ s H C cl fp, PG (BlkC X scope s H C cl fp) tg g)
    (hb : ∀ k x, xs[k]? = some x → Bnd X.K g S x (wipeR ρ (own.map (·.2))) (ρb k))
    (he : ∀ s H C cl fp (k : Nat) (ωd : Own), k < xs.length → DE (BlkC X scope s H C cl fp) (Ω k ++ ωd) (ρb k) elt (.dat (f k)) (Ω (k + 1) ++ ωd)) (hz : xs.length ≤ 1000 := by decide) (ok : blkC X.N X.env.scope scope own = true := by kernel_rfl) (hS : ∀ i ∈ S, i ∈ own.map (·.2) := by decide)
    (hs : ∀ x, foldedSetIterable iter X.env x = pure x := by intro _; rfl) :
    DE X ω ρ (.ListComp elt [⟨tg, iter, [], 0⟩] scope pos) (.dat (.list ((List.range xs.length).map f))) (Ω xs.length) := by
  have key := de_comp (ifs := []) (elt := elt) (scope := scope) (pos := pos) (own := own) (g := g) (S := S) hc hN (blkOk_by ok) hi Ω ρb (fun _ => true) f h0 hz hS hg hb (fun _ _ h => nomatch h) (fun s H C cl fp k ωd hk => dts_nil) (fun s H C cl fp k ωd hk _ => he s H C cl fp k ωd hk) hs
  have e : accD (fun _ => true) f xs.length = (List.range xs.length).map f := by unfold accD; rw [List.filter_eq_self.mpr fun _ _ => rfl]
  rw [e] at key
  exact key
/-- while -/
theorem dn_while {c : Expr} {body : List Stmt} (n : Nat) (Ω : Nat → Own) (P : Nat → Rho) (hp : PassesOwn (model X.prog X.w) X.A X.env X.xe) (h0 : Ω 0 = ω) (h1 : P 0 = ρ) (hc : ∀ k, k ≤ n → DT X (Ω k) (P k) c (decide (k < n)) (Ω k)) (hb : ∀ k, k < n → DNs X (Ω k) (P k) body (Ω (k + 1)) (P (k + 1))) :
    DN X ω ρ (.While c body [] pos) (Ω n) (P n) := by
  have hcc : PT X c (fun σ H Q => ∃ k : Nat, k ≤ n ∧ tT (Ω k) (P k) (decide (k < n)) (Ω k) σ H Q) := ⟨fun pins s σ H Q I ⟨k, hk, q⟩ => (hc k hk).run pins s σ H Q I q⟩
  have hbb : PSs X body (fun D σ H => ∃ k : Nat, k < n ∧ tN (Ω k) (P k) (Ω (k + 1)) (P (k + 1)) D σ H) := pss_ex (p := fun k => k < n) (t := fun k => tN (Ω k) (P k) (Ω (k + 1)) (P (k + 1))) fun k hk => hb k hk
  refine ps_w (ps_while hp hcc hbb) fun D σ H ⟨hE, q⟩ => ?_
  refine ⟨fun m σ' H' => ∃ k, k ≤ n ∧ m = n - k ∧ Xt ω H (Ω k) H' ∧ EOk (Ω k) (P k) σ' H', ⟨n, 0, Nat.zero_le _, rfl, by rw [h0]; exact .refl hE.own, by rw [h0, h1]; exact hE⟩, ?_⟩
  rintro m σ' H' ⟨k, hk, rfl, x, E⟩
  refine ⟨k, hk, E, fun H1 x1 => ?_⟩
  by_cases hlt : k < n
  · rw [decide_eq_true hlt]
    refine iteT ⟨fun σ2 H2 => Xt ω H (Ω (k + 1)) H2 ∧ EOk (Ω (k + 1)) (P (k + 1)) σ2 H2, fun σ2 H2 ⟨x2, E2⟩ => ⟨n - (k + 1), by omega, k + 1, hlt, rfl, x2, E2⟩, k, hlt, E.xt x1, fun σ2 H2 x2 E2 => ⟨x.trans (x1.trans x2), E2⟩⟩
  · rw [decide_eq_false hlt]
    have e : k = n := by omega
    subst e
    exact iteF (q σ' H1 (x.trans x1) (E.xt x1))
end
end DL

set_option Elab.async false
set_option linter.all false
set_option maxRecDepth 100000
set_option maxHeartbeats 2000000
namespace CB
open PySem PySem.Spec
theorem mro_cb : mroOf (.type "itertools.combinations") = pure [.type "itertools.combinations", .type "object"] := by
  rw [mroOf_type]
  kernel_rfl
theorem new_cb : typeLookup (.type "itertools.combinations") "__new__" = pure (some (.builtin "itertools.combinations.__new__")) := by
  rw [typeLookup_type, builtinLookup_eq_fast]
  kernel_rfl
theorem init_cb : Slot "itertools.combinations" "__init__" "object.__init__" := by
  refine .of (owner := "object") (n := "__init__") ?_ (by decide +kernel) (by decide +kernel) (by decide +kernel) ?_ ?_
  · rw [typeLookup_type, builtinLookup_eq_fast]
    kernel_rfl
  · first | exact .inl (by decide +kernel) | exact .inr (by decide +kernel)
  · rw [isSubtype_type]
    kernel_rfl
theorem sub_cb : isSubtype (.type "itertools.combinations") (.type "itertools.combinations") = pure true := by
  rw [isSubtype_type]
  kernel_rfl
theorem called_cb : TypeCalled "itertools.combinations" "itertools.combinations.__new__" "object.__init__" :=
  ⟨by decide +kernel, by decide +kernel, ⟨_, _, mro_cb⟩, madeBy_type mro_cb new_cb (by decide +kernel), by decide +kernel, sub_cb, init_cb⟩
theorem tcall_cb (a b : Value) : checkTypeCall "itertools.combinations" ⟨[a, b], []⟩ = pure () := by kernel_rfl
theorem ncall_cb (a b : Value) : checkBuiltinCall "itertools.combinations.__new__" ⟨[.type "itertools.combinations", a, b], []⟩ = pure () := by kernel_rfl
theorem enew_cb : entryFor table "itertools.combinations.__new__" = some Builtin.«itertools.combinations.__new__» := entryFor_of_tree (by kernel_rfl)
theorem iter_cb : Slot "itertools.combinations" "__iter__" "itertools.combinations.__iter__" := by
  refine .of (owner := "itertools.combinations") (n := "__iter__") ?_ (by decide +kernel) (by decide +kernel) (by decide +kernel) ?_ sub_cb
  · rw [typeLookup_type, builtinLookup_eq_fast]
    kernel_rfl
  · first | exact .inl (by decide +kernel) | exact .inr (by decide +kernel)
theorem next_cb : Slot "itertools.combinations" "__next__" "itertools.combinations.__next__" := by
  refine .of (owner := "itertools.combinations") (n := "__next__") ?_ (by decide +kernel) (by decide +kernel) (by decide +kernel) ?_ sub_cb
  · rw [typeLookup_type, builtinLookup_eq_fast]
    kernel_rfl
  · first | exact .inl (by decide +kernel) | exact .inr (by decide +kernel)
theorem eiter_cb : entryFor table "itertools.combinations.__iter__" = some Builtin.«dict_keyiterator.__iter__» := by
  refine entryFor_alias (id' := "dict_keyiterator.__iter__") (by kernel_rfl) ?_ (by decide +kernel) (by kernel_rfl)
  first | rfl | decide +kernel | (unfold String.splitOn; simp +decide [String.splitOnAux])
theorem enext_cb : entryFor table "itertools.combinations.__next__" = some Builtin.«itertools.combinations.__next__» := entryFor_of_tree (by kernel_rfl)
def revTC : List Char := ['s', 'n', 'o', 'i', 't', 'a', 'n', 'i', 'b', 'm', 'o', 'c', '.', 's', 'l', 'o', 'o', 't', 'r', 'e', 't', 'i']
theorem owner_cb : Manifest.owners.lookup (String.ofList revTC.reverse) = some Manifest.sig_itertools_combinations := by kernel_rfl
theorem aiter_cb (a : Value) : argsOk "itertools.combinations.__iter__" ⟨[a], []⟩ := by
  unfold argsOk
  rw [signature?_of (id := "itertools.combinations.__iter__") (n := ['_', '_', 'r', 'e', 't', 'i', '_', '_']) (o := revTC) (by kernel_rfl) owner_cb]
  kernel_rfl
theorem anext_cb (a : Value) : argsOk "itertools.combinations.__next__" ⟨[a], []⟩ := by
  unfold argsOk
  rw [signature?_of (id := "itertools.combinations.__next__") (n := ['_', '_', 't', 'x', 'e', 'n', '_', '_']) (o := revTC) (by kernel_rfl) owner_cb]
  kernel_rfl
theorem noDict_cb : typeHasDict (.type "itertools.combinations") = false := by decide +kernel
theorem noLen_cb : typeLookup (.type "itertools.combinations") "__len__" = pure none := by
  rw [typeLookup_type, builtinLookup_eq_fast]
  kernel_rfl
theorem noHint_cb : typeLookup (.type "itertools.combinations") "__length_hint__" = pure none := by
  rw [typeLookup_type, builtinLookup_eq_fast]
  kernel_rfl
end CB

set_option Elab.async false
set_option linter.all false
set_option maxRecDepth 10000
set_option maxHeartbeats 400000
namespace CB
open PySem PySem.Spec PyProof.Rows
theorem bind_named (prog : Program) (w : World) (A : Around) (E : Value → Shared → Prop) (a b : Value) (s : Shared) (Q : List (Option Value) → Shared → Prop) (h : Q [some a, some b] s) :
    wpAny (model prog w) A (Builtin.Itertools.itBindNamed "combinations" ["iterable", "r"] 2 2 [a, b] []) Q E s := by
  have e : Builtin.Itertools.itBindNamed "combinations" ["iterable", "r"] 2 2 [a, b] [] = pure [some a, some b] := by rfl
  rw [e]
  exact wpAny_pure h
theorem class_rest (prog : Program) (w : World) (A : Around) (E : Value → Shared → Prop) (a b : Value) (s : Shared) (Q : Value × List Value → Shared → Prop) (h : Q (.type "itertools.combinations", [a, b]) s) :
    wpAny (model prog w) A (Builtin.Itertools.itClassAndRest "combinations" ⟨[.type "itertools.combinations", a, b], []⟩) Q E s := by
  have hsub : isSubtype (.type "itertools.combinations") (.type ("itertools." ++ "combinations")) = pure true := sub_cb
  unfold Builtin.Itertools.itClassAndRest
  repeat (first | exact h | wp_step)
theorem ssize (prog : Program) (w : World) (A : Around) (E : Value → Shared → Prop) (k : Nat) (tk : Tok) (s : Shared) (Q : Int → Shared → Prop) (hk : k ≤ 1000) (h : Q k s) :
    wpAny (model prog w) A (Builtin.Itertools.itSsizeArg (.int k tk)) Q E s := by
  unfold Builtin.Itertools.itSsizeArg
  iterate 3 (first | wp_step)
  refine wpAny_of_eq (a := some (k : Int)) rfl ?_
  dsimp only
  refine wpAny_pure ?_
  have e : (decide ((k : Int) < -2 ^ 63) || decide ((k : Int) ≥ 2 ^ 63)) = false := by
    rw [decide_eq_false (show ¬ (k : Int) < -2 ^ 63 by omega), decide_eq_false (show ¬ (k : Int) ≥ 2 ^ 63 by omega)]
    rfl
  rw [e]
  exact wpAny_pure h
theorem new_record (prog : Program) (w : World) (A : Around) (E : Value → Shared → Prop) (fs : List Value) (s : Shared) (Q : Value → Shared → Prop) (hz : fs.length ≤ 100)
    (h : Q (.ref s.heap.objs.size) { s with heap := s.heap.push { cls := .type "itertools.combinations", data := .fields fs.toArray } }) :
    wpAny (model prog w) A (Builtin.Itertools.itNewRecord (.type "itertools.combinations") fs) Q E s := by
  unfold Builtin.Itertools.itNewRecord
  rw [noDict_cb]
  exact wpAny_newObj_type h (by first | trivial | (simp [sizeOk]; done) | (show fs.toArray.size ≤ _; rw [List.size_toArray]; exact Nat.le_trans hz (by decide)))
section
variable {prog : Program} {w : World} {A : Around} {E : Value → Shared → Prop} {s : Shared}
/-- what a range holds, gathered -/
theorem collect_rng {r : Addr} {a b c : Int} {t u v : Tok} {n : Nat} {Q : List Value → Shared → Prop} (hh : A.handled = none) (hr : IsRange s.heap r a b c t u v) (hsmall : Builtin.Range.small a b c = true)
    (hn : Builtin.Range.rangeSize a b c = n) (hlen : n ≤ 2 ^ 24) (hQ : ∀ h' tk acc, (∀ x o, s.heap.get? x = some o → h'.get? x = some o) → s.heap.objs.size < h'.objs.size → ItemsOf (fun i v => ∃ t, v = .int (a + i * c) t) acc n → Q acc.toList { s with heap := h', toks := tk }) :
    wpAny (model prog w) A (collect (.ref r)) Q E s := by
  unfold collect
  refine wpAny_bind (wpAny_runValue (codeAny_builtin F.entry_proto_collect ?_))
  rw [Around.under_plainId F.plain_proto_collect _]
  show wpAny _ A.in1 (newList [] >>= _) _ _ s
  refine wpAny_bind (wpAny_newObj_type ?_)
  refine wpAny_pure ⟨plainId_quiet F.plain_list_iadd _, codeAny_builtin F.entry_list_iadd ?_⟩
  rw [Around.under_plainId F.plain_list_iadd _]
  show wpAny _ A.in1 (Builtin.List.listExtendWith (.ref s.heap.objs.size) (.ref r) (.ref s.heap.objs.size)) _ _ _
  have hlt : r < s.heap.objs.size := Heap.lt_size hr
  have hr2 : IsRange (s.heap.push { cls := .type "list", data := .seq ([] : List Value).toArray }) r a b c t u v := Heap.get?_push_of_some _ hr
  have hS : (s.heap.push { cls := .type "list", data := .seq ([] : List Value).toArray }).get? s.heap.objs.size = some { cls := .type "list", data := .seq ([] : List Value).toArray } := Heap.get?_push_size _ rfl
  refine wpAny_extend_range (R := wants _ E) (s := { s with heap := s.heap.push { cls := .type "list", data := .seq ([] : List Value).toArray } }) hh hr2 hsmall hn hlen s.heap.objs.size (.ref s.heap.objs.size) 0 hS fun h' tk acc c' hk hS' hacc => ?_
  show wpAny _ A (load s.heap.objs.size >>= _) _ _ _
  refine wpAny_bind (wpAny_load hS' (wpAny_pure ?_))
  exact hQ h' tk acc (fun x o e => hk x o (Nat.ne_of_lt (Heap.lt_size e)) (Heap.get?_push_of_some _ e)) (Heap.lt_size hS') hacc

/-- a combinations object: the pool's address, the state, the tuple handed out last, the places -/
abbrev IsCb (h : Heap) (it : Addr) (pool : Addr) (st : Int) (last : Value) (ix : List Nat) : Prop :=
  h.get? it = some { cls := .type "itertools.combinations", dict := none, data := .fields (([.ref pool, rawInt st, last] ++ ix.map fun (i : Nat) => rawInt i).toArray), slots := #[] }
theorem meets_new (r : Addr) (a b c : Int) (t u v : Tok) (n : Nat) (k : Nat) (tk : Tok) (hsmall : Builtin.Range.small a b c = true) (hn : Builtin.Range.rangeSize a b c = n) (hlen : n ≤ 2 ^ 20) (hk : k ≤ n) (hk3 : k ≤ 90) :
    Meets (Builtin.«itertools.combinations.__new__» ⟨[.type "itertools.combinations", .ref r, .int k tk], []⟩)
      (fun A R s => A.handled = none ∧ IsRange s.heap r a b c t u v ∧ ∀ h' tk its pool it, (∀ x o, s.heap.get? x = some o → h'.get? x = some o) → ItemsOf (fun i v => ∃ t, v = .int (a + i * c) t) its n → s.heap.objs.size ≤ pool → s.heap.objs.size ≤ it → pool ≠ it →
        IsCb h' it pool 0 .none (List.range k) → IsTup h' pool its → R (.ok (.ret (.ref it))) { s with heap := h', toks := tk }) :=
  .of_wp fun prog w A R s h => by
    obtain ⟨hh, hr, h⟩ := h
    show wpAny _ _ (_ >>= _) _ _ _
    refine wpAny_bind ?_
    wp_delta
    refine wpAny_bind (class_rest _ _ _ _ _ _ _ _ ?_)
    dsimp only
    refine wpAny_bind (bind_named _ _ _ _ _ _ _ _ ?_)
    dsimp only
    refine wpAny_bind (ssize _ _ _ _ k tk _ _ (by omega) ?_)
    refine wpAny_bind (collect_rng hh hr hsmall hn (Nat.le_trans hlen (by decide)) fun h' tk acc hkp hlt hacc => ?_)
    rw [if_neg (show ¬ (k : Int) < 0 by omega)]
    have htm : Builtin.Itertools.itTooMany (k : Int) = false := by
      unfold Builtin.Itertools.itTooMany
      exact decide_eq_false (by omega)
    rw [htm]
    refine wpAny_bind (wpAny_newTuple (wpAny_pure ?_) ?_)
    · dsimp only
      have ez : acc.toList.length = n := by rw [Array.length_toList]; exact hacc.1
      rw [ez, Int.toNat_natCast, if_neg (show ¬ k > n by omega)]
      refine wpAny_bind (new_record _ _ _ _ _ _ _ (by simp; omega) (wpAny_pure ⟨_, rfl, ?_⟩))
      have e1 : (h'.push { cls := .type "tuple", data := .seq acc.toList.toArray }).objs.size = h'.objs.size + 1 := Heap.size_push ..
      refine h _ tk acc h'.objs.size _ (fun x o e => Heap.get?_push_of_some _ (Heap.get?_push_of_some _ (hkp x o e))) hacc (Nat.le_of_lt hlt) ?_ ?_ ?_ ?_
      · show _ ≤ (h'.push { cls := .type "tuple", data := .seq acc.toList.toArray }).objs.size
        omega
      · show h'.objs.size ≠ (h'.push { cls := .type "tuple", data := .seq acc.toList.toArray }).objs.size
        omega
      · exact Heap.get?_push_size _ rfl
      · exact ⟨_, Heap.get?_push_of_some _ (Heap.get?_push_size _ rfl), rfl, 0, by simp⟩
    · rw [Array.length_toList, hacc.1]
      exact Nat.le_trans hlen (by decide)
/-- combinations(range(..), k) -/
theorem call_cb {r : Addr} {a b c : Int} {t u v : Tok} {n k : Nat} {tk : Tok} {Q : Value → Shared → Prop} (hh : A.handled = none) (hr : IsRange s.heap r a b c t u v) (hsmall : Builtin.Range.small a b c = true) (hn : Builtin.Range.rangeSize a b c = n) (hlen : n ≤ 2 ^ 20) (hk : k ≤ n) (hk3 : k ≤ 90)
    (hQ : ∀ h' tk its pool it, (∀ x o, s.heap.get? x = some o → h'.get? x = some o) → ItemsOf (fun i v => ∃ t, v = .int (a + i * c) t) its n → s.heap.objs.size ≤ pool → s.heap.objs.size ≤ it → pool ≠ it →
        IsCb h' it pool 0 .none (List.range k) → IsTup h' pool its → Q (.ref it) { s with heap := h', toks := tk }) :
    wpAny (model prog w) A (call (.type "itertools.combinations") [.ref r, .int k tk]) Q E s := by
  refine callType_new called_cb (by decide +kernel) (tcall_cb _ _) (ncall_cb _ _) (fun obj => F.args_object_init_3 obj _ _) enew_cb (meets_new r a b c t u v n k tk hsmall hn hlen hk hk3) ⟨hh, hr, fun h' tk its pool it h1 h2 h3 h4 h5 h6 h7 => ?_⟩
  exact ⟨⟨_, h6, rfl⟩, hQ h' tk its pool it h1 h2 h3 h4 h5 h6 h7⟩
end
end CB

set_option Elab.async false
set_option linter.all false
set_option maxRecDepth 20000
set_option maxHeartbeats 2000000
namespace CB
open PySem PySem.Spec PyProof.Rows
/-- the choices of r of some things, in order -/
def choose : List Nat → Nat → List (List Nat)
  | _, 0 => [[]]
  | [], _ + 1 => []
  | x :: xs, r + 1 => (choose xs r).map (x :: ·) ++ choose xs (r + 1)
def chain (step : Nat → List Nat → Option (List Nat)) (n : Nat) : List (List Nat) → Bool
  | [] => true
  | [x] => step n x == none
  | x :: y :: r => step n x == some y && chain step n (y :: r)
/-- what one turn of a combinations object does -/
structure Turns (B : Builtin) (step : Nat → List Nat → Option (List Nat)) : Prop where
  item : ∀ (prog : Program) (w : World) (A : Around) (E : Value → Shared → Prop) (s : Shared) (it pool : Addr) (st : Int) (last : Value) (ix nx : List Nat) (its : Array Value) (Q : Fin → Shared → Prop),
    IsCb s.heap it pool st last ix → IsTup s.heap pool its → ((st = 0 ∧ nx = ix) ∨ (st = 1 ∧ step its.size ix = some nx)) → nx.length ≤ 90 →
    (∀ h', IsCb h' it pool 1 (.ref s.heap.objs.size) nx → h'.get? s.heap.objs.size = some { cls := .type "tuple", data := .seq (nx.map fun i => its.getD i .none).toArray } → (∀ b o, b ≠ it → s.heap.get? b = some o → h'.get? b = some o) → Q (.done (.ret (.ref s.heap.objs.size))) { s with heap := h' }) →
    wpAny (model prog w) A (B ⟨[.ref it], []⟩) Q E s
  done : ∀ (prog : Program) (w : World) (A : Around) (E : Value → Shared → Prop) (s : Shared) (it pool : Addr) (last : Value) (ix : List Nat) (its : Array Value) (Q : Fin → Shared → Prop),
    A.handled = none → IsCb s.heap it pool 1 last ix → IsTup s.heap pool its → step its.size ix = none →
    (∀ h' e, (∃ o, h'.get? e = some o ∧ o.cls = .type "StopIteration") → (∀ b o, b ≠ it → s.heap.get? b = some o → h'.get? b = some o) → E (.ref e) { s with heap := h' }) →
    wpAny (model prog w) A (B ⟨[.ref it], []⟩) Q E s
theorem nums (g : Value → Nat) (hg : ∀ i : Nat, g (rawInt i) = i) (ix : List Nat) : (ix.map fun (i : Nat) => rawInt i).map g = ix := by
  induction ix with
  | nil => rfl
  | cons x r ih => rw [List.map_cons, List.map_cons, ih, hg]
section
variable {prog : Program} {w : World} {A : Around} {E : Value → Shared → Prop} {s : Shared} {it pool : Addr} {st : Int} {last : Value} {ix nx : List Nat}
theorem numbers {Q : List Nat → Shared → Prop} (hit : IsCb s.heap it pool st last ix) (h : Q ix s) : wpAny (model prog w) A (Builtin.Itertools.itNumbersFrom (.ref it) 3) Q E s := by
  unfold Builtin.Itertools.itNumbersFrom
  refine wpAny_bind (wpAny_load hit ?_)
  refine wpAny_pure ?_
  have e : (List.drop 3 (([Value.ref pool, rawInt st, last] ++ ix.map fun (i : Nat) => rawInt i).toArray).toList) = ix.map fun (i : Nat) => rawInt i := by simp
  show Q (List.map _ (List.drop 3 (([Value.ref pool, rawInt st, last] ++ ix.map fun (i : Nat) => rawInt i).toArray).toList)) s
  rw [e, nums _ fun i => rfl]
  exact h
theorem set_numbers {Q : Unit → Shared → Prop} (hit : IsCb s.heap it pool st last ix) (hl : nx.length ≤ 90) (h : ∀ h', IsCb h' it pool st last nx → Heap.SameBut it s.heap h' → Q () { s with heap := h' }) : wpAny (model prog w) A (Builtin.Itertools.itSetNumbersFrom (.ref it) 3 nx) Q E s := by
  unfold Builtin.Itertools.itSetNumbersFrom
  refine wpAny_updateFields hit rfl (h _ ?_ (Heap.SameBut.update ..)) ?_
  · have e : ((([Value.ref pool, rawInt st, last] ++ ix.map fun (i : Nat) => rawInt i).toArray).extract 0 3 ++ (nx.map fun (n : Nat) => rawInt n).toArray) = ([Value.ref pool, rawInt st, last] ++ nx.map fun (i : Nat) => rawInt i).toArray := by simp
    have := Heap.get?_update_self (Obj.mapFields fun fs => fs.extract 0 3 ++ (nx.map fun (n : Nat) => rawInt n).toArray) hit rfl
    refine this.trans ?_
    show some ({ cls := _, dict := _, data := .fields (((([Value.ref pool, rawInt st, last] ++ ix.map fun (i : Nat) => rawInt i).toArray).extract 0 3 ++ (nx.map fun (n : Nat) => rawInt n).toArray)), slots := _ } : Obj) = _
    rw [e]
  · have : ((([Value.ref pool, rawInt st, last] ++ ix.map fun (i : Nat) => rawInt i).toArray).extract 0 3 ++ (nx.map fun (n : Nat) => rawInt n).toArray).size = 3 + nx.length := by simp; omega
    rw [this]
    exact Nat.le_trans (show 3 + nx.length ≤ 100 by omega) (by decide)
theorem set_field {Q : Unit → Shared → Prop} (k : Nat) (x : Value) (st' : Int) (last' : Value) (hit : IsCb s.heap it pool st last ix) (hk : (k = 1 ∧ x = rawInt st' ∧ last' = last) ∨ (k = 2 ∧ x = last' ∧ st' = st))
    (h : ∀ h', IsCb h' it pool st' last' ix → Heap.SameBut it s.heap h' → Q () { s with heap := h' }) : wpAny (model prog w) A (setField (.ref it) k x) Q E s := by
  refine wpAny_setField_rec hit (by rcases hk with ⟨rfl, _⟩ | ⟨rfl, _⟩ <;> simp) fun h' e sb => h h' ?_ sb
  rcases hk with ⟨rfl, rfl, rfl⟩ | ⟨rfl, rfl, rfl⟩
  · show h'.get? it = _
    rw [e]
    congr 3
  · show h'.get? it = _
    rw [e]
    congr 3
theorem pool_items {o : Obj} {its : Array Value} {n : Nat} {Q : Array Value → Shared → Prop} (hp : s.heap.get? pool = some o) (hd : o.data = .seq its n) (h : Q its s) : wpAny (model prog w) A (Builtin.Itertools.itPoolItems (.ref pool)) Q E s := by
  unfold Builtin.Itertools.itPoolItems
  refine wpAny_bind (wpAny_seqItems hp hd ?_)
  exact wpAny_pure h
theorem int_field {Q : Int → Shared → Prop} (hit : IsCb s.heap it pool st last ix) (h : Q st s) : wpAny (model prog w) A (Builtin.Itertools.itIntField (.ref it) 1) Q E s := by
  unfold Builtin.Itertools.itIntField
  refine wpAny_bind (wpAny_field hit rfl (x := rawInt st) (by simp) ?_)
  exact wpAny_pure h
end
theorem shape : ∃ (mk : (Nat → List Nat → Option (List Nat)) → Builtin) (step : Nat → List Nat → Option (List Nat)), Builtin.«itertools.combinations.__next__» = mk step ∧ (∀ f, Turns (mk f) f) ∧
    ∀ n ∈ [2, 3, 4], ∀ r ∈ [1, 2, 3, 4], r ≤ n → chain step n (choose (List.range n) r) = true := by
  refine ⟨_, _, rfl, fun f => ⟨?_, ?_⟩, by decide +kernel⟩
  · intro prog w A E s it pool st last ix nx its Q hit hp hst hl hQ
    obtain ⟨op, hop, hcp, np, hdp⟩ := id hp
    wp_delta
    refine wpAny_bind (wpAny_of_eq (a := (Value.ref it, [])) rfl ?_)
    dsimp only
    refine wpAny_bind (wpAny_field hit rfl (x := .ref pool) (by simp) ?_)
    refine wpAny_bind (numbers hit ?_)
    refine wpAny_bind (int_field hit ?_)
    have npi : pool ≠ it := fun z => by
      rw [z, hit] at hop
      cases hop
      simp at hcp
    have hand : ∀ (h1 : Heap) (last1 : Value), IsCb h1 it pool 1 last1 nx → Heap.SameBut it s.heap h1 → wpAny (model prog w) A (newTuple (nx.map fun i => its.getD i .none)) (fun v s' => wpAny (model prog w) A (do
          let before ← field (.ref it) 2
          setField (.ref it) 2 v
          letGo [before] [v]
          ret v) Q E s') E { s with heap := h1 } := by
      intro h1 last1 hc sb
      have hz : h1.objs.size = s.heap.objs.size := sb.1
      have hlt : it < h1.objs.size := Heap.lt_size hc
      refine wpAny_newTuple ?_ (by rw [List.length_map]; exact Nat.le_trans hl (by decide))
      have hc2 : IsCb (h1.push { cls := .type "tuple", data := .seq (nx.map fun i => its.getD i .none).toArray }) it pool 1 last1 nx := Heap.get?_push_of_some _ hc
      refine wpAny_bind (wpAny_field hc2 rfl (x := last1) (by simp) ?_)
      refine wpAny_bind (set_field (st := 1) 2 (.ref h1.objs.size) 1 (.ref h1.objs.size) hc2 (.inr ⟨rfl, rfl, rfl⟩) fun h3 hc3 sb3 => ?_)
      refine wpAny_bind (wpAny_letGo (wpAny_pure ?_))
      have hq := hQ h3
      rw [← hz] at hq
      refine hq hc3 ?_ fun b o nb e => ?_
      · exact (sb3.2 _ (Nat.ne_of_gt hlt)).trans (Heap.get?_push_size _ rfl)
      · exact (sb3.2 _ nb).trans (Heap.get?_push_of_some _ ((sb.2 _ nb).trans e))
    rcases hst with ⟨rfl, rfl⟩ | ⟨rfl, hf⟩
    · show wpAny _ _ (setField (.ref it) 1 (rawInt 1) >>= _) _ _ _
      refine wpAny_bind (set_field 1 (rawInt 1) 1 last hit (.inl ⟨rfl, rfl, rfl⟩) fun h1 hc sb => ?_)
      refine wpAny_bind ?_
      wp_delta
      exact wpAny_bind (pool_items ((sb.2 _ npi).trans hop) hdp (hand h1 last hc sb))
    · show wpAny _ _ (Builtin.Itertools.itPoolItems (.ref pool) >>= _) _ _ _
      refine wpAny_bind (pool_items hop hdp ?_)
      rw [hf]
      refine wpAny_bind (set_numbers hit hl fun h1 hc sb => ?_)
      refine wpAny_bind ?_
      wp_delta
      exact wpAny_bind (pool_items ((sb.2 _ npi).trans hop) hdp (hand h1 last hc sb))
  · intro prog w A E s it pool last ix its Q hh hit hp hf hE
    obtain ⟨op, hop, hcp, np, hdp⟩ := id hp
    wp_delta
    refine wpAny_bind (wpAny_of_eq (a := (Value.ref it, [])) rfl ?_)
    dsimp only
    refine wpAny_bind (wpAny_field hit rfl (x := .ref pool) (by simp) ?_)
    refine wpAny_bind (numbers hit ?_)
    refine wpAny_bind (int_field hit ?_)
    show wpAny _ _ (Builtin.Itertools.itPoolItems (.ref pool) >>= _) _ _ _
    refine wpAny_bind (pool_items hop hdp ?_)
    rw [hf]
    refine wpAny_bind (set_field (st := 1) 1 (rawInt 2) 2 last hit (.inl ⟨rfl, rfl, rfl⟩) fun h1 hc sb => ?_)
    unfold Builtin.Itertools.itStop
    refine wpAny_bind ?_
    simp only [newExc, newTuple]
    refine wpAny_bind (wpAny_newObj_type ?_ (by size_fits))
    refine wpAny_bind (m := firstArgMember _ _) (wpAny_of_eq (a := Value.none) (by first | rfl | (simp only [firstArgMember]; rfl)) ?_)
    refine wpAny_newObj_type ?_ (by size_fits)
    simp only [raiseNew]
    refine wpAny_bind (wpAny_handled ?_)
    rw [hh]
    refine wpAny_bind (wpAny_pure (wpAny_throw ?_))
    exact hE _ _ ⟨_, Heap.get?_push_size _ rfl, rfl⟩ fun b o nb e => Heap.get?_push_of_some _ (Heap.get?_push_of_some _ ((sb.2 _ nb).trans e))
end CB

set_option Elab.async false
set_option linter.all false
set_option maxRecDepth 20000
set_option maxHeartbeats 2000000
namespace CB
open PySem PySem.Spec PyProof.Rows
theorem chain_at {step : Nat → List Nat → Option (List Nat)} {n : Nat} : ∀ {l : List (List Nat)} {k : Nat} {x : List Nat}, chain step n l = true → l[k]? = some x → step n x = l[k + 1]?
  | [], _, _, _, h => by simp at h
  | [y], 0, x, hc, h => by
    have e : y = x := by simpa using h
    subst e
    have hc : (step n y == none) = true := hc
    rw [beq_iff_eq] at hc
    rw [hc]; rfl
  | [y], k + 1, x, hc, h => by simp at h
  | y :: z :: r, 0, x, hc, h => by
    have e : y = x := by simpa using h
    subst e
    have hc : (step n y == some z && chain step n (z :: r)) = true := hc
    rw [Bool.and_eq_true, beq_iff_eq] at hc
    exact hc.1
  | y :: z :: r, k + 1, x, hc, h => by
    have hc : (step n y == some z && chain step n (z :: r)) = true := hc
    rw [Bool.and_eq_true] at hc
    exact chain_at (l := z :: r) (k := k) hc.2 (by simpa using h)
/-- the state of a combinations object behind k turns -/
def Cst (n r : Nat) (it pool : Addr) (its : Array Value) (k : Nat) (h : Heap) : Prop :=
  its.size = n ∧ IsTup h pool its ∧ ∃ st last ix, IsCb h it pool st last ix ∧ ((k = 0 ∧ st = 0 ∧ (choose (List.range n) r)[0]? = some ix) ∨ (1 ≤ k ∧ st = 1 ∧ (choose (List.range n) r)[k - 1]? = some ix))
theorem Cst.keep {n r : Nat} {it pool : Addr} {its : Array Value} {k : Nat} {h h' : Heap} (c : Cst n r it pool its k h) (k1 : ∀ o, h.get? it = some o → h'.get? it = some o) (k2 : ∀ o, h.get? pool = some o → h'.get? pool = some o) : Cst n r it pool its k h' := by
  obtain ⟨a, ⟨o, e, b⟩, st, last, ix, e2, d⟩ := c
  exact ⟨a, ⟨o, k2 o e, b⟩, st, last, ix, k1 _ e2, d⟩
theorem Cst.ne {n r : Nat} {it pool : Addr} {its : Array Value} {k : Nat} {h : Heap} (c : Cst n r it pool its k h) : pool ≠ it := fun z => by
  obtain ⟨a, ⟨o, e, b, _⟩, st, last, ix, e2, d⟩ := c
  rw [z, e2] at e
  cases e
  simp at b
structure Small (n r : Nat) : Prop where
  hn : n ∈ [2, 3, 4]
  hr : r ∈ [1, 2, 3, 4]
  le : r ≤ n
theorem Small.first {n r : Nat} (h : Small n r) : (choose (List.range n) r)[0]? = some (List.range r) := by
  have key : ∀ n ∈ [2, 3, 4], ∀ r ∈ [1, 2, 3, 4], r ≤ n → (choose (List.range n) r)[0]? = some (List.range r) := by decide
  exact key n h.hn r h.hr h.le
theorem Small.len {n r : Nat} (h : Small n r) : ∀ x ∈ choose (List.range n) r, x.length = r ∧ ∀ i ∈ x, i < n := by
  have key : ∀ n ∈ [2, 3, 4], ∀ r ∈ [1, 2, 3, 4], r ≤ n → ∀ x ∈ choose (List.range n) r, x.length = r ∧ ∀ i ∈ x, i < n := by decide
  exact key n h.hn r h.hr h.le
theorem Small.few {n r : Nat} (h : Small n r) : (choose (List.range n) r).length ≤ 6 := by
  have key : ∀ n ∈ [2, 3, 4], ∀ r ∈ [1, 2, 3, 4], r ≤ n → (choose (List.range n) r).length ≤ 6 := by decide
  exact key n h.hn r h.hr h.le
theorem Small.n4 {n r : Nat} (h : Small n r) : n ≤ 4 := by
  have key : ∀ n ∈ [2, 3, 4], n ≤ 4 := by decide
  exact key n h.hn
theorem Small.r4 {n r : Nat} (h : Small n r) : r ≤ 4 := Nat.le_trans h.le h.n4
section
variable {prog : Program} {w : World} {A : Around} {E : Value → Shared → Prop} {s : Shared} {it pool : Addr} {its : Array Value} {n r k : Nat}
theorem cb_item {nx : List Nat} {Q : Option Value → Shared → Prop} (sm : Small n r) (c : Cst n r it pool its k s.heap) (hk : (choose (List.range n) r)[k]? = some nx)
    (hQ : ∀ h', Cst n r it pool its (k + 1) h' → h'.get? s.heap.objs.size = some { cls := .type "tuple", data := .seq (nx.map fun i => its.getD i .none).toArray } → (∀ b o, b ≠ it → s.heap.get? b = some o → h'.get? b = some o) → Q (some (.ref s.heap.objs.size)) { s with heap := h' }) :
    wpAny (model prog w) A (pyNext (.ref it)) Q E s := by
  have ne := c.ne
  obtain ⟨hz, hp, st, last, ix, hit, hst⟩ := c
  have hT : s.TypeIs (.ref it) "itertools.combinations" := ⟨_, hit, rfl⟩
  obtain ⟨mk, step, em, T, facts⟩ := shape
  have ch := facts n sm.hn r sm.hr sm.le
  have hl := sm.len nx (List.mem_of_getElem? hk)
  unfold pyNext
  refine wpAny_bind (wpAny_attempt (wpAny_callSpecial?_slot (name := Str.ofString "__next__") hT next_cb (wpAny_call_entry next_cb hT enext_cb ?_ (anext_cb _))))
  rw [em]
  refine (T step).item prog w _ _ s it pool st last ix nx its _ hit hp ?_ (by rw [hl.1]; exact Nat.le_trans sm.r4 (by decide)) fun h' c' ht kp => ?_
  · rcases hst with ⟨rfl, rfl, e⟩ | ⟨h1, rfl, e⟩
    · left
      rw [e] at hk
      exact ⟨rfl, (Option.some.inj hk).symm⟩
    · right
      refine ⟨rfl, ?_⟩
      rw [hz, chain_at ch e, Nat.sub_add_cancel h1]
      exact hk
  · refine ⟨_, rfl, ?_⟩
    refine wpAny_pure ?_
    obtain ⟨op, hop, hcp⟩ := hp
    exact hQ h' ⟨hz, ⟨op, kp _ _ ne hop, hcp⟩, 1, _, nx, c', .inr ⟨by omega, rfl, hk⟩⟩ ht kp
theorem cb_done {Q : Option Value → Shared → Prop} (hh : A.handled = none) (sm : Small n r) (c : Cst n r it pool its k s.heap) (hk : (choose (List.range n) r)[k]? = none)
    (hQ : ∀ h', (∀ b o, b ≠ it → s.heap.get? b = some o → h'.get? b = some o) → Q none { s with heap := h' }) : wpAny (model prog w) A (pyNext (.ref it)) Q E s := by
  obtain ⟨hz, hp, st, last, ix, hit, hst⟩ := c
  have hT : s.TypeIs (.ref it) "itertools.combinations" := ⟨_, hit, rfl⟩
  obtain ⟨mk, step, em, T, facts⟩ := shape
  have ch := facts n sm.hn r sm.hr sm.le
  unfold pyNext
  refine wpAny_bind (wpAny_attempt (wpAny_callSpecial?_slot (name := Str.ofString "__next__") hT next_cb (wpAny_call_entry next_cb hT enext_cb ?_ (anext_cb _))))
  rw [em]
  rcases hst with ⟨rfl, rfl, e⟩ | ⟨h1, rfl, e⟩
  · rw [e] at hk; cases hk
  · refine (T step).done prog w _ _ s it pool last ix its _ (by first | exact hh | (show A.in1.handled = none; exact hh)) hit hp ?_ fun h' e he kp => ?_
    · rw [hz, chain_at ch e, Nat.sub_add_cancel h1]
      exact hk
    · obtain ⟨o, ho, hc⟩ := he
      refine wpAny_bind (wpAny_isInstance (T := "StopIteration") (b := true) ⟨o, ho, hc⟩ isSubtype_stop ?_)
      exact wpAny_pure (hQ h' kp)
theorem cb_self {Q : Value → Shared → Prop} (c : Cst n r it pool its k s.heap) (h : Q (.ref it) s) : wpAny (model prog w) A (pyIter (.ref it)) Q E s := by
  obtain ⟨hz, hp, st, last, ix, hit, hst⟩ := c
  have hT : s.TypeIs (.ref it) "itertools.combinations" := ⟨_, hit, rfl⟩
  refine wpAny_pyIter_slot hT iter_cb (wpAny_call_entry iter_cb hT eiter_cb ?_ (aiter_cb _))
  show wpAny _ _ (ret (.ref it)) _ _ s
  exact wpAny_pure ⟨_, rfl, "itertools.combinations", _, hT, next_cb.lookup, h⟩
end
end CB

set_option Elab.async false
set_option linter.all false
set_option maxRecDepth 20000
set_option maxHeartbeats 2000000
namespace CB
open PySem PySem.Spec PyProof.Rows
abbrev cs (n r : Nat) : List (List Nat) := choose (List.range n) r
/-- the list that grows while a combinations object is drawn from -/
structure LInv (base : Heap) (n r : Nat) (it pool : Addr) (its : Array Value) (l : Addr) (k : Nat) (ts : List Addr) (h : Heap) : Prop where
  st : Cst n r it pool its k h
  lst : ∃ c, h.get? l = some { cls := .type "list", dict := none, data := .seq (ts.map Value.ref).toArray c, slots := #[] }
  len : ts.length = k
  at_ : ∀ (j : Nat) (T : Addr) (nx : List Nat), ts[j]? = some T → (cs n r)[j]? = some nx → base.objs.size ≤ T ∧ T ≠ l ∧ T ≠ it ∧ h.get? T = some { cls := .type "tuple", data := .seq (nx.map fun i => its.getD i .none).toArray }
  nd : ts.Nodup
  keep : ∀ b o, b ≠ it → b ≠ l → base.get? b = some o → h.get? b = some o
  ne : l ≠ it ∧ l ≠ pool
  big : base.objs.size ≤ h.objs.size
section
variable {prog : Program} {w : World} {A : Around} {E : Value → Shared → Prop} {R : Result → Shared → Prop} {it pool l : Addr} {its : Array Value} {n r : Nat} {base : Heap}
theorem LInv.step {k : Nat} {ts : List Addr} {h h1 h2 : Heap} {nx : List Nat} (sm : Small n r) (I : LInv base n r it pool its l k ts h) (hk : (cs n r)[k]? = some nx) (c1 : Cst n r it pool its (k + 1) h1)
    (ht : h1.get? h.objs.size = some { cls := .type "tuple", data := .seq (nx.map fun i => its.getD i .none).toArray }) (kp : ∀ b o, b ≠ it → h.get? b = some o → h1.get? b = some o) (sb : ∀ b, b ≠ l → h2.get? b = h1.get? b) (hz : h2.objs.size = h1.objs.size)
    (hl : ∃ c, h2.get? l = some { cls := .type "list", dict := none, data := .seq ((ts ++ [h.objs.size]).map Value.ref).toArray c, slots := #[] }) : LInv base n r it pool its l (k + 1) (ts ++ [h.objs.size]) h2 := by
  have hlt : h.objs.size < h1.objs.size := Heap.lt_size ht
  obtain ⟨c0, e0⟩ := I.lst
  have hll : l < h.objs.size := Heap.lt_size e0
  have hit : it < h.objs.size := by
    obtain ⟨_, _, _, _, _, e, _⟩ := I.st
    exact Heap.lt_size e
  refine ⟨c1.keep (fun o e => by rw [sb _ (Ne.symm I.ne.1)]; exact e) (fun o e => by rw [sb _ (Ne.symm I.ne.2)]; exact e), hl, by rw [List.length_append, I.len]; rfl, fun j T nx' hj hn => ?_, ?_, fun b o h1' h2' e => ?_, I.ne, ?_⟩
  · by_cases hjk : j < k
    · rw [List.getElem?_append_left (by rw [I.len]; exact hjk)] at hj
      obtain ⟨q1, q2, q3, q4⟩ := I.at_ j T nx' hj hn
      refine ⟨q1, q2, q3, ?_⟩
      rw [sb _ q2]
      exact kp _ _ q3 q4
    · rw [List.getElem?_append_right (by rw [I.len]; omega), I.len] at hj
      have hjz : j = k := by
        by_cases z : j - k = 0
        · omega
        · rw [List.getElem?_eq_none (by simp; omega)] at hj; cases hj
      subst hjz
      rw [Nat.sub_self] at hj
      have eT : h.objs.size = T := by simpa using hj
      rw [hk] at hn
      cases hn
      subst eT
      refine ⟨I.big, Nat.ne_of_gt hll, Nat.ne_of_gt hit, ?_⟩
      rw [sb _ (Nat.ne_of_gt hll)]
      exact ht
  · refine List.nodup_append.mpr ⟨I.nd, by simp, fun a ha b hb => ?_⟩
    have eb : b = h.objs.size := by simpa using hb
    subst eb
    obtain ⟨j, hj, e⟩ := List.getElem_of_mem ha
    have hjk : j < k := by rw [← I.len]; exact hj
    have hlen : j < (cs n r).length := by
      have := (List.getElem?_eq_some_iff.mp hk).1
      omega
    obtain ⟨_, _, _, q⟩ := I.at_ j a _ (by rw [List.getElem?_eq_getElem hj, e]) (List.getElem?_eq_getElem hlen)
    exact Nat.ne_of_lt (Heap.lt_size q)
  · rw [sb _ h2']
    exact kp _ _ h1' (I.keep b o h1' h2' e)
  · have := I.big
    omega
theorem LInv.last {k : Nat} {ts : List Addr} {h h1 : Heap} (I : LInv base n r it pool its l k ts h) (kp : ∀ b o, b ≠ it → h.get? b = some o → h1.get? b = some o) : (∀ b o, b ≠ it → b ≠ l → base.get? b = some o → h1.get? b = some o) ∧
    (∃ c, h1.get? l = some { cls := .type "list", dict := none, data := .seq (ts.map Value.ref).toArray c, slots := #[] }) ∧
    ∀ (j : Nat) (T : Addr) (nx : List Nat), ts[j]? = some T → (cs n r)[j]? = some nx → base.objs.size ≤ T ∧ T ≠ l ∧ h1.get? T = some { cls := .type "tuple", data := .seq (nx.map fun i => its.getD i .none).toArray } := by
  refine ⟨fun b o h1' h2' e => kp _ _ h1' (I.keep b o h1' h2' e), ?_, fun j T nx hj hn => ?_⟩
  · obtain ⟨c, e⟩ := I.lst
    exact ⟨c, kp _ _ I.ne.1 e⟩
  · obtain ⟨q1, q2, q3, q4⟩ := I.at_ j T nx hj hn
    exact ⟨q1, q2, kp _ _ q3 q4⟩
theorem list_loop (hh : A.handled = none) (sm : Small n r) (res : Value) : ∀ (m k : Nat) (s : Shared) (ts : List Addr), (cs n r).length - k = m → k ≤ (cs n r).length → LInv base n r it pool its l k ts s.heap →
    (∀ (h' : Heap) (ts' : List Addr), (∀ b o, b ≠ it → b ≠ l → base.get? b = some o → h'.get? b = some o) → (∃ c, h'.get? l = some { cls := .type "list", dict := none, data := .seq (ts'.map Value.ref).toArray c, slots := #[] }) → ts'.length = (cs n r).length → ts'.Nodup →
      (∀ (j : Nat) (T : Addr) (nx : List Nat), ts'[j]? = some T → (cs n r)[j]? = some nx → base.objs.size ≤ T ∧ T ≠ l ∧ h'.get? T = some { cls := .type "tuple", data := .seq (nx.map fun i => its.getD i .none).toArray }) → R (.ok (.ret res)) { s with heap := h' }) →
    codeAny (model prog w) A (.builtin "list.extend.loop" ⟨[.ref l, .ref it, res], []⟩) R s := by
  intro m
  induction m with
  | zero =>
    intro k s ts hm hk I hR
    have ek : k = (cs n r).length := by omega
    subst ek
    refine codeAny_builtin F.entry_extend_loop ?_
    rw [Around.under_plainId F.plain_extend_loop _]
    show wpAny _ A.in1 (pyNext (.ref it) >>= _) _ _ s
    refine wpAny_bind (cb_done (by first | exact hh | (show A.in1.handled = none; exact hh)) sm I.st (List.getElem?_eq_none (Nat.le_refl _)) fun h' kp => ?_)
    obtain ⟨q1, q2, q3⟩ := I.last kp
    exact wpAny_pure (hR h' ts q1 q2 I.len I.nd q3)
  | succ m ih =>
    intro k s ts hm hk I hR
    have hlt : k < (cs n r).length := by omega
    have few := sm.few
    refine codeAny_builtin F.entry_extend_loop ?_
    rw [Around.under_plainId F.plain_extend_loop _]
    show wpAny _ A.in1 (pyNext (.ref it) >>= _) _ _ s
    refine wpAny_bind (cb_item sm I.st (List.getElem?_eq_getElem hlt) fun h1 c1 ht kp => ?_)
    obtain ⟨c0, e0⟩ := I.lst
    have e1 := kp _ _ I.ne.1 e0
    show wpAny _ A.in1 (updateSeq l (·.push (.ref s.heap.objs.size)) >>= _) _ _ _
    have hsz : (ts.map Value.ref).toArray.size ≤ 6 := by rw [List.size_toArray, List.length_map, I.len]; exact Nat.le_trans (Nat.le_of_lt hlt) few
    have ea : (ts.map Value.ref).toArray.push (.ref s.heap.objs.size) = ((ts ++ [s.heap.objs.size]).map Value.ref).toArray := by simp
    have hl2 : ∃ c, (h1.update l (Obj.mapSeq (·.push (.ref s.heap.objs.size)))).get? l = some { cls := .type "list", dict := none, data := .seq ((ts ++ [s.heap.objs.size]).map Value.ref).toArray c, slots := #[] } := by
      refine ⟨if ((ts.map Value.ref).toArray.push (.ref s.heap.objs.size)).size == (ts.map Value.ref).toArray.size then c0 else c0 + 1, (Heap.get?_update_self _ e1 rfl).trans ?_⟩
      show some ({ cls := _, dict := _, data := .seq ((ts.map Value.ref).toArray.push (.ref s.heap.objs.size)) (if ((ts.map Value.ref).toArray.push (.ref s.heap.objs.size)).size == (ts.map Value.ref).toArray.size then c0 else c0 + 1), slots := _ } : Obj) = _
      rw [ea]
    refine wpAny_bind ?_
    refine wpAny_updateSeq e1 rfl (wpAny_pure ⟨plainId_quiet F.plain_extend_loop _, ?_⟩) (Nat.le_trans hsz (by decide)) ?_
    · refine ih (k + 1) _ (ts ++ [s.heap.objs.size]) (by omega) hlt (I.step sm (List.getElem?_eq_getElem hlt) c1 ht kp (fun b hb => Heap.get?_update_other _ _ (Ne.symm hb)) ?_ hl2) fun h' ts' q1 q2 q3 q4 q5 => hR h' ts' q1 q2 q3 q4 q5
      · exact Heap.size_after_update ..
    · rw [Array.size_push]
      exact Nat.le_trans (Nat.succ_le_succ hsz) (by decide)
end
end CB

set_option Elab.async false
set_option linter.all false
set_option maxRecDepth 20000
set_option maxHeartbeats 2000000
namespace CB
open PySem PySem.Spec PyProof.Rows
section
variable {prog : Program} {w : World} {A : Around} {E : Value → Shared → Prop} {s : Shared} {it pool : Addr} {its : Array Value} {n r : Nat}
/-- list(combinations(..)) -/
theorem call_list_cb {Q : Value → Shared → Prop} (hh : A.handled = none) (sm : Small n r) (c : Cst n r it pool its 0 s.heap)
    (hQ : ∀ (h' : Heap) (ts : List Addr), (∀ b o, b ≠ it → s.heap.get? b = some o → h'.get? b = some o) → (∃ c, h'.get? s.heap.objs.size = some { cls := .type "list", dict := none, data := .seq (ts.map Value.ref).toArray c, slots := #[] }) → ts.length = (cs n r).length → ts.Nodup →
      (∀ (j : Nat) (T : Addr) (nx : List Nat), ts[j]? = some T → (cs n r)[j]? = some nx → s.heap.objs.size < T ∧ h'.get? T = some { cls := .type "tuple", data := .seq (nx.map fun i => its.getD i .none).toArray }) → Q (.ref s.heap.objs.size) { s with heap := h' }) :
    wpAny (model prog w) A (call (.type "list") [.ref it]) Q E s := by
  refine callType_codes (Q₁ := fun obj s1 => obj = .ref s.heap.objs.size ∧ s1 = { s with heap := s.heap.push { cls := .type "list", data := .seq #[] } }) F.called_list (F.typeCall_list_1 _) F.entry_list_init
    (code_list_new _ ⟨rfl, rfl⟩) fun obj s1 h1 => ?_
  obtain ⟨rfl, rfl⟩ := h1
  have hS : (s.heap.push { cls := .type "list", data := .seq #[] }).get? s.heap.objs.size = some { cls := .type "list", data := .seq #[] } := Heap.get?_push_size _ rfl
  refine ⟨⟨_, hS, rfl⟩, F.args_list_init_2 _ _, ?_⟩
  have hlt : it < s.heap.objs.size := by
    obtain ⟨_, _, _, _, _, e, _⟩ := c
    exact Heap.lt_size e
  have hltp : pool < s.heap.objs.size := by
    obtain ⟨_, ⟨_, e, _⟩, _⟩ := c
    exact Heap.lt_size e
  show wpAny _ _ (Builtin.List.listItems (.ref s.heap.objs.size) >>= _) _ _ _
  refine wpAny_bind ?_
  unfold Builtin.List.listItems
  refine wpAny_bind (wpAny_seqItems hS rfl (wpAny_pure ?_))
  show wpAny _ _ (updateSeq s.heap.objs.size (fun _ => #[]) >>= _) _ _ _
  refine wpAny_bind (wpAny_updateSeq hS rfl ?_)
  have hS2 := Heap.get?_update_self (Obj.mapSeq (fun _ => (#[] : Array Value))) hS rfl
  refine wpAny_bind (wpAny_letGo ?_)
  generalize hh2 : (s.heap.push { cls := .type "list", data := .seq #[] }).update s.heap.objs.size (Obj.mapSeq fun _ => (#[] : Array Value)) = h2 at hS2 ⊢
  have kp : ∀ b o, s.heap.get? b = some o → h2.get? b = some o := fun b o e => by
    rw [← hh2]
    exact (Heap.get?_update_other _ _ (Ne.symm (Nat.ne_of_lt (Heap.lt_size e)))).trans (Heap.get?_push_of_some _ e)
  have hz2 : h2.objs.size = s.heap.objs.size + 1 := by
    rw [← hh2, Heap.size_after_update, Heap.size_push]
  have c2 : Cst n r it pool its 0 h2 := c.keep (fun o e => kp _ _ e) fun o e => kp _ _ e
  show wpAny _ _ (Builtin.List.listExtendWith (.ref s.heap.objs.size) (.ref it) .none) _ _ _
  unfold Builtin.List.listExtendWith
  have hT : Shared.TypeIs { s with heap := h2 } (.ref it) "itertools.combinations" := by
    obtain ⟨_, _, _, _, _, e, _⟩ := c2
    exact ⟨_, e, rfl⟩
  refine wpAny_bind (wpAny_typeOf hT ?_)
  have h1 : Builtin.List.listSameRef (.ref s.heap.objs.size) (.ref it) = false := by simp [Builtin.List.listSameRef, Nat.ne_of_gt hlt]
  rw [if_neg (by rw [h1]; decide)]
  refine wpAny_bind (cb_self c2 ?_)
  refine wpAny_bind (wpAny_holding ?_)
  unfold Builtin.List.listLengthHint
  refine wpAny_bind (wpAny_specialOf hT noLen_cb ?_)
  show wpAny _ _ (specialOf (Value.ref it) (Str.ofString "__length_hint__") >>= _) _ _ _
  refine wpAny_bind (wpAny_specialOf hT noHint_cb ?_)
  refine wpAny_pure ?_
  dsimp only
  rw [if_pos (by rfl)]
  refine wpAny_bind (wpAny_rule ?_)
  refine wpAny_bind ?_
  show wpAny _ _ (updateSeq s.heap.objs.size (·.push .none) >>= fun _ => updateSeq s.heap.objs.size (·.pop)) _ _ _
  refine wpAny_bind (wpAny_updateSeq hS2 rfl ?_)
  have hS3 := Heap.get?_update_self (Obj.mapSeq (·.push Value.none)) hS2 rfl
  refine wpAny_updateSeq (hz := by seq_fits) hS3 rfl ?_
  have hS4 := Heap.get?_update_self (Obj.mapSeq (·.pop)) hS3 rfl
  generalize hh4 : ((h2.update s.heap.objs.size (Obj.mapSeq (·.push Value.none))).update s.heap.objs.size (Obj.mapSeq (·.pop))) = h4 at hS4 ⊢
  have kp4 : ∀ b o, b ≠ s.heap.objs.size → h2.get? b = some o → h4.get? b = some o := fun b o nb e => by
    rw [← hh4]
    exact (Heap.get?_update_other _ _ (Ne.symm nb)).trans ((Heap.get?_update_other _ _ (Ne.symm nb)).trans e)
  have hz4 : h4.objs.size = s.heap.objs.size + 1 := by
    rw [← hh4, Heap.size_after_update, Heap.size_after_update, hz2]
  refine wpAny_pure ⟨plainId_quiet F.plain_extend_loop _, ?_⟩
  have I0 : LInv h4 n r it pool its s.heap.objs.size 0 [] h4 := ⟨c2.keep (fun o e => kp4 _ _ (Nat.ne_of_lt hlt) e) (fun o e => kp4 _ _ (Nat.ne_of_lt hltp) e), ⟨_, hS4⟩, rfl, fun j T nx h => by simp at h, .nil, fun _ _ _ _ e => e, ⟨Nat.ne_of_gt hlt, Nat.ne_of_gt hltp⟩, Nat.le_refl _⟩
  refine list_loop (by first | exact hh | (show A.in1.handled = none; exact hh)) sm .none _ 0 { s with heap := h4 } [] rfl (Nat.zero_le _) I0 fun h' ts q1 q2 q3 q4 q5 => ?_
  refine ⟨rfl, hQ h' ts (fun b o nb e => q1 b o nb (Nat.ne_of_lt (Heap.lt_size e)) (kp4 _ _ (Nat.ne_of_lt (Heap.lt_size e)) (kp _ _ e))) q2 q3 q4 fun j T nx hj hn => ?_⟩
  obtain ⟨b1, b2, b3⟩ := q5 j T nx hj hn
  exact ⟨by omega, b3⟩
end
end CB

set_option Elab.async false
set_option linter.all false
set_option maxRecDepth 20000
set_option maxHeartbeats 2000000
namespace CB
open PySem PySem.Spec PyProof.Rows L2 DL
section
variable {X : Cx} {pins : List (Addr × Obj)} {σ : L2.St} {H : Hp} {s : Shared}
/-- an object that nobody knew is tracked from here on -/
theorem track {a : Addr} {o : HO} (I : Inv X pins σ H s) (f : FpOk X pins H a) (ha : X.s_0.heap.objs.size ≤ a) (new : ObjOk X.prog X.w (upd H a o) s.heap a o) : Inv X pins σ (upd H a o) s := by
  obtain ⟨f0, f1, f2, f3, f4, f5⟩ := f
  have nb : ∀ b ob, X.s_0.heap.get? b = some ob → b ≠ a := fun b ob e => Nat.ne_of_lt (Nat.lt_of_lt_of_le (Heap.lt_size e) ha)
  refine ⟨I.ok, I.os, I.bare, ⟨I.base.keep, I.base.slot, fun b ob e n hx => ?_, I.base.there, fun b xs e => ?_, fun b ob u e => ?_, fun b ps e => ?_⟩, I.loc, I.cell, ?_, fun x c e => ?_, fun p hp => ?_, fun b u e => ?_, I.len⟩
  · rw [upd_ne (nb b ob e)]
    exact I.base.free b ob e n hx
  · have h1 := I.base.tups b xs e
    rw [upd_ne (ne_of_none h1 f0)]
    exact h1
  · have h1 := I.base.frzs b ob u e
    rw [upd_ne (ne_of_none h1 f0)]
    exact h1
  · obtain ⟨more, h1⟩ := I.base.tbls b ps e
    exact ⟨more, by rw [upd_ne (ne_of_none h1 f0)]; exact h1⟩
  · rw [upd_ne (Ne.symm f1)]
    exact I.free
  · rw [upd_ne (f4 x c e)]
    exact I.freeC x c e
  · obtain ⟨q1, q2, q3⟩ := I.pin p hp
    exact ⟨q1, by rw [upd_ne (f5 p hp)]; exact q2, q3⟩
  · by_cases hb : b = a
    · subst hb
      rw [upd_same] at e
      cases e
      exact new
    · rw [upd_ne hb] at e
      exact (I.hok b u e).stay (fun _ _ _ q => q) (fun c q => by rw [upd_ne (ne_of_none q f0)]; exact q) fun c xs q => by rw [upd_ne (ne_of_none q f0)]; exact q
theorem FpOk.other {a b : Addr} {o : HO} (f : FpOk X pins H b) (h : b ≠ a) : FpOk X pins (upd H a o) b := ⟨by rw [upd_ne h]; exact f.1, f.2⟩
/-- tuples that nobody knew -/
def addT (H : Hp) : List Addr → List (List V) → Hp
  | T :: ts, xs :: xss => addT (upd H T (.tup xs)) ts xss
  | _, _ => H
theorem addT_out {a : Addr} : ∀ {ts : List Addr} {xss : List (List V)} {H : Hp}, a ∉ ts → addT H ts xss a = H a
  | [], _, _, _ => by cases ‹List (List V)› <;> rfl
  | T :: ts, [], _, _ => rfl
  | T :: ts, xs :: xss, H, h => by
    show addT (upd H T (.tup xs)) ts xss a = H a
    rw [addT_out fun z => h (List.mem_cons_of_mem _ z), upd_ne fun z => h (by rw [z]; exact List.mem_cons_self)]
theorem addT_at : ∀ {ts : List Addr} {xss : List (List V)} {H : Hp} {j : Nat} {T : Addr} {xs : List V}, ts.Nodup → ts[j]? = some T → xss[j]? = some xs → addT H ts xss T = some (.tup xs)
  | [], _, _, _, _, _, _, h, _ => by simp at h
  | T :: ts, [], _, _, _, _, _, _, h => by simp at h
  | T :: ts, xs :: xss, H, 0, T', xs', nd, h, h' => by
    have e : T = T' := by simpa using h
    have e' : xs = xs' := by simpa using h'
    subst e e'
    show addT (upd H T (.tup xs)) ts xss T = _
    rw [addT_out (List.nodup_cons.mp nd).1, upd_same]
  | T :: ts, xs :: xss, H, j + 1, T', xs', nd, h, h' => addT_at (ts := ts) (xss := xss) (H := upd H T (.tup xs)) (List.nodup_cons.mp nd).2 (by simpa using h) (by simpa using h')
theorem trackT : ∀ {ts : List Addr} {xss : List (List V)} {H : Hp}, ts.length = xss.length → ts.Nodup → Inv X pins σ H s → (∀ T ∈ ts, FpOk X pins H T ∧ X.s_0.heap.objs.size ≤ T) → (∀ (j : Nat) (T : Addr) (xs : List V), ts[j]? = some T → xss[j]? = some xs → xs.length ≤ sizeLine ∧ ∃ us : List Value, Vals xs us ∧ IsTup s.heap T us.toArray) → Inv X pins σ (addT H ts xss) s
  | [], [], _, _, _, I, _, _ => I
  | [], _ :: _, _, h, _, _, _, _ => by simp at h
  | _ :: _, [], _, h, _, _, _, _ => by simp at h
  | T :: ts, xs :: xss, H, hl, nd, I, hf, ho => by
    obtain ⟨n1, n2⟩ := List.nodup_cons.mp nd
    have f := hf T List.mem_cons_self
    refine trackT (ts := ts) (xss := xss) (by simpa using hl) n2 (track (o := .tup xs) I f.1 f.2 (ho 0 T xs rfl rfl)) (fun T' hT => ?_) fun j T' xs' h1 h2 => ho (j + 1) T' xs' (by simpa using h1) (by simpa using h2)
    have f' := hf T' (List.mem_cons_of_mem _ hT)
    exact ⟨FpOk.other f'.1 fun z => n1 (by rw [← z]; exact hT), f'.2⟩
end
end CB

set_option Elab.async false
set_option linter.all false
set_option maxRecDepth 20000
set_option maxHeartbeats 2000000
namespace CB
open PySem PySem.Spec PyProof.Rows L2 DL
section
variable {X : Cx} {a b : Expr} {ω ω1 ω2 : Own} {ρ : Rho} {p1 p2 p3 p4 p5 pos : Pos}
/-- a combinations object has been made -/
structure Made (X : Cx) (pins : List (Addr × Obj)) (σ : L2.St) (n r : Nat) (H' : Hp) (s' : Shared) (it pool : Addr) (its : Array Value) : Prop where
  inv : Inv X pins σ H' s'
  st : Cst n r it pool its 0 s'.heap
  its : ∀ i, i < n → ∃ t, its[i]? = some (.int (i : Nat) t)
  fi : FpOk X pins H' it ∧ X.s_0.heap.objs.size ≤ it
  fp : FpOk X pins H' pool ∧ X.s_0.heap.objs.size ≤ pool
theorem ev_cb {n r : Int} {pins : List (Addr × Obj)} {s : Shared} {σ : L2.St} {H : Hp} {R : Value → Shared → Prop} (hc : X.calm = true) (hgr : Gl X "range") (hmr : X.mg "range" = none) (hgc : Gl X "combinations") (hmc : X.mg "combinations" = some (.type "itertools.combinations"))
    (ha : DE X ω ρ a (I n) ω1) (hb : DE X ω1 ρ b (I r) ω2) (hn : 0 ≤ n) (hr : 0 ≤ r) (sm : Small n.toNat r.toNat) (na : starEach [a] X.env = (false, eval a X.env) :: starEach [] X.env) (nb : starEach [b] X.env = (false, eval b X.env) :: starEach [] X.env)
    (nc : starEach [Expr.Call (.Name "range" p2) [a] [] p3, b] X.env = (false, eval (Expr.Call (.Name "range" p2) [a] [] p3) X.env) :: starEach [b] X.env) (hpl : (backTo p4 (starEach [b] X.env)).any (·.1) = false)
    (hE : EOk ω ρ σ H) (I0 : Inv X pins σ H s) (hR : ∀ it pool its H' s', Xt ω H ω2 H' → Made X pins σ n.toNat r.toNat H' s' it pool its → R (.ref it) s') :
    wpAny (model X.prog X.w) X.A (eval (.Call (.Name "combinations" p1) [.Call (.Name "range" p2) [a] [] p3, b] [] p4) X.env) R X.xe s := by
  refine Call_ (ld_glob I0 hgc hmc (PyProof.Rows.callWith_type1 (args_cons ?_ nc) nc hpl))
  refine Call_ (ld_blt I0 hgr hmr boot_range (PyProof.Rows.callWith_type1 (args_cons (thn (ha.run pins s σ H (fun v H1 => Xt ω H ω1 H1 ∧ v = .int n) I0 ⟨hE, fun v H1 x1 r1 => ⟨x1, r1.int⟩⟩) fun u s1 ⟨x, H1, I1, r1, x1, ex⟩ => args_nil ?_) na) na))
  subst ex
  obtain ⟨t, rfl⟩ := r1
  refine call_range_1 ?_
  generalize hro : ({ cls := .type "range", data := .fields #[.int 0 s1.toks, .int n t, .int 1 (s1.toks + 1)] } : Obj) = ro
  have hg : (s1.heap.push ro).get? s1.heap.objs.size = some ro := Heap.get?_push_size _ (by rw [← hro]; rfl)
  have I2 : Inv X pins σ H1 { s1 with heap := s1.heap.push ro, toks := s1.toks + 1 + 1 } := I1.kept fun b u e => Heap.get?_push_of_some _ e
  have f2 : FpOk X pins H1 s1.heap.objs.size := I1.fpOk (Nat.le_refl _) (I1.hok.fresh (Nat.le_refl _))
  have I3 : Inv X (pins ++ [(s1.heap.objs.size, ro)]) σ H1 { s1 with heap := s1.heap.push ro, toks := s1.toks + 1 + 1 } := I2.pins_of fun p hp => by
    rcases List.mem_append.mp hp with z | z
    · exact I2.pin p (List.mem_append_right _ z)
    · have e : p = (s1.heap.objs.size, ro) := by simpa using z
      subst e
      exact ⟨hg, f2.1, f2.2.1, f2.2.2.1, fun v z => by rw [← hro] at z; exact nomatch z⟩
  refine args_cons (thn (hb.run _ _ σ H1 (fun v H2 => Xt ω1 H1 ω2 H2 ∧ v = .int r) I3 ⟨hE.xt x1, fun v H2 x2 r2 => ⟨x2, r2.int⟩⟩) fun u s4 ⟨y, H4, I4, r4, x4, ey⟩ => args_nil ?_) nb
  subst ey
  obtain ⟨t', rfl⟩ := r4
  have hr4 := (I4.pin (s1.heap.objs.size, ro) (by simp)).1
  have I5 : Inv X pins σ H4 s4 := I4.pins_of fun p hp => I4.pin p (by
    rcases List.mem_append.mp (List.mem_append_right X.pn hp) with z | z
    · exact List.mem_append_left _ z
    · exact List.mem_append_right _ (List.mem_append_left _ z))
  have er : Value.int r t' = .int (r.toNat : Int) t' := by rw [Int.toNat_of_nonneg hr]
  rw [er]
  have hir : IsRange s4.heap s1.heap.objs.size 0 n 1 s1.toks t (s1.toks + 1) := by
    rw [← hro] at hr4
    exact hr4
  have n4 := sm.n4
  have r4' := sm.r4
  have le := sm.le
  refine call_cb (n := n.toNat) (I5.ok.hd hc) hir (small_one (by decide) (by decide) (by omega) (by omega)) (by rw [rangeSize_nat, Int.sub_zero]) (by omega) le (by omega) fun h' tk its pool it kp hits hp1 hi1 hne hcb hpool => ?_
  have fi := I5.fpOk hi1 (I5.hok.fresh hi1)
  have fp := I5.fpOk hp1 (I5.hok.fresh hp1)
  refine hR it pool its H4 _ (x1.trans x4) ⟨I5.kept kp, ⟨hits.1, hpool, 0, .none, _, hcb, .inl ⟨rfl, rfl, sm.first⟩⟩, fun i hi => ?_, ⟨fi, Nat.le_trans I5.sz hi1⟩, ⟨fp, Nat.le_trans I5.sz hp1⟩⟩
  have hlt : i < its.size := by rw [hits.1]; exact hi
  obtain ⟨tt, e⟩ := hits.2 i its[i] (Array.getElem?_eq_getElem hlt)
  refine ⟨tt, ?_⟩
  rw [Array.getElem?_eq_getElem hlt, e, Int.zero_add, Int.mul_one]
theorem Made.pick {pins : List (Addr × Obj)} {σ : L2.St} {n r : Nat} {H' : Hp} {s' : Shared} {it pool : Addr} {its : Array Value} (m : Made X pins σ n r H' s' it pool its) : ∀ {nx : List Nat}, (∀ i ∈ nx, i < n) → Vals (nx.map fun i => V.int (i : Nat)) (nx.map fun i => its.getD i .none)
  | [], _ => .nil
  | i :: nx, h => by
    obtain ⟨t, e⟩ := m.its i (h i List.mem_cons_self)
    refine .cons ⟨t, ?_⟩ (m.pick fun j hj => h j (List.mem_cons_of_mem _ hj))
    show its.getD i .none = _
    rw [Array.getD_eq_getD_getElem?, e]
    rfl
theorem refs_vals : ∀ ts : List Addr, Vals (ts.map V.ref) (ts.map Value.ref)
  | [] => .nil
  | t :: ts => .cons rfl (refs_vals ts)
abbrev cbV (n r : Nat) : List (List V) := (cs n r).map fun nx => nx.map fun i => V.int (i : Nat)
abbrev cbI (n r : Nat) : List (List Int) := (cs n r).map fun nx => nx.map fun i => ((i : Nat) : Int)
theorem addT_keep {O : List Addr} : ∀ {ts : List Addr} {xss : List (List V)} {H : Hp}, (∀ T ∈ ts, H T = none) → ts.Nodup → Keep O H (addT H ts xss)
  | [], xss, _, _, _ => by cases xss <;> exact .refl
  | T :: ts, [], _, _, _ => .refl
  | T :: ts, xs :: xss, H, h, nd => by
    have n1 := (List.nodup_cons.mp nd).1
    refine Keep.trans (Keep.upd (h T List.mem_cons_self)) (addT_keep (H := L2.upd H T (.tup xs)) (fun T' hT => ?_) (List.nodup_cons.mp nd).2)
    rw [upd_ne fun z => n1 (by rw [← z]; exact hT)]
    exact h T' (List.mem_cons_of_mem _ hT)
theorem rp_refs {H : Hp} : ∀ {ts : List Addr} {iss : List (List Int)}, ts.length = iss.length → (∀ (j : Nat) (T : Addr) (is : List Int), ts[j]? = some T → iss[j]? = some is → H T = some (.tup (is.map V.int))) → RpAll H (ts.map V.ref) (iss.map tupI)
  | [], [], _, _ => .nil
  | [], _ :: _, h, _ => by simp at h
  | _ :: _, [], h, _ => by simp at h
  | T :: ts, is :: iss, hl, h => .cons (.tup (h 0 T is rfl rfl) .of_ints) (rp_refs (by simpa using hl) fun j T' is' h1 h2 => h (j + 1) T' is' (by simpa using h1) (by simpa using h2))
/-- list(combinations(range(a), b)) -/
theorem de_listCb {n r : Int} (hc : X.calm = true) (hml : X.mg "list" = none) (hmr : X.mg "range" = none) (hmc : X.mg "combinations" = some (.type "itertools.combinations"))
    (ha : DE X ω ρ a (I n) ω1) (hb : DE X ω1 ρ b (I r) ω2) (hn : 0 ≤ n) (hr : 0 ≤ r) (sm : Small n.toNat r.toNat) (hgl : Gl X "list" := by rfl) (hgr : Gl X "range" := by rfl) (hgc : Gl X "combinations" := by rfl)
    (na : starEach [a] X.env = (false, eval a X.env) :: starEach [] X.env := by rfl) (nb : starEach [b] X.env = (false, eval b X.env) :: starEach [] X.env := by rfl)
    (nc : starEach [Expr.Call (.Name "range" p2) [a] [] p3, b] X.env = (false, eval (Expr.Call (.Name "range" p2) [a] [] p3) X.env) :: starEach [b] X.env := by rfl) (hpl : (backTo p4 (starEach [b] X.env)).any (·.1) = false := by rfl)
    (nl : starEach [Expr.Call (.Name "combinations" p1) [.Call (.Name "range" p2) [a] [] p3, b] [] p4] X.env = (false, eval (Expr.Call (.Name "combinations" p1) [.Call (.Name "range" p2) [a] [] p3, b] [] p4) X.env) :: starEach [] X.env := by rfl) :
    DE X ω ρ (.Call (.Name "list" p5) [.Call (.Name "combinations" p1) [.Call (.Name "range" p2) [a] [] p3, b] [] p4] [] pos) (.dat (.list ((cbI n.toNat r.toNat).map tupI))) ω2 := by
  refine ⟨fun pins s σ H Q I0 ⟨hE, q⟩ => ?_⟩
  refine Call_ (ld_blt I0 hgl hml boot_list (PyProof.Rows.callWith_type1 (args_cons (ev_cb hc hgr hmr hgc hmc ha hb hn hr sm na nb nc hpl hE I0 fun it pool its H1 s1 x1 m => args_nil ?_) nl) nl))
  refine call_list_cb (m.inv.ok.hd hc) sm m.st fun h' ts kp hl hlen nd hts => ?_
  obtain ⟨c, hl⟩ := hl
  have nL : H1 s1.heap.objs.size = none := m.inv.hok.fresh (Nat.le_refl _)
  have hi := m.fi.1
  have I1 : Inv X pins σ H1 { s1 with heap := h' } := m.inv.turned (t' := s1.toks) kp hi.1 hi.2.1 hi.2.2.2.1 hi.2.2.2.2.1 hi.2.2.2.2.2
  have hlen' : ts.length = (cbV n.toNat r.toNat).length := by rw [hlen, List.length_map]
  have hTs : ∀ T ∈ ts, s1.heap.objs.size < T := fun T hT => by
    obtain ⟨j, hj, e⟩ := List.getElem_of_mem hT
    have hj' : j < (cs n.toNat r.toNat).length := by rw [← hlen]; exact hj
    exact (hts j T _ (by rw [List.getElem?_eq_getElem hj, e]) (List.getElem?_eq_getElem hj')).1
  have hfp : ∀ {b : Addr}, s1.heap.objs.size ≤ b → FpOk X pins H1 b ∧ X.s_0.heap.objs.size ≤ b := fun {b} h => ⟨m.inv.fpOk h (m.inv.hok.fresh h), Nat.le_trans m.inv.sz h⟩
  have I2 : Inv X pins σ (addT H1 ts (cbV n.toNat r.toNat)) { s1 with heap := h' } := trackT hlen' nd I1 (fun T hT => hfp (Nat.le_of_lt (hTs T hT))) fun j T xs h1 h2 => by
    rw [List.getElem?_map] at h2
    cases e : (cs n.toNat r.toNat)[j]? with
    | none => rw [e] at h2; cases h2
    | some nx =>
      rw [e] at h2
      cases h2
      obtain ⟨_, e3⟩ := hts j T nx h1 e
      have hnx := sm.len nx (List.mem_of_getElem? e)
      refine ⟨by rw [List.length_map, hnx.1]; exact Nat.le_trans sm.r4 (by decide), _, m.pick hnx.2, ⟨_, e3, rfl, 0, rfl⟩⟩
  have nl' : s1.heap.objs.size ∉ ts := fun z => Nat.lt_irrefl _ (hTs _ z)
  have fL := hfp (Nat.le_refl s1.heap.objs.size)
  have fL2 : FpOk X pins (addT H1 ts (cbV n.toNat r.toNat)) s1.heap.objs.size := ⟨by rw [addT_out nl']; exact nL, fL.1.2⟩
  have few := sm.few
  have I3 := track (o := .lst (ts.map V.ref)) I2 fL2 fL.2 ⟨by rw [List.length_map, hlen]; exact Nat.le_trans few (by decide), _, _, refs_vals ts, hl⟩
  have nT : ∀ T ∈ ts, H1 T = none := fun T hT => m.inv.hok.fresh (Nat.le_of_lt (hTs T hT))
  have kp1 : Keep (dom ω2) H1 (addT H1 ts (cbV n.toNat r.toNat)) := addT_keep nT nd
  have own1 : OwnOk ω2 (addT H1 ts (cbV n.toNat r.toNat)) := x1.own.keep kp1 fun a ha => addT_out fun z => x1.own.fresh (nT a z) ha
  have x2 : Xt ω2 H1 ω2 (addT H1 ts (cbV n.toNat r.toNat)) := ⟨rfl, own1, kp1⟩
  refine ⟨.ref s1.heap.objs.size, _, I3, rfl, q _ _ ((x1.trans x2).trans (.upd own1 fL2.1)) (.newL own1 fL2.1 (rp_refs (by rw [hlen, List.length_map]) fun j T is h1 h2 => ?_))⟩
  rw [List.getElem?_map] at h2
  cases e : (cs n.toNat r.toNat)[j]? with
  | none => rw [e] at h2; cases h2
  | some nx =>
    rw [e] at h2
    cases h2
    have hT := List.mem_of_getElem? h1
    rw [hide_out fun z => x1.own.fresh (nT T hT) z, addT_at (xs := nx.map fun i => V.int (i : Nat)) nd h1 (by rw [List.getElem?_map, e]; rfl), List.map_map]
    rfl
end
end CB

set_option Elab.async false
set_option linter.all false
set_option maxRecDepth 20000
set_option maxHeartbeats 2000000
namespace ZM
open PySem PySem.Spec PyProof.Rows L2 DL
/-- a list or a tuple -/
def ho : Bool → List V → HO | true => .lst | false => .tup
def sq : Bool → List PyData → PyData | true => .list | false => .tuple
def Src : Bool → Heap → Addr → Array Value → Prop | true => Heap.IsList | false => Heap.IsTuple
def Cur : Bool → Heap → Addr → Addr → Nat → Prop | true => Heap.IsListIter | false => Heap.IsTupleIter
def itOb : Bool → Addr → Obj | true, l => { cls := .type "list_iterator", data := .fields #[.ref l, .int 0 0] } | false, l => { cls := .type "tuple_iterator", data := .fields #[.ref l, .int 0 0] }
theorem cur0 {b : Bool} {h : Heap} {i l : Addr} (e : h.get? i = some (itOb b l)) : Cur b h i l 0 := by
  cases b with
  | true => exact ⟨_, e, rfl, rfl⟩
  | false => exact ⟨_, e, rfl, rfl⟩
theorem cur_ob {b : Bool} {h : Heap} {i l : Addr} {k : Nat} (c : Cur b h i l k) : ∃ o, h.get? i = some o ∧ ∀ v, o.data ≠ .cell v := by
  cases b with
  | true => obtain ⟨o, e, _, d⟩ := c; exact ⟨o, e, fun v z => by rw [d] at z; cases z⟩
  | false => obtain ⟨o, e, _, d⟩ := c; exact ⟨o, e, fun v z => by rw [d] at z; cases z⟩
theorem cur_at {b : Bool} {h h' : Heap} {i l : Addr} {k : Nat} (c : Cur b h i l k) (e : ∀ o, h.get? i = some o → h'.get? i = some o) : Cur b h' i l k := by
  cases b with
  | true => obtain ⟨o, q, r⟩ := c; exact ⟨o, e o q, r⟩
  | false => obtain ⟨o, q, r⟩ := c; exact ⟨o, e o q, r⟩
theorem begins (b : Bool) (l : Addr) (xs : Array Value) : Begins (.ref l) (itOb b l) fun h => Src b h l xs := by
  cases b with
  | true => exact begins_list l xs
  | false => exact begins_tuple l xs
theorem draws (b : Bool) {prog : Program} {w : World} {A : Around} (hh : A.handled = none) (it l : Addr) (hne : l ≠ it) (xs : Array Value) :
    Draws prog w A it [it, l] xs.size (fun i v => xs[i]? = some v) (fun i h => Cur b h it l i ∧ Src b h l xs) := by
  cases b with
  | true => exact Draws.list hh it l hne xs
  | false => exact Draws.tuple hh it l hne xs
theorem src_of {X : Cx} {pins : List (Addr × Obj)} {σ : L2.St} {H : Hp} {s : Shared} (I : Inv X pins σ H s) {b : Bool} {l : Addr} {xs : List V} (e : H l = some (ho b xs)) : ∃ its : List Value, Vals xs its ∧ Src b s.heap l its.toArray := by
  cases b with
  | true =>
    obtain ⟨its, r, p, _⟩ := I.list (SqL.of e)
    exact ⟨its, r, p.isList⟩
  | false =>
    obtain ⟨its, r, p, _⟩ := I.tuple (SqT.of e)
    exact ⟨its, r, p⟩
theorem src_lt {b : Bool} {h : Heap} {l : Addr} {xs : Array Value} (c : Src b h l xs) : l < h.objs.size := by
  cases b with
  | true => obtain ⟨o, e, _⟩ := c; exact Heap.lt_size e
  | false => obtain ⟨o, e, _⟩ := c; exact Heap.lt_size e
/-- pairs of what two sequences hold, as they stand at each turn -/
def It2 (b c : Bool) (l m : Addr) : It :=
  ⟨fun i H => ∃ (xs ys : List V) (x y : V), H l = some (ho b xs) ∧ H m = some (ho c ys) ∧ xs[i]? = some x ∧ ys[i]? = some y,
   fun i H v H' => ∃ T x y, v = .ref T ∧ H T = none ∧ H' = upd H T (.tup [x, y]) ∧ (∀ xs, H l = some (ho b xs) → xs[i]? = some x) ∧ ∀ ys, H m = some (ho c ys) → ys[i]? = some y,
   fun i H => ∃ (xs ys : List V), H l = some (ho b xs) ∧ H m = some (ho c ys) ∧ i ≤ xs.length ∧ i ≤ ys.length ∧ (i = xs.length ∨ i = ys.length)⟩
theorem ho_inj {b : Bool} {xs ys : List V} (h : ho b xs = ho b ys) : xs = ys := by
  cases b with
  | true => exact HO.lst.inj h
  | false => exact HO.tup.inj h
structure Apart (z TI TO i1 i2 l m : Addr) : Prop where
  s : ZipSep2 z TI TO i1 i2 [i1, l] [i2, m]
theorem turn_it2 {P : Program} {w : World} {K : PySem.W.Frag} {elts : List Expr} {kk : Nat} {tpos : Pos} {b c : Bool} {l m z TI TO i1 i2 : Addr} (D : ZipSep2 z TI TO i1 i2 [i1, l] [i2, m]) (hl : l ≠ i1) (hm : m ≠ i2) :
    Turn P w K (.Tuple elts kk tpos) (It2 b c l m) [z, TI, TO, i1, i2] z (fun i h => IsZip h z TI TO .none ∧ IsTupOf2 h TI (.ref i1) (.ref i2) ∧ (∃ x y, IsTupOf2 h TO x y) ∧ Cur b h i1 l i ∧ Cur c h i2 m i) where
  mem := by simp
  obj := fun i h st q hq => by
    obtain ⟨hz, hTI, ⟨x, y, hTO⟩, h1, h2⟩ := st
    have e' : q = z ∨ q = TI ∨ q = TO ∨ q = i1 ∨ q = i2 := by simpa using hq
    rcases e' with r | r | r | r | r
    · subst r; exact ⟨_, hz, fun v q => nomatch q⟩
    · subst r; exact ⟨_, hTI, fun v q => nomatch q⟩
    · subst r; exact ⟨_, hTO, fun v q => nomatch q⟩
    · subst r; exact cur_ob h1
    · subst r; exact cur_ob h2
  keep := fun i h h' st k => by
    obtain ⟨hz, hTI, ⟨x, y, hTO⟩, h1, h2⟩ := st
    exact ⟨k z (by simp) _ hz, k TI (by simp) _ hTI, ⟨x, y, k TO (by simp) _ hTO⟩, cur_at h1 fun o q => k i1 (by simp) o q, cur_at h2 fun o q => k i2 (by simp) o q⟩
  item := by
    intro X hP hw hK hc i pins s σ H E I hf st hg
    subst hP hw hK
    obtain ⟨hz, hTI, ⟨x0, y0, hTO⟩, h1, h2⟩ := st
    obtain ⟨xs, ys, x, y, ex, ey, hx, hy⟩ := hg
    obtain ⟨its, rv, p⟩ := src_of I ex
    obtain ⟨its2, rv2, p2⟩ := src_of I ey
    obtain ⟨u, hu, ru⟩ := rv.get hx
    obtain ⟨u2, hu2, ru2⟩ := rv2.get hy
    have hzl : z < s.heap.objs.size := Heap.lt_size hz
    have hi1 : i < its.toArray.size := by
      rw [List.size_toArray]
      exact (List.getElem?_eq_some_iff.mp hu).1
    have hi2 : i < its2.toArray.size := by
      rw [List.size_toArray]
      exact (List.getElem?_eq_some_iff.mp hu2).1
    refine wpAny_pyNext_zipD2_item D (draws b (by first | exact I.ok.hd hc | (show X.A.in1.handled = none; exact I.ok.hd hc)) i1 l hl its.toArray) (draws c (by first | exact I.ok.hd hc | (show X.A.in1.handled = none; exact I.ok.hd hc)) i2 m hm its2.toArray) hz hTI hTO ⟨h1, p⟩ ⟨h2, p2⟩ hi1 hi2 fun v1 v2 h' tk e1 e2 z' TO' st1 st2 hT hsz hk => ?_
    have ev1 : v1 = u := by
      have : its[i]? = some v1 := by simpa using e1
      rw [hu] at this
      exact (Option.some.inj this).symm
    have ev2 : v2 = u2 := by
      have : its2[i]? = some v2 := by simpa using e2
      rw [hu2] at this
      exact (Option.some.inj this).symm
    subst ev1 ev2
    refine ⟨_, rfl, wpAny_letOwnedTupleGo_zip (s := { s with heap := h', toks := tk }) z' fun h'' z'' sb => ?_⟩
    have hT2 : h''.get? s.heap.objs.size = some { cls := .type "tuple", data := .seq #[v1, v2] } := (sb.2 _ (Nat.ne_of_gt hzl)).trans hT
    have new : ObjOk X.prog X.w (upd H s.heap.objs.size (.tup [x, y])) h'' s.heap.objs.size (.tup [x, y]) := ⟨by show 2 ≤ sizeLine; decide, [v1, v2], .cons ru (.cons ru2 .nil), ⟨_, hT2, rfl, _, rfl⟩⟩
    have I1 : Inv X pins σ (upd H s.heap.objs.size (.tup [x, y])) { s with heap := h'', toks := tk } :=
      I.turnedNew (t' := tk) (ch := [z, TI, TO, i1, i2]) (fun q o hb r => by
        simp only [List.mem_cons, List.not_mem_nil, or_false, not_or] at hb
        exact (sb.2 q hb.1).trans (hk q o hb.1 hb.2.2.1 hb.2.2.2.1 hb.2.2.2.2 r)) hf (Nat.le_refl _) new
    refine ⟨.ref s.heap.objs.size, _, I1, rfl, ⟨_, x, y, rfl, I.hok.fresh (Nat.le_refl _), rfl, fun zs hzs => ?_, fun zs hzs => ?_⟩, ⟨z'', ?_, ⟨v1, v2, ?_⟩, ?_, ?_⟩, fun q hq => ?_⟩
    · rw [ex] at hzs
      rw [← ho_inj (Option.some.inj hzs)]
      exact hx
    · rw [ey] at hzs
      rw [← ho_inj (Option.some.inj hzs)]
      exact hy
    · exact (sb.2 _ D.TIz).trans (hk _ _ D.TIz D.TITO D.TIi1 D.TIi2 hTI)
    · exact (sb.2 _ D.TOz).trans TO'
    · refine cur_at st1.1 fun o r => (sb.2 _ fun zz => D.zf1 (by rw [← zz]; simp)).trans r
    · refine cur_at st2.1 fun o r => (sb.2 _ fun zz => D.zf2 (by rw [← zz]; simp)).trans r
    · have hlt : q < s.heap.objs.size := by
        have e' : q = z ∨ q = TI ∨ q = TO ∨ q = i1 ∨ q = i2 := by simpa using hq
        rcases e' with r | r | r | r | r
        · subst r; exact hzl
        · subst r; exact Heap.lt_size hTI
        · subst r; exact Heap.lt_size hTO
        · subst r; obtain ⟨_, e1, _⟩ := cur_ob h1; exact Heap.lt_size e1
        · subst r; obtain ⟨_, e2, _⟩ := cur_ob h2; exact Heap.lt_size e2
      rw [upd_ne (Nat.ne_of_lt hlt)]
      exact (hf q hq).1
  done := by
    intro X hP hw hK hc i pins s σ H E I hf st hg
    subst hP hw hK
    obtain ⟨hz, hTI, ⟨x0, y0, hTO⟩, h1, h2⟩ := st
    obtain ⟨xs, ys, ex, ey, hle1, hle2, hend⟩ := hg
    obtain ⟨its, rv, p⟩ := src_of I ex
    obtain ⟨its2, rv2, p2⟩ := src_of I ey
    have l1 := rv.length
    have l2 := rv2.length
    refine wpAny_pyNext_zipD2_end D (draws b (by first | exact I.ok.hd hc | (show X.A.in1.handled = none; exact I.ok.hd hc)) i1 l hl its.toArray) (draws c (by first | exact I.ok.hd hc | (show X.A.in1.handled = none; exact I.ok.hd hc)) i2 m hm its2.toArray) hz hTI hTO ⟨h1, p⟩ ⟨h2, p2⟩ (by rw [List.size_toArray]; omega) (by rw [List.size_toArray]; omega) (by rw [List.size_toArray, List.size_toArray]; omega) fun h' tk hk => ⟨rfl, ?_⟩
    refine I.turnedL (t' := tk) (ch := [z, TI, TO, i1, i2]) (fun q o hb r => ?_) hf
    simp only [List.mem_cons, List.not_mem_nil, or_false, not_or] at hb
    exact hk q o hb.1 hb.2.2.1 hb.2.2.2.1 hb.2.2.2.2 r
  self := fun A i s Q E st h => wpAny_pyIter_zip st.1 h
end ZM

set_option Elab.async false
set_option linter.all false
set_option maxRecDepth 20000
set_option maxHeartbeats 2000000
namespace ZM
open PySem PySem.Spec PyProof.Rows L2 DL
theorem one_lt {l n : Nat} (h : l < n) : ∀ q, q ∈ [l] → q < n := fun q hq => by
  rw [List.mem_singleton.mp hq]; exact h
theorem RE.sq {O : List Addr} {H : Hp} {b : Bool} {ds : List PyData} {v : V} (r : RE O H (.dat (sq b ds)) v) : ∃ l xs, v = .ref l ∧ l ∉ O ∧ H l = some (ho b xs) ∧ RpAll (hide O H) xs ds := by
  cases b with
  | true => exact RE.lst r
  | false => exact RE.tup r
section
variable {X : Cx} {a b : Expr} {ω ω1 ω2 : Own} {ρ : Rho} {pos p2 tpos : Pos} {elts : List Expr} {kk : Nat}
theorem walk2 {O : List Addr} {H0 : Hp} {k c : Bool} {l m : Addr} {xs ys : List V} {ds es : List PyData} (nl : l ∉ O) (nm : m ∉ O) (el : H0 l = some (ho k xs)) (em : H0 m = some (ho c ys)) (rx : RpAll (hide O H0) xs ds) (ry : RpAll (hide O H0) ys es) :
    WalkD O H0 (It2 k c l m) ((ds.zip es).map fun p => .dat (.tuple [p.1, p.2])) := by
  refine ⟨fun O' hs hf => ⟨fun i H hi hg => ?_, fun H hg => ?_, fun i H v H' hi hg y => ?_⟩⟩
  · rw [List.length_map, List.length_zip, ← rx.length, ← ry.length] at hi
    have h1 : i < xs.length := by omega
    have h2 : i < ys.length := by omega
    exact ⟨xs, ys, xs[i], ys[i], hg.1 _ _ (out_grow hf nl el) el, hg.1 _ _ (out_grow hf nm em) em, List.getElem?_eq_getElem h1, List.getElem?_eq_getElem h2⟩
  · refine ⟨xs, ys, hg.1 _ _ (out_grow hf nl el) el, hg.1 _ _ (out_grow hf nm em) em, ?_, ?_, ?_⟩ <;> rw [List.length_map, List.length_zip, ← rx.length, ← ry.length] <;> omega
  · obtain ⟨T, x, y, rfl, nT, rfl, f1, f2⟩ := y
    have hx := f1 xs (hg.1 _ _ (out_grow hf nl el) el)
    have hy := f2 ys (hg.1 _ _ (out_grow hf nm em) em)
    obtain ⟨d, hd, rd⟩ := rx.toGet hx
    obtain ⟨e, he, re⟩ := ry.toGet hy
    have nTO : T ∉ O' := fun z => hg.2 T z nT
    refine ⟨.dat (.tuple [d, e]), ?_, ⟨Keep.upd nT, fun a ha => upd_ne fun z => nTO (by rw [← z]; exact ha)⟩, ?_⟩
    · have hz : (ds.zip es)[i]? = some (d, e) := List.getElem?_zip_eq_some.mpr ⟨hd, he⟩
      rw [List.getElem?_map, hz]; rfl
    · have mo : Same (hide O H0) (hide O' (upd H T (.tup [x, y]))) := hide_grow hf (Keep.trans hg.1 (Keep.upd nT))
      exact Rp.tup (xs := [x, y]) (by rw [hide_out nTO, upd_same]) (.cons (Rp.mono mo _ _ rd) (.cons (Rp.mono mo _ _ re) .nil))
theorem di_zip (k c : Bool) {ds es : List PyData} (hc : X.calm = true) (hm : X.mg "zip" = none) (ha : DA X ω ρ [a, b] [.dat (sq k ds), .dat (sq c es)] ω1) (hg : Gl X "zip" := by rfl)
    (hs : starEach [a, b] X.env = (false, eval a X.env) :: starEach [b] X.env := by rfl) (hpl : (backTo pos (starEach [b] X.env)).any (·.1) = false := by rfl) :
    DI X (.Tuple elts kk tpos) ω ρ (.Call (.Name "zip" p2) [a, b] [] pos) ((ds.zip es).map fun p => .dat (.tuple [p.1, p.2])) ω1 := by
  refine ⟨fun pins s σ H R I ⟨hE, q⟩ => ?_⟩
  refine Call_ (ld_blt I hg hm PyProof.Rows.boot_zip (PyProof.Rows.callWith_type1 (thn (ha.run pos pins s σ H (fun vs H1 => Xt ω H ω1 H1 ∧ REs (dom ω1) H1 _ vs) I ⟨hE, fun vs H1 x1 r1 => ⟨x1, r1⟩⟩) fun us s1 ⟨vs, H1, I1, rv, x1, r1⟩ => ?_) hs hpl))
  obtain ⟨v, w, rfl, r1, r2⟩ := REs.two r1
  obtain ⟨l, xs, rfl, nl, el, rx⟩ := RE.sq r1
  obtain ⟨m, ys, rfl, nm, em, ry⟩ := RE.sq r2
  cases rv with
  | cons ra rv =>
    cases rv with
    | cons rb rv =>
      cases rv
      cases ra
      cases rb
      obtain ⟨its, rvx, p1⟩ := src_of I1 el
      obtain ⟨its2, rvy, p2⟩ := src_of I1 em
      have hl := src_lt p1
      have hm' := src_lt p2
      have fr : ∀ q, q ∈ [s1.heap.objs.size + 4, s1.heap.objs.size + 2, s1.heap.objs.size + 3, s1.heap.objs.size, s1.heap.objs.size + 1] → FpOk X pins H1 q := fun q hq => by
        have hle : s1.heap.objs.size ≤ q := by
          simp only [List.mem_cons, List.not_mem_nil, or_false] at hq
          rcases hq with r | r | r | r | r <;> rw [r] <;> first | exact Nat.le_add_right _ _ | exact Nat.le_refl _
        exact I1.fpOk hle (I1.hok.fresh hle)
      refine zip_begins2 (begins k l its.toArray) (begins c m its2.toArray) p1 p2 fun h' hz hTI hTO g1 g2 hsz hk => wpAny_pyIter_zip hz ?_
      have I2 : Inv X pins σ H1 { s1 with heap := h' } := I1.kept (t' := s1.toks) hk
      have D := zip_sep2 (N := s1.heap.objs.size) (fp1 := [l]) (fp2 := [m]) (one_lt hl) (one_lt hm')
      exact ⟨s1.heap.objs.size + 4, _, _, _, H1, rfl, I2, turn_it2 D (Nat.ne_of_lt hl) (Nat.ne_of_lt (Nat.lt_succ_of_lt hm')), ⟨hz, hTI, ⟨_, _, hTO⟩, cur0 g1, cur0 g2⟩, fr, q _ H1 x1 (walk2 nl nm el em rx ry)⟩
end
end ZM

set_option Elab.async false
set_option linter.all false
set_option maxRecDepth 20000
set_option maxHeartbeats 2000000
namespace ZM
open PySem PySem.Spec PyProof.Rows
section
variable {prog : Program} {w : World} {A : Around} {E : Value → Shared → Prop} {s : Shared} {z TI TO T i1 i2 : Addr} {fa fb : List Addr} {na nb i : Nat} {Pa Pb : Nat → Value → Prop} {Sa Sb : Nat → Heap → Prop} {f : Bool} {oT : Obj}
/-- a further pair, the last one being still there -/
theorem held_item {Q : Value → Shared → Prop} (S : ZipSep2 z TI TO i1 i2 fa fb) (Da : Draws prog w A i1 fa na Pa Sa) (Db : Draws prog w A i2 fb nb Pb Sb)
    (hz : IsZipHeld s.heap z TI TO T f) (hT : s.heap.get? T = some oT) (hTI : IsTupOf2 s.heap TI (.ref i1) (.ref i2)) (sa : Sa i s.heap) (sb : Sb i s.heap) (la : i < na) (lb : i < nb)
    (hQ : ∀ u v h' tk, Pa i u → Pb i v → IsZipHeld h' z TI TO T true → Sa (i + 1) h' → Sb (i + 1) h' → IsTupOf2 h' s.heap.objs.size u v → h'.objs.size = s.heap.objs.size + 1 →
      (∀ c o, c ≠ z → c ≠ i1 → c ≠ i2 → s.heap.get? c = some o → h'.get? c = some o) → Q (.ref s.heap.objs.size) { s with heap := h', toks := tk }) :
    wpAny (model prog w) A (Builtin.«zip.__next__» ⟨[.ref z], []⟩) (fun fin s' => ∃ v, fin = .done (.ret v) ∧ Q v s') E s := by
  obtain ⟨hp, gg, dd, t0, oo⟩ := s
  show wpAny _ _ (field (.ref z) 2 >>= _) _ _ _
  refine wpAny_bind (wpAny_field (x := .bool false) hz rfl rfl ?_)
  show wpAny _ _ (field (.ref z) 3 >>= _) _ _ _
  refine wpAny_bind (wpAny_field (x := .ref TI) hz rfl rfl ?_)
  refine wpAny_bind (wpAny_seqItems hTI rfl ?_)
  show wpAny _ _ (Builtin.SmallTypes.ownedTupleIsFree (.ref z) >>= _) _ _ _
  refine wpAny_bind (wpAny_tupleHeld_zip hz hT fun g0 z0 b0 => ?_)
  replace b0 : Heap.SameBut z hp g0 := b0
  simp only [Bool.false_eq_true, if_false]
  refine wpAny_bind ?_
  rw [← Array.forIn_toList]
  simp only [List.forIn_cons, List.forIn_nil]
  refine wpAny_bind (wpAny_bind (wpAny_holding ?_))
  show wpAny _ _ (Builtin.SmallTypes.nextOf (.ref i1) >>= _) _ _ ⟨g0, gg, dd, t0, oo⟩
  refine wpAny_bind (Da.item i _ _ _ la (Da.over sa b0 S.zf1) fun u p1 t1 hu s1 b1 => wpAny_pure ?_)
  replace b1 : Heap.SameBut i1 g0 p1 := b1
  refine wpAny_pure ?_
  refine wpAny_bind (wpAny_bind (wpAny_holding ?_))
  show wpAny _ _ (Builtin.SmallTypes.nextOf (.ref i2) >>= _) _ _ ⟨p1, gg, dd, t1, oo⟩
  refine wpAny_bind (Db.item i _ _ _ lb (Db.over (Db.over sb b0 S.zf2) b1 S.sep1_2) fun v p2 t2 hv s2 b2 => wpAny_pure ?_)
  replace b2 : Heap.SameBut i2 p1 p2 := b2
  refine wpAny_pure (wpAny_pure ?_)
  show wpAny _ _ (newTuple [u, v] >>= _) _ _ _
  refine wpAny_bind (wpAny_newTuple ?_)
  have hsz : p2.objs.size = hp.objs.size := by rw [b2.1, b1.1, b0.1]
  have z2 : IsZipHeld p2 z TI TO T true := b2.extBut _ _ S.zi2 (b1.extBut _ _ S.zi1 z0)
  have hk : ∀ c o, c ≠ z → c ≠ i1 → c ≠ i2 → hp.get? c = some o → p2.get? c = some o := fun c o c1 c2 c3 e => b2.extBut _ _ c3 (b1.extBut _ _ c2 (b0.extBut _ _ c1 e))
  have s1' : Sa (i + 1) p2 := Da.over s1 b2 S.sep2_1
  refine wpAny_pure ⟨_, rfl, ?_⟩
  show Q (.ref p2.objs.size) _
  have hnew : IsTupOf2 (p2.push { cls := .type "tuple", data := .seq #[u, v] }) p2.objs.size u v := Heap.get?_push_size _ rfl
  have hnz : (p2.push { cls := .type "tuple", data := .seq #[u, v] }).objs.size = p2.objs.size + 1 := Heap.size_push ..
  rw [hsz] at hnew hnz ⊢
  exact hQ u v _ t2 hu hv (Heap.get?_push_of_some _ z2) (Da.frame _ _ _ s1' fun b _ o e => Heap.get?_push_of_some _ e) (Db.frame _ _ _ s2 fun b _ o e => Heap.get?_push_of_some _ e) hnew hnz fun c o c1 c2 c3 e => Heap.get?_push_of_some _ (hk c o c1 c2 c3 e)
theorem held_done {Q : Fin → Shared → Prop} (S : ZipSep2 z TI TO i1 i2 fa fb) (Da : Draws prog w A i1 fa na Pa Sa) (Db : Draws prog w A i2 fb nb Pb Sb)
    (hz : IsZipHeld s.heap z TI TO T f) (hT : s.heap.get? T = some oT) (hTI : IsTupOf2 s.heap TI (.ref i1) (.ref i2)) (sa : Sa i s.heap) (sb : Sb i s.heap) (la : i ≤ na) (lb : i ≤ nb) (hend : i = na ∨ i = nb)
    (hE : ∀ h' tk e, (∀ c o, c ≠ z → c ≠ i1 → c ≠ i2 → s.heap.get? c = some o → h'.get? c = some o) → (∃ o, h'.get? e = some o ∧ o.cls = .type "StopIteration") → E (.ref e) { s with heap := h', toks := tk }) :
    wpAny (model prog w) A (Builtin.«zip.__next__» ⟨[.ref z], []⟩) Q E s := by
  obtain ⟨hp, gg, dd, t0, oo⟩ := s
  show wpAny _ _ (field (.ref z) 2 >>= _) _ _ _
  refine wpAny_bind (wpAny_field (x := .bool false) hz rfl rfl ?_)
  show wpAny _ _ (field (.ref z) 3 >>= _) _ _ _
  refine wpAny_bind (wpAny_field (x := .ref TI) hz rfl rfl ?_)
  refine wpAny_bind (wpAny_seqItems hTI rfl ?_)
  show wpAny _ _ (Builtin.SmallTypes.ownedTupleIsFree (.ref z) >>= _) _ _ _
  refine wpAny_bind (wpAny_tupleHeld_zip hz hT fun g0 z0 b0 => ?_)
  replace b0 : Heap.SameBut z hp g0 := b0
  simp only [Bool.false_eq_true, if_false]
  refine wpAny_bind ?_
  rw [← Array.forIn_toList]
  simp only [List.forIn_cons, List.forIn_nil]
  refine wpAny_bind (wpAny_bind (wpAny_holding ?_))
  show wpAny _ _ (Builtin.SmallTypes.nextOf (.ref i1) >>= _) _ _ ⟨g0, gg, dd, t0, oo⟩
  by_cases lt : i < na
  · refine wpAny_bind (Da.item i _ _ _ lt (Da.over sa b0 S.zf1) fun u p1 t1 hu s1 b1 => wpAny_pure ?_)
    replace b1 : Heap.SameBut i1 g0 p1 := b1
    refine wpAny_pure ?_
    refine wpAny_bind (wpAny_bind (wpAny_holding ?_))
    show wpAny _ _ (Builtin.SmallTypes.nextOf (.ref i2) >>= _) _ _ ⟨p1, gg, dd, t1, oo⟩
    have e2 : i = nb := by omega
    refine wpAny_bind (Db.done ⟨p1, gg, dd, t1, oo⟩ _ _ (by rw [← e2]; exact Db.over (Db.over sb b0 S.zf2) b1 S.sep1_2) fun q e bq he => ?_)
    replace bq : Heap.ExtBut i2 p1 q := bq
    exact hE q t1 e (fun c o c1 c2 c3 x => bq _ _ c3 (b1.extBut _ _ c2 (b0.extBut _ _ c1 x))) he
  · have e1 : i = na := by omega
    refine wpAny_bind (Da.done ⟨g0, gg, dd, t0, oo⟩ _ _ (by rw [← e1]; exact Da.over sa b0 S.zf1) fun q e bq he => ?_)
    replace bq : Heap.ExtBut i1 g0 q := bq
    exact hE q t0 e (fun c o c1 c2 c3 x => bq _ _ c2 (b0.extBut _ _ c1 x)) he
theorem next_held {Q : Option Value → Shared → Prop} (S : ZipSep2 z TI TO i1 i2 fa fb) (Da : Draws prog w A.in1 i1 fa na Pa Sa) (Db : Draws prog w A.in1 i2 fb nb Pb Sb)
    (hz : IsZipHeld s.heap z TI TO T f) (hT : s.heap.get? T = some oT) (hTI : IsTupOf2 s.heap TI (.ref i1) (.ref i2)) (sa : Sa i s.heap) (sb : Sb i s.heap) (la : i < na) (lb : i < nb)
    (hQ : ∀ u v h' tk, Pa i u → Pb i v → IsZipHeld h' z TI TO T true → Sa (i + 1) h' → Sb (i + 1) h' → IsTupOf2 h' s.heap.objs.size u v → h'.objs.size = s.heap.objs.size + 1 →
      (∀ c o, c ≠ z → c ≠ i1 → c ≠ i2 → s.heap.get? c = some o → h'.get? c = some o) → Q (some (.ref s.heap.objs.size)) { s with heap := h', toks := tk }) :
    wpAny (model prog w) A (pyNext (.ref z)) Q E s := by
  have hTy : s.TypeIs (.ref z) "zip" := ⟨_, hz, rfl⟩
  unfold pyNext
  exact wpAny_bind (wpAny_attempt (wpAny_callSpecial?_slot (name := Str.ofString "__next__") hTy F.slot_zip_next
    (wpAny_call_entry F.slot_zip_next hTy F.entry_zip_next (held_item S Da Db hz hT hTI sa sb la lb fun u v h' tk a1 a2 a3 a4 a5 a6 a7 a8 => wpAny_pure (hQ u v h' tk a1 a2 a3 a4 a5 a6 a7 a8)) (F.args_zip_next_1 _))))
theorem next_held_end {Q : Option Value → Shared → Prop} (S : ZipSep2 z TI TO i1 i2 fa fb) (Da : Draws prog w A.in1 i1 fa na Pa Sa) (Db : Draws prog w A.in1 i2 fb nb Pb Sb)
    (hz : IsZipHeld s.heap z TI TO T f) (hT : s.heap.get? T = some oT) (hTI : IsTupOf2 s.heap TI (.ref i1) (.ref i2)) (sa : Sa i s.heap) (sb : Sb i s.heap) (la : i ≤ na) (lb : i ≤ nb) (hend : i = na ∨ i = nb)
    (hQ : ∀ h' tk, (∀ c o, c ≠ z → c ≠ i1 → c ≠ i2 → s.heap.get? c = some o → h'.get? c = some o) → Q none { s with heap := h', toks := tk }) : wpAny (model prog w) A (pyNext (.ref z)) Q E s := by
  have hTy : s.TypeIs (.ref z) "zip" := ⟨_, hz, rfl⟩
  unfold pyNext
  refine wpAny_bind (wpAny_attempt (wpAny_callSpecial?_slot (name := Str.ofString "__next__") hTy F.slot_zip_next
    (wpAny_call_entry F.slot_zip_next hTy F.entry_zip_next (held_done S Da Db hz hT hTI sa sb la lb hend fun h' tk e hk he => ?_) (F.args_zip_next_1 _))))
  obtain ⟨o, ho, hcl⟩ := he
  refine wpAny_bind (wpAny_isInstance (T := "StopIteration") (b := true) ⟨o, ho, hcl⟩ isSubtype_stop ?_)
  exact wpAny_pure (hQ _ _ hk)
end
end ZM

set_option Elab.async false
set_option linter.all false
set_option maxRecDepth 20000
set_option maxHeartbeats 2000000
namespace ZM
open PySem PySem.Spec PyProof.Rows
abbrev tupO (us : List Value) : Obj := { cls := .type "tuple", data := .seq us.toArray }
/-- an iterator whose n items are new tuples, while the list at l grows -/
structure TupSrc (prog : Program) (w : World) (it l : Addr) (fp : List Addr) (n : Nat) (f : Nat → List Value → Prop) (St : Nat → Heap → Prop) : Prop where
  off : l ∉ fp
  frame : ∀ i h h', St i h → (∀ b o, b ≠ l → h.get? b = some o → h'.get? b = some o) → St i h'
  item : ∀ (A : Around) (E : Value → Shared → Prop) (Q : Option Value → Shared → Prop) (i : Nat) (s : Shared), A.handled = none → i < n → St i s.heap → l < s.heap.objs.size →
    (∀ T us h' tk, f i us → s.heap.objs.size ≤ T → h'.get? T = some (tupO us) → St (i + 1) h' → (∀ b o, b ∉ fp → s.heap.get? b = some o → h'.get? b = some o) → s.heap.objs.size ≤ h'.objs.size → Q (some (.ref T)) { s with heap := h', toks := tk }) → wpAny (model prog w) A (pyNext (.ref it)) Q E s
  done : ∀ (A : Around) (E : Value → Shared → Prop) (Q : Option Value → Shared → Prop) (s : Shared), A.handled = none → St n s.heap →
    (∀ h' tk, (∀ b o, b ∉ fp → s.heap.get? b = some o → h'.get? b = some o) → Q none { s with heap := h', toks := tk }) → wpAny (model prog w) A (pyNext (.ref it)) Q E s
abbrev lstO (ts : List Addr) (c : Nat) : Obj := { cls := .type "list", dict := none, data := .seq (ts.map Value.ref).toArray c, slots := #[] }
structure LInv (base : Heap) (l : Addr) (fp : List Addr) (n : Nat) (f : Nat → List Value → Prop) (St : Nat → Heap → Prop) (k : Nat) (ts : List Addr) (h : Heap) : Prop where
  st : St k h
  lst : ∃ c, h.get? l = some (lstO ts c)
  len : ts.length = k
  at_ : ∀ (j : Nat) (T : Addr), ts[j]? = some T → base.objs.size ≤ T ∧ T ≠ l ∧ ∃ us, f j us ∧ h.get? T = some (tupO us)
  nd : ts.Nodup
  keep : ∀ b o, b ∉ fp → b ≠ l → base.get? b = some o → h.get? b = some o
  big : base.objs.size ≤ h.objs.size
section
variable {prog : Program} {w : World} {A : Around} {E : Value → Shared → Prop} {R : Result → Shared → Prop} {it l : Addr} {fp : List Addr} {n : Nat} {f : Nat → List Value → Prop} {St : Nat → Heap → Prop} {base : Heap}
theorem LInv.step (S : TupSrc prog w it l fp n f St) (lo : ∀ b ∈ fp, b < base.objs.size) {k : Nat} {ts : List Addr} {h h1 h2 : Heap} {T : Addr} {us : List Value} (I : LInv base l fp n f St k ts h) (hf : f k us) (hT : h.objs.size ≤ T) (ht : h1.get? T = some (tupO us)) (s1 : St (k + 1) h1)
    (kp : ∀ b o, b ∉ fp → h.get? b = some o → h1.get? b = some o) (hz1 : h.objs.size ≤ h1.objs.size) (sb : ∀ b, b ≠ l → h2.get? b = h1.get? b) (hz : h2.objs.size = h1.objs.size) (hl : ∃ c, h2.get? l = some (lstO (ts ++ [T]) c)) : LInv base l fp n f St (k + 1) (ts ++ [T]) h2 := by
  obtain ⟨c0, e0⟩ := I.lst
  have hll : l < h.objs.size := Heap.lt_size e0
  have hTl : T ≠ l := Nat.ne_of_gt (Nat.lt_of_lt_of_le hll hT)
  have big := I.big
  refine ⟨S.frame _ _ _ s1 fun b o hb e => by rw [sb b hb]; exact e, hl, by rw [List.length_append, I.len]; rfl, fun j T' hj => ?_, ?_, fun b o n1 n2 e => ?_, by omega⟩
  · by_cases hjk : j < k
    · rw [List.getElem?_append_left (by rw [I.len]; exact hjk)] at hj
      obtain ⟨q1, q2, us', q3, q4⟩ := I.at_ j T' hj
      refine ⟨q1, q2, us', q3, ?_⟩
      rw [sb _ q2]
      exact kp _ _ (fun z => Nat.lt_irrefl _ (Nat.lt_of_lt_of_le (lo _ z) q1)) q4
    · rw [List.getElem?_append_right (by rw [I.len]; omega), I.len] at hj
      have hjz : j = k := by
        by_cases z : j - k = 0
        · omega
        · rw [List.getElem?_eq_none (by simp; omega)] at hj; cases hj
      subst hjz
      rw [Nat.sub_self] at hj
      have eT : T = T' := by simpa using hj
      subst eT
      exact ⟨Nat.le_trans big hT, hTl, us, hf, by rw [sb _ hTl]; exact ht⟩
  · refine List.nodup_append.mpr ⟨I.nd, by simp, fun a ha b hb => ?_⟩
    have eb : b = T := by simpa using hb
    subst eb
    obtain ⟨j, hj, e⟩ := List.getElem_of_mem ha
    obtain ⟨_, _, us', _, q⟩ := I.at_ j a (by rw [List.getElem?_eq_getElem hj, e])
    exact Nat.ne_of_lt (Nat.lt_of_lt_of_le (Heap.lt_size q) hT)
  · rw [sb _ n2]
    exact kp _ _ n1 (I.keep b o n1 n2 e)
theorem tup_loop (S : TupSrc prog w it l fp n f St) (lo : ∀ b ∈ fp, b < base.objs.size) (hn : n ≤ 1000) (hh : A.handled = none) (res : Value) : ∀ (m k : Nat) (s : Shared) (ts : List Addr), n - k = m → k ≤ n → LInv base l fp n f St k ts s.heap →
    (∀ (h' : Heap) (tk : Nat) (ts' : List Addr), (∀ b o, b ∉ fp → b ≠ l → base.get? b = some o → h'.get? b = some o) → (∃ c, h'.get? l = some (lstO ts' c)) → ts'.length = n → ts'.Nodup →
      (∀ (j : Nat) (T : Addr), ts'[j]? = some T → base.objs.size ≤ T ∧ T ≠ l ∧ ∃ us, f j us ∧ h'.get? T = some (tupO us)) → R (.ok (.ret res)) { s with heap := h', toks := tk }) →
    codeAny (model prog w) A (.builtin "list.extend.loop" ⟨[.ref l, .ref it, res], []⟩) R s := by
  intro m
  induction m with
  | zero =>
    intro k s ts hm hk I hR
    have ek : k = n := by omega
    subst ek
    refine codeAny_builtin F.entry_extend_loop ?_
    rw [Around.under_plainId F.plain_extend_loop _]
    show wpAny _ A.in1 (pyNext (.ref it) >>= _) _ _ s
    refine wpAny_bind (S.done A.in1 _ _ s (by first | exact hh | (show A.in1.handled = none; exact hh)) I.st fun h' tk kp => ?_)
    obtain ⟨c, e⟩ := I.lst
    refine wpAny_pure (hR h' tk ts (fun b o n1 n2 e => kp _ _ n1 (I.keep b o n1 n2 e)) ⟨c, kp _ _ S.off e⟩ I.len I.nd fun j T hj => ?_)
    obtain ⟨q1, q2, us, q3, q4⟩ := I.at_ j T hj
    exact ⟨q1, q2, us, q3, kp _ _ (fun z => Nat.lt_irrefl _ (Nat.lt_of_lt_of_le (lo _ z) q1)) q4⟩
  | succ m ih =>
    intro k s ts hm hk I hR
    have hlt : k < n := by omega
    refine codeAny_builtin F.entry_extend_loop ?_
    rw [Around.under_plainId F.plain_extend_loop _]
    show wpAny _ A.in1 (pyNext (.ref it) >>= _) _ _ s
    obtain ⟨c0, e0⟩ := I.lst
    refine wpAny_bind (S.item A.in1 _ _ k s (by first | exact hh | (show A.in1.handled = none; exact hh)) hlt I.st (Heap.lt_size e0) fun T us h1 tk hf hT ht s1 kp hz1 => ?_)
    have e1 := kp _ _ S.off e0
    show wpAny _ A.in1 (updateSeq l (·.push (.ref T)) >>= _) _ _ _
    have hsz : (ts.map Value.ref).toArray.size ≤ 1000 := by rw [List.size_toArray, List.length_map, I.len]; omega
    have ea : (ts.map Value.ref).toArray.push (.ref T) = ((ts ++ [T]).map Value.ref).toArray := by simp
    have hl2 : ∃ c, (h1.update l (Obj.mapSeq (·.push (.ref T)))).get? l = some (lstO (ts ++ [T]) c) := by
      refine ⟨if ((ts.map Value.ref).toArray.push (.ref T)).size == (ts.map Value.ref).toArray.size then c0 else c0 + 1, (Heap.get?_update_self _ e1 rfl).trans ?_⟩
      show some ({ cls := _, dict := _, data := .seq ((ts.map Value.ref).toArray.push (.ref T)) (if ((ts.map Value.ref).toArray.push (.ref T)).size == (ts.map Value.ref).toArray.size then c0 else c0 + 1), slots := _ } : Obj) = _
      rw [ea]
    refine wpAny_bind ?_
    refine wpAny_updateSeq e1 rfl (wpAny_pure ⟨plainId_quiet F.plain_extend_loop _, ?_⟩) (Nat.le_trans hsz (by decide)) ?_
    · refine ih (k + 1) _ (ts ++ [T]) (by omega) hlt (I.step S lo hf hT ht s1 kp hz1 (fun b hb => Heap.get?_update_other _ _ (Ne.symm hb)) ?_ hl2) fun h' tk' ts' q1 q2 q3 q4 q5 => hR h' tk' ts' q1 q2 q3 q4 q5
      exact Heap.size_after_update ..
    · rw [Array.size_push]
      exact Nat.le_trans (Nat.succ_le_succ hsz) (by decide)
end
section
variable {prog : Program} {w : World} {A : Around} {E : Value → Shared → Prop} {s : Shared} {it : Addr} {fp : List Addr} {n : Nat} {f : Nat → List Value → Prop} {St : Nat → Heap → Prop} {Ty : String}
/-- list(it) -/
theorem call_list_tups {Q : Value → Shared → Prop} (hh : A.handled = none) (S : TupSrc prog w it s.heap.objs.size fp n f St) (hn : n ≤ 1000) (lo : ∀ b ∈ fp, b < s.heap.objs.size) (hit : it < s.heap.objs.size)
    (hT : ∀ h, St 0 h → ∃ o, h.get? it = some o ∧ o.cls = .type Ty) (noL : typeLookup (.type Ty) "__len__" = pure none) (noH : typeLookup (.type Ty) "__length_hint__" = pure none) (hself : ∀ (A : Around) (E : Value → Shared → Prop) (s : Shared) (Q : Value → Shared → Prop), St 0 s.heap → Q (.ref it) s → wpAny (model prog w) A (pyIter (.ref it)) Q E s)
    (nt : (Value.type Ty == Value.type "list") = false) (nt2 : (Value.type Ty == Value.type "tuple") = false) (st : ∀ h', (∀ b o, s.heap.get? b = some o → h'.get? b = some o) → St 0 h')
    (hQ : ∀ (h' : Heap) (tk : Nat) (ts : List Addr), (∀ b o, b ∉ fp → s.heap.get? b = some o → h'.get? b = some o) → (∃ c, h'.get? s.heap.objs.size = some (lstO ts c)) → ts.length = n → ts.Nodup →
      (∀ (j : Nat) (T : Addr), ts[j]? = some T → s.heap.objs.size < T ∧ ∃ us, f j us ∧ h'.get? T = some (tupO us)) → Q (.ref s.heap.objs.size) { s with heap := h', toks := tk }) :
    wpAny (model prog w) A (call (.type "list") [.ref it]) Q E s := by
  refine callType_codes (Q₁ := fun obj s1 => obj = .ref s.heap.objs.size ∧ s1 = { s with heap := s.heap.push { cls := .type "list", data := .seq #[] } }) F.called_list (F.typeCall_list_1 _) F.entry_list_init
    (code_list_new _ ⟨rfl, rfl⟩) fun obj s1 h1 => ?_
  obtain ⟨rfl, rfl⟩ := h1
  have hS : (s.heap.push { cls := .type "list", data := .seq #[] }).get? s.heap.objs.size = some { cls := .type "list", data := .seq #[] } := Heap.get?_push_size _ rfl
  refine ⟨⟨_, hS, rfl⟩, F.args_list_init_2 _ _, ?_⟩
  show wpAny _ _ (Builtin.List.listItems (.ref s.heap.objs.size) >>= _) _ _ _
  refine wpAny_bind ?_
  unfold Builtin.List.listItems
  refine wpAny_bind (wpAny_seqItems hS rfl (wpAny_pure ?_))
  show wpAny _ _ (updateSeq s.heap.objs.size (fun _ => #[]) >>= _) _ _ _
  refine wpAny_bind (wpAny_updateSeq hS rfl ?_)
  have hS2 := Heap.get?_update_self (Obj.mapSeq (fun _ => (#[] : Array Value))) hS rfl
  refine wpAny_bind (wpAny_letGo ?_)
  generalize hh2 : (s.heap.push { cls := .type "list", data := .seq #[] }).update s.heap.objs.size (Obj.mapSeq fun _ => (#[] : Array Value)) = h2 at hS2 ⊢
  have kp : ∀ b o, s.heap.get? b = some o → h2.get? b = some o := fun b o e => by
    rw [← hh2]
    exact (Heap.get?_update_other _ _ (Ne.symm (Nat.ne_of_lt (Heap.lt_size e)))).trans (Heap.get?_push_of_some _ e)
  have hz2 : h2.objs.size = s.heap.objs.size + 1 := by
    rw [← hh2, Heap.size_after_update, Heap.size_push]
  have c2 : St 0 h2 := st h2 kp
  show wpAny _ _ (Builtin.List.listExtendWith (.ref s.heap.objs.size) (.ref it) .none) _ _ _
  unfold Builtin.List.listExtendWith
  have hTy : Shared.TypeIs { s with heap := h2 } (.ref it) Ty := hT _ c2
  refine wpAny_bind (wpAny_typeOf hTy ?_)
  have hs1 : Builtin.List.listSameRef (.ref s.heap.objs.size) (.ref it) = false := by simp [Builtin.List.listSameRef, Nat.ne_of_gt hit]
  simp only [hs1, nt, nt2, Bool.or_false, Bool.or_self, Bool.false_eq_true, if_false]
  refine wpAny_bind (hself _ _ _ _ c2 ?_)
  refine wpAny_bind (wpAny_holding ?_)
  unfold Builtin.List.listLengthHint
  refine wpAny_bind (wpAny_specialOf hTy noL ?_)
  show wpAny _ _ (specialOf (Value.ref it) (Str.ofString "__length_hint__") >>= _) _ _ _
  refine wpAny_bind (wpAny_specialOf hTy noH ?_)
  refine wpAny_pure ?_
  try rw [if_pos (by rfl)]
  refine wpAny_bind (wpAny_rule ?_)
  refine wpAny_bind ?_
  show wpAny _ _ (updateSeq s.heap.objs.size (·.push .none) >>= fun _ => updateSeq s.heap.objs.size (·.pop)) _ _ _
  refine wpAny_bind (wpAny_updateSeq hS2 rfl ?_)
  have hS3 := Heap.get?_update_self (Obj.mapSeq (·.push Value.none)) hS2 rfl
  refine wpAny_updateSeq (hz := by seq_fits) hS3 rfl ?_
  have hS4 := Heap.get?_update_self (Obj.mapSeq (·.pop)) hS3 rfl
  generalize hh4 : ((h2.update s.heap.objs.size (Obj.mapSeq (·.push Value.none))).update s.heap.objs.size (Obj.mapSeq (·.pop))) = h4 at hS4 ⊢
  have kp4 : ∀ b o, b ≠ s.heap.objs.size → h2.get? b = some o → h4.get? b = some o := fun b o nb e => by
    rw [← hh4]
    exact (Heap.get?_update_other _ _ (Ne.symm nb)).trans ((Heap.get?_update_other _ _ (Ne.symm nb)).trans e)
  have hz4 : h4.objs.size = s.heap.objs.size + 1 := by
    rw [← hh4, Heap.size_after_update, Heap.size_after_update, hz2]
  refine wpAny_pure ⟨plainId_quiet F.plain_extend_loop _, ?_⟩
  have I0 : LInv h4 s.heap.objs.size fp n f St 0 [] h4 := ⟨S.frame _ _ _ c2 kp4, ⟨_, hS4⟩, rfl, fun j T h => by simp at h, .nil, fun _ _ _ _ e => e, Nat.le_refl _⟩
  refine tup_loop S (fun b hb => by rw [hz4]; exact Nat.lt_succ_of_lt (lo b hb)) hn (by first | exact hh | (show A.in1.handled = none; exact hh)) .none _ 0 { s with heap := h4 } [] rfl (Nat.zero_le _) I0 fun h' tk ts q1 q2 q3 q4 q5 => ?_
  refine ⟨rfl, hQ h' tk ts (fun b o nb e => q1 b o nb (Nat.ne_of_lt (Heap.lt_size e)) (kp4 _ _ (Nat.ne_of_lt (Heap.lt_size e)) (kp _ _ e))) q2 q3 q4 fun j T hj => ?_⟩
  obtain ⟨b1, b2, us, b3, b4⟩ := q5 j T hj
  exact ⟨Nat.lt_of_lt_of_le (by rw [hz4]; exact Nat.lt_succ_self _) b1, us, b3, b4⟩
end
end ZM

set_option Elab.async false
set_option linter.all false
set_option maxRecDepth 20000
set_option maxHeartbeats 2000000
namespace ZM
open PySem PySem.Spec PyProof.Rows L2 DL CB
theorem noLen_zip : typeLookup (.type "zip") "__len__" = pure none := by rw [typeLookup_type, builtinLookup_eq_fast]; kernel_rfl
theorem noHint_zip : typeLookup (.type "zip") "__length_hint__" = pure none := by rw [typeLookup_type, builtinLookup_eq_fast]; kernel_rfl
def ZSt (b c : Bool) (z TI TO i1 i2 l1 l2 l : Addr) (xs ys : Array Value) (i : Nat) (h : Heap) : Prop :=
  IsTupOf2 h TI (.ref i1) (.ref i2) ∧ (Cur b h i1 l1 i ∧ Src b h l1 xs) ∧ (Cur c h i2 l2 i ∧ Src c h l2 ys) ∧
    ((IsZip h z TI TO .none ∧ ∃ x y, IsTupOf2 h TO x y) ∨ ∃ T f oT, IsZipHeld h z TI TO T f ∧ h.get? T = some oT ∧ T ≠ z ∧ T ≠ i1 ∧ T ≠ i2 ∧ T ≠ l)
theorem src_at {b : Bool} {h h' : Heap} {l : Addr} {xs : Array Value} (c : Src b h l xs) (e : ∀ o, h.get? l = some o → h'.get? l = some o) : Src b h' l xs := by
  cases b with
  | true => obtain ⟨o, q, r⟩ := c; exact ⟨o, e o q, r⟩
  | false => obtain ⟨o, q, r⟩ := c; exact ⟨o, e o q, r⟩
theorem ZSt.zip {b c : Bool} {z TI TO i1 i2 l1 l2 l : Addr} {xs ys : Array Value} {i : Nat} {h : Heap} (st : ZSt b c z TI TO i1 i2 l1 l2 l xs ys i h) : ∃ o, h.get? z = some o ∧ o.cls = .type "zip" := by
  obtain ⟨_, _, _, ⟨e, _⟩ | ⟨_, _, _, e, _⟩⟩ := st
  · exact ⟨_, e, rfl⟩
  · exact ⟨_, e, rfl⟩
theorem ZSt.upto {b c : Bool} {z TI TO i1 i2 l1 l2 l : Addr} {xs ys : Array Value} {i : Nat} {h h' : Heap} (st : ZSt b c z TI TO i1 i2 l1 l2 l xs ys i h) (n : l ∉ [z, TI, TO, i1, i2, l1, l2]) (k : ∀ q o, q ≠ l → h.get? q = some o → h'.get? q = some o) : ZSt b c z TI TO i1 i2 l1 l2 l xs ys i h' := by
  simp only [List.mem_cons, List.not_mem_nil, or_false, not_or] at n
  obtain ⟨n1, n2, n3, n4, n5, n6, n7⟩ := n
  obtain ⟨a, ⟨b1, b2⟩, ⟨c1, c2⟩, d⟩ := st
  refine ⟨k _ _ (Ne.symm n2) a, ⟨cur_at b1 fun o e => k _ _ (Ne.symm n4) e, src_at b2 fun o e => k _ _ (Ne.symm n6) e⟩, ⟨cur_at c1 fun o e => k _ _ (Ne.symm n5) e, src_at c2 fun o e => k _ _ (Ne.symm n7) e⟩, ?_⟩
  rcases d with ⟨e, x, y, q⟩ | ⟨T, f, oT, e, q, r1, r2, r3, r4⟩
  · exact .inl ⟨k _ _ (Ne.symm n1) e, x, y, k _ _ (Ne.symm n3) q⟩
  · exact .inr ⟨T, f, oT, k _ _ (Ne.symm n1) e, k _ _ r4 q, r1, r2, r3, r4⟩
theorem src_zip {prog : Program} {w : World} {b c : Bool} {z TI TO i1 i2 l1 l2 l : Addr} (xs ys : Array Value) (D : ZipSep2 z TI TO i1 i2 [i1, l1] [i2, l2]) (h1 : l1 ≠ i1) (h2 : l2 ≠ i2) (n : l ∉ [z, TI, TO, i1, i2, l1, l2]) :
    TupSrc prog w z l [z, TI, TO, i1, i2] (min xs.size ys.size) (fun i us => ∃ u v, us = [u, v] ∧ xs[i]? = some u ∧ ys[i]? = some v) (ZSt b c z TI TO i1 i2 l1 l2 l xs ys) where
  off := fun hm => n (by simp only [List.mem_cons, List.not_mem_nil, or_false] at hm ⊢; rcases hm with r | r | r | r | r <;> simp [r])
  frame := fun i h h' st k => st.upto n k
  item := fun A E Q i s hh hi st hl hQ => by
    obtain ⟨hTI, sa, sb, d⟩ := st
    have ia : i < xs.size := Nat.lt_of_lt_of_le hi (Nat.min_le_left ..)
    have ib : i < ys.size := Nat.lt_of_lt_of_le hi (Nat.min_le_right ..)
    have lt : ∀ {q o}, s.heap.get? q = some o → s.heap.objs.size ≠ q := fun e => Nat.ne_of_gt (Heap.lt_size e)
    obtain ⟨_, e1, _⟩ := cur_ob sa.1
    obtain ⟨_, e2, _⟩ := cur_ob sb.1
    have Da := draws b (prog := prog) (w := w) (A := A.in1) (by first | exact hh | (show A.handled = none; exact hh)) i1 l1 h1 xs
    have Db := draws c (prog := prog) (w := w) (A := A.in1) (by first | exact hh | (show A.handled = none; exact hh)) i2 l2 h2 ys
    rcases d with ⟨hz, x0, y0, hTO⟩ | ⟨T, f, oT, hz, hT, r1, r2, r3, r4⟩
    · refine wpAny_pyNext_zipD2_item D Da Db hz hTI hTO sa sb ia ib fun u v h' tk eu ev z' TO' sa' sb' hN hsz hk => ?_
      exact hQ s.heap.objs.size [u, v] h' tk ⟨u, v, rfl, eu, ev⟩ (Nat.le_refl _) hN ⟨hk _ _ D.TIz D.TITO D.TIi1 D.TIi2 hTI, sa', sb', .inr ⟨_, false, _, z', hN, lt hz, lt e1, lt e2, Nat.ne_of_gt hl⟩⟩
        (fun q o hb e => by
          simp only [List.mem_cons, List.not_mem_nil, or_false, not_or] at hb
          exact hk q o hb.1 hb.2.2.1 hb.2.2.2.1 hb.2.2.2.2 e) (by rw [hsz]; exact Nat.le_succ _)
    · refine next_held D Da Db hz hT hTI sa sb ia ib fun u v h' tk eu ev z' sa' sb' hN hsz hk => ?_
      exact hQ s.heap.objs.size [u, v] h' tk ⟨u, v, rfl, eu, ev⟩ (Nat.le_refl _) hN ⟨hk _ _ D.TIz D.TIi1 D.TIi2 hTI, sa', sb', .inr ⟨T, true, oT, z', hk _ _ r1 r2 r3 hT, r1, r2, r3, r4⟩⟩
        (fun q o hb e => by
          simp only [List.mem_cons, List.not_mem_nil, or_false, not_or] at hb
          exact hk q o hb.1 hb.2.2.2.1 hb.2.2.2.2 e) (by rw [hsz]; exact Nat.le_succ _)
  done := fun A E Q s hh st hQ => by
    obtain ⟨hTI, sa, sb, d⟩ := st
    have Da := draws b (prog := prog) (w := w) (A := A.in1) (by first | exact hh | (show A.handled = none; exact hh)) i1 l1 h1 xs
    have Db := draws c (prog := prog) (w := w) (A := A.in1) (by first | exact hh | (show A.handled = none; exact hh)) i2 l2 h2 ys
    have hend : min xs.size ys.size = xs.size ∨ min xs.size ys.size = ys.size := by omega
    rcases d with ⟨hz, x0, y0, hTO⟩ | ⟨T, f, oT, hz, hT, r1, r2, r3, r4⟩
    · refine wpAny_pyNext_zipD2_end D Da Db hz hTI hTO sa sb (Nat.min_le_left ..) (Nat.min_le_right ..) hend fun h' tk hk => hQ h' tk fun q o hb e => ?_
      simp only [List.mem_cons, List.not_mem_nil, or_false, not_or] at hb
      exact hk q o hb.1 hb.2.2.1 hb.2.2.2.1 hb.2.2.2.2 e
    · refine next_held_end D Da Db hz hT hTI sa sb (Nat.min_le_left ..) (Nat.min_le_right ..) hend fun h' tk hk => hQ h' tk fun q o hb e => ?_
      simp only [List.mem_cons, List.not_mem_nil, or_false, not_or] at hb
      exact hk q o hb.1 hb.2.2.2.1 hb.2.2.2.2 e
abbrev prV (xs ys : List V) : List (List V) := (xs.zip ys).map fun p => [p.1, p.2]
abbrev prD (ds es : List PyData) : List PyData := (ds.zip es).map fun p => .tuple [p.1, p.2]
theorem prV_get {xs ys : List V} {j : Nat} {zs : List V} (h : (prV xs ys)[j]? = some zs) : ∃ x y, zs = [x, y] ∧ xs[j]? = some x ∧ ys[j]? = some y := by
  rw [List.getElem?_map] at h
  cases e : (xs.zip ys)[j]? with
  | none => rw [e] at h; cases h
  | some p =>
    rw [e] at h
    cases h
    obtain ⟨h1, h2⟩ := List.getElem?_zip_eq_some.mp e
    exact ⟨p.1, p.2, rfl, h1, h2⟩
theorem rp_pairs {H : Hp} : ∀ {ts : List Addr} {xs ys : List V} {ds es : List PyData}, RpAll H xs ds → RpAll H ys es → ts.length = min xs.length ys.length → (∀ (j : Nat) (T : Addr) (zs : List V), ts[j]? = some T → (prV xs ys)[j]? = some zs → H T = some (.tup zs)) → RpAll H (ts.map V.ref) (prD ds es)
  | ts, [], ys, ds, es, rx, ry, hl, _ => by
    cases rx
    have e : ts = [] := List.eq_nil_of_length_eq_zero (by simpa using hl)
    subst e
    exact .nil
  | ts, x :: xs, [], ds, es, rx, ry, hl, _ => by
    cases ry
    have e : ts = [] := List.eq_nil_of_length_eq_zero (by simpa using hl)
    subst e
    have e2 : prD ds [] = [] := by unfold prD; rw [List.zip_nil_right]; rfl
    rw [e2]
    exact .nil
  | [], x :: xs, y :: ys, ds, es, rx, ry, hl, _ => by simp at hl
  | T :: ts, x :: xs, y :: ys, ds, es, rx, ry, hl, h => by
    cases rx with
    | cons r1 r2 =>
      cases ry with
      | cons q1 q2 =>
        refine .cons (.tup (h 0 T [x, y] rfl rfl) (.cons r1 (.cons q1 .nil))) (rp_pairs r2 q2 (by simp at hl; omega) fun j T' zs h1 h2 => h (j + 1) T' zs (by simpa using h1) (by simpa using h2))
section
variable {X : Cx} {a b : Expr} {ω ω1 ω2 : Own} {ρ : Rho} {p1 p2 p3 p4 p5 pos : Pos}
/-- list(zip(a, b)) -/
theorem de_listZip (k c : Bool) {ds es : List PyData} (hc : X.calm = true) (hml : X.mg "list" = none) (hmz : X.mg "zip" = none) (ha : DA X ω ρ [a, b] [.dat (sq k ds), .dat (sq c es)] ω1) (hz : ds.length ≤ 1000) (hgl : Gl X "list" := by rfl) (hgz : Gl X "zip" := by rfl)
    (hs : starEach [a, b] X.env = (false, eval a X.env) :: starEach [b] X.env := by rfl) (hpl : (backTo p3 (starEach [b] X.env)).any (·.1) = false := by rfl)
    (nl : starEach [Expr.Call (.Name "zip" p2) [a, b] [] p3] X.env = (false, eval (Expr.Call (.Name "zip" p2) [a, b] [] p3) X.env) :: starEach [] X.env := by rfl) :
    DE X ω ρ (.Call (.Name "list" p5) [.Call (.Name "zip" p2) [a, b] [] p3] [] pos) (.dat (.list (prD ds es))) ω1 := by
  refine ⟨fun pins s σ H Q I0 ⟨hE, q⟩ => ?_⟩
  refine Call_ (ld_blt I0 hgl hml boot_list (PyProof.Rows.callWith_type1 (args_cons (Call_ (ld_blt I0 hgz hmz PyProof.Rows.boot_zip (PyProof.Rows.callWith_type1 (thn (ha.run p3 pins s σ H (fun vs H1 => Xt ω H ω1 H1 ∧ REs (dom ω1) H1 _ vs) I0 ⟨hE, fun vs H1 x1 r1 => ⟨x1, r1⟩⟩) fun us s1 ⟨vs, H1, I1, rv, x1, r1⟩ => ?_) hs hpl))) nl) nl))
  obtain ⟨v, w, rfl, r1, r2⟩ := REs.two r1
  obtain ⟨l, xs, rfl, nl1, el, rx⟩ := RE.sq r1
  obtain ⟨m, ys, rfl, nm, em, ry⟩ := RE.sq r2
  cases rv with
  | cons ra rv =>
    cases rv with
    | cons rb rv =>
      cases rv
      cases ra
      cases rb
      obtain ⟨its, rvx, q1⟩ := src_of I1 el
      obtain ⟨its2, rvy, q2⟩ := src_of I1 em
      have hl := src_lt q1
      have hm' := src_lt q2
      refine zip_begins2 (begins k l its.toArray) (begins c m its2.toArray) q1 q2 fun h' hzz hTI hTO g1 g2 hsz hk => args_nil ?_
      have I2 : Inv X pins σ H1 { s1 with heap := h' } := I1.kept (t' := s1.toks) hk
      have D := zip_sep2 (N := s1.heap.objs.size) (fp1 := [l]) (fp2 := [m]) (one_lt hl) (one_lt hm')
      have nN : h'.objs.size ∉ [s1.heap.objs.size + 4, s1.heap.objs.size + 2, s1.heap.objs.size + 3, s1.heap.objs.size, s1.heap.objs.size + 1, l, m] := fun z => by
        rw [hsz] at z
        simp only [List.mem_cons, List.not_mem_nil, or_false] at z
        have w1 : l ≠ s1.heap.objs.size + 5 := Nat.ne_of_lt (Nat.lt_of_lt_of_le hl (Nat.le_add_right _ _))
        have w2 : m ≠ s1.heap.objs.size + 5 := Nat.ne_of_lt (Nat.lt_of_lt_of_le hm' (Nat.le_add_right _ _))
        rcases z with z | z | z | z | z | z | z
        · exact absurd z (by omega)
        · exact absurd z (by omega)
        · exact absurd z (by omega)
        · exact absurd z (by omega)
        · exact absurd z (by omega)
        · exact w1 z.symm
        · exact w2 z.symm
      have S := src_zip (prog := X.prog) (w := X.w) (b := k) (c := c) (l := h'.objs.size) its.toArray its2.toArray D (Nat.ne_of_lt hl) (Nat.ne_of_lt (Nat.lt_succ_of_lt hm')) nN
      have st : ZSt k c (s1.heap.objs.size + 4) (s1.heap.objs.size + 2) (s1.heap.objs.size + 3) s1.heap.objs.size (s1.heap.objs.size + 1) l m h'.objs.size its.toArray its2.toArray 0 h' :=
        ⟨hTI, ⟨cur0 g1, src_at q1 fun o e => hk _ _ e⟩, ⟨cur0 g2, src_at q2 fun o e => hk _ _ e⟩, .inl ⟨hzz, _, _, hTO⟩⟩
      have lx := rvx.length
      have ly := rvy.length
      have dx := rx.length
      have dy := ry.length
      have fp : ∀ q, q ∈ [s1.heap.objs.size + 4, s1.heap.objs.size + 2, s1.heap.objs.size + 3, s1.heap.objs.size, s1.heap.objs.size + 1] → FpOk X pins H1 q := fun q hq => by
        have hle : s1.heap.objs.size ≤ q := by
          simp only [List.mem_cons, List.not_mem_nil, or_false] at hq
          rcases hq with r | r | r | r | r <;> rw [r] <;> first | exact Nat.le_add_right _ _ | exact Nat.le_refl _
        exact I1.fpOk hle (I1.hok.fresh hle)
      have lo : ∀ q, q ∈ [s1.heap.objs.size + 4, s1.heap.objs.size + 2, s1.heap.objs.size + 3, s1.heap.objs.size, s1.heap.objs.size + 1] → q < h'.objs.size := fun q hq => by
        rw [hsz]
        simp only [List.mem_cons, List.not_mem_nil, or_false] at hq
        rcases hq with r | r | r | r | r <;> rw [r] <;> omega
      refine call_list_tups (s := { s1 with heap := h' }) (I1.ok.hd hc) S (by rw [List.size_toArray, List.size_toArray]; omega) lo (lo _ (by simp)) (fun h y => y.zip) noLen_zip noHint_zip (fun A E s Q y h => ?_) (by decide) (by decide) (fun h2 y => st.upto nN fun b o _ e => y b o e) fun h2 tk ts kp hll hlen nd hts => ?_
      · obtain ⟨o, e, hcl⟩ := y.zip
        have hTy : s.TypeIs (.ref (s1.heap.objs.size + 4)) "zip" := ⟨o, e, hcl⟩
        refine wpAny_pyIter_slot hTy F.slot_zip_iter (wpAny_call_entry F.slot_zip_iter hTy F.entry_zip_iter ?_ (F.args_zip_iter_1 _))
        show wpAny _ _ (ret (.ref (s1.heap.objs.size + 4))) _ _ s
        exact wpAny_pure ⟨_, rfl, "zip", _, hTy, F.slot_zip_next.lookup, h⟩
      · obtain ⟨cc, hll⟩ := hll
        have hlen' : ts.length = (prV xs ys).length := by rw [hlen, List.length_map, List.length_zip, List.size_toArray, List.size_toArray, lx, ly]
        have nL : H1 h'.objs.size = none := I2.hok.fresh (Nat.le_refl _)
        have I3 : Inv X pins σ H1 { s1 with heap := h2, toks := tk } := Inv.turnedL (s := { s1 with heap := h' }) (h' := h2) I2 (t' := tk) (ch := [s1.heap.objs.size + 4, s1.heap.objs.size + 2, s1.heap.objs.size + 3, s1.heap.objs.size, s1.heap.objs.size + 1]) kp fp
        have hTs : ∀ T ∈ ts, h'.objs.size < T := fun T hT => by
          obtain ⟨j, hj, e⟩ := List.getElem_of_mem hT
          exact (hts j T (by rw [List.getElem?_eq_getElem hj, e])).1
        have hfp : ∀ {q : Addr}, h'.objs.size ≤ q → FpOk X pins H1 q ∧ X.s_0.heap.objs.size ≤ q := fun {q} h => ⟨I2.fpOk h (I2.hok.fresh h), Nat.le_trans I2.sz h⟩
        have I4 : Inv X pins σ (addT H1 ts (prV xs ys)) { s1 with heap := h2, toks := tk } := trackT hlen' nd I3 (fun T hT => hfp (Nat.le_of_lt (hTs T hT))) fun j T zs h1 h3 => by
          obtain ⟨x, y, rfl, ex, ey⟩ := prV_get h3
          obtain ⟨_, us, ⟨u, v, rfl, eu, ev⟩, eT⟩ := hts j T h1
          obtain ⟨u', hu', ru⟩ := rvx.get ex
          obtain ⟨v', hv', rv⟩ := rvy.get ey
          have e1 : u' = u := by
            have : its[j]? = some u := by simpa using eu
            rw [hu'] at this
            exact Option.some.inj this
          have e2 : v' = v := by
            have : its2[j]? = some v := by simpa using ev
            rw [hv'] at this
            exact Option.some.inj this
          subst e1 e2
          exact ⟨by show 2 ≤ sizeLine; decide, [u', v'], .cons ru (.cons rv .nil), ⟨_, eT, rfl, 0, rfl⟩⟩
        have nl' : h'.objs.size ∉ ts := fun z => Nat.lt_irrefl _ (hTs _ z)
        have fL := hfp (Nat.le_refl h'.objs.size)
        have fL2 : FpOk X pins (addT H1 ts (prV xs ys)) h'.objs.size := ⟨by rw [addT_out nl']; exact nL, fL.1.2⟩
        have I5 := track (o := .lst (ts.map V.ref)) I4 fL2 fL.2 ⟨by rw [List.length_map, hlen, List.size_toArray, List.size_toArray]; exact Nat.le_trans (Nat.min_le_left ..) (by rw [← lx, dx]; exact Nat.le_of_lt (small1000 hz)), _, _, refs_vals ts, hll⟩
        have nT : ∀ T ∈ ts, H1 T = none := fun T hT => I2.hok.fresh (Nat.le_of_lt (hTs T hT))
        have kp1 : Keep (dom ω1) H1 (addT H1 ts (prV xs ys)) := addT_keep nT nd
        have own1 : OwnOk ω1 (addT H1 ts (prV xs ys)) := x1.own.keep kp1 fun a ha => addT_out fun z => x1.own.fresh (nT a z) ha
        have x2 : Xt ω1 H1 ω1 (addT H1 ts (prV xs ys)) := ⟨rfl, own1, kp1⟩
        refine ⟨.ref h'.objs.size, _, I5, rfl, q _ _ ((x1.trans x2).trans (.upd own1 fL2.1)) (.newL own1 fL2.1 (rp_pairs (RpAll.mono kp1.hide _ _ rx) (RpAll.mono kp1.hide _ _ ry) (by rw [hlen, List.size_toArray, List.size_toArray, lx, ly]) fun j T zs h1 h3 => ?_))⟩
        have hT := List.mem_of_getElem? h1
        rw [hide_out fun z => x1.own.fresh (nT T hT) z, addT_at nd h1 h3]
end
end ZM

set_option Elab.async false
set_option linter.all false
set_option maxRecDepth 20000
set_option maxHeartbeats 2000000
namespace ZM
open PySem PySem.Spec PyProof.Rows L2 DL CB
abbrev kvD (p : List Int × Int) : PyData := .tuple [tupI p.1, .int p.2]
def putAllD (acc kvs : List (List Int × Int)) : List (List Int × Int) := kvs.foldl (fun a p => putD a p.1 p.2) acc
section
variable {X : Cx} {pins : List (Addr × Obj)} {σ : L2.St} {H : Hp} {s : Shared}
theorem pairs_tup (I : Inv X pins σ H s) {H' : Hp} (sm : Same H' H) : ∀ {xs : List V} {kvs : List (List Int × Int)}, RpAll H' xs (kvs.map kvD) →
    ∃ (prs : List (List Key × Addr × Value)) (Ts : List Addr), KT H (kvs.map kvT) prs ∧ xs = Ts.map V.ref ∧ Ts.length = prs.length ∧ ∀ (j : Nat) (q : List Key × Addr × Value), prs[j]? = some q → ∃ T, Ts[j]? = some T ∧ IsTup s.heap T #[.ref q.2.1, q.2.2]
  | xs, [], r => by
    rw [List.map_nil] at r
    cases r
    exact ⟨[], [], .nil, rfl, rfl, fun j q e => by simp at e⟩
  | xs, p :: kvs, r => by
    rw [List.map_cons] at r
    cases r with
    | cons r t =>
      obtain ⟨prs, Ts, k1, k2, k3, k4⟩ := pairs_tup I sm t
      subst k2
      cases r with
      | tup e q =>
        cases q with
        | cons q1 q =>
          cases q with
          | cons q2 q =>
            cases q
            cases q1 with
            | tup eb qb =>
              have hb := RpAll.ints qb
              subst hb
              cases q2
              rename_i T b
              obtain ⟨its, rv, ht, _⟩ := I.tuple (SqT.of (sm _ _ e))
              obtain ⟨u, y, ei, ru, ry⟩ := vals2 rv
              subst ei
              cases (show u = Value.ref b from ru)
              refine ⟨(p.1.map Sum.inl, b, y) :: prs, T :: Ts, .cons ⟨rfl, ?_, ry⟩ k1, rfl, by rw [List.length_cons, List.length_cons, k3], fun j q e' => ?_⟩
              · have h1 := sm _ _ eb
                rw [h1]
                show some (HO.tup (p.1.map V.int)) = some (HO.tup ((p.1.map Sum.inl).map kV))
                rw [List.map_map]; rfl
              · cases j with
                | zero =>
                  have e2 := Option.some.inj e'
                  subst e2
                  exact ⟨T, rfl, ht⟩
                | succ j =>
                  obtain ⟨T', e1, e2⟩ := k4 j q (by simpa using e')
                  exact ⟨T', by simpa using e1, e2⟩
theorem KT.all : ∀ {kvs acc : List (List Int × Int)} {prs xs : List (List Key × Addr × Value)}, KT H (kvs.map kvT) prs → KT H (acc.map kvT) xs → KT H ((putAllD acc kvs).map kvT) (storedAllH xs prs)
  | [], acc, prs, xs, r, q => by
    rw [List.map_nil] at r
    cases r
    exact q
  | p :: kvs, acc, prs, xs, r, q => by
    rw [List.map_cons] at r
    cases r with
    | cons r t =>
      rename_i b bs
      obtain ⟨r1, r2, r3⟩ := r
      refine KT.all (kvs := kvs) (acc := putD acc p.1 p.2) (prs := bs) (xs := storedH xs b.1 b.2.1 b.2.2) t ?_
      rw [← putK_kvT]
      have r1 : p.1.map Sum.inl = b.1 := r1
      rw [← r1]
      exact L2.KT.put q _ r2 r3
/-- dict(list of pairs) -/
theorem call_dictT (hc : X.calm = true) (hu : X.A.units + 2 < cLine) (I : Inv X pins σ H s) {l : Addr} {xs : List V} {kvs : List (List Int × Int)} {O : List Addr} {Q : VK} (el : H l = some (.lst xs)) (r : RpAll (hide O H) xs (kvs.map kvD)) (hz : kvs.length ≤ 1000)
    (q : ∀ p, H p = none → Q (.ref p) (upd H p (.dT ((putAllD [] kvs).map kvT)))) : wpAny (model X.prog X.w) X.A (call (.type "dict") [.ref l]) (EP X pins σ Q) X.xe s := by
  obtain ⟨prs, Ts, k1, k2, k3, k4⟩ := pairs_tup I hide_le r
  subst k2
  obtain ⟨its, rv, pl, hzl⟩ := I.list (SqL.of el)
  have ei := refs_at rv
  subst ei
  obtain ⟨o, n, ho, hcl, hd, hdat⟩ := pl
  have lk : prs.length = kvs.length := by
    have := Paired.length k1
    rw [List.length_map] at this
    exact this.symm
  have keyAt : ∀ x ∈ prs, H x.2.1 = some (.tup (x.1.map kV)) := by
    have all : ∀ {l : List (List Key × V)} {m : List (List Key × Addr × Value)}, KT H l m → ∀ x ∈ m, H x.2.1 = some (.tup (x.1.map kV)) := by
      intro l m q
      induction q with
      | nil => intro x hx; exact nomatch hx
      | @cons p q ps qs hq t ih =>
        intro x hx
        rcases List.mem_cons.mp hx with e | hx
        · subst e
          have h2 := hq.2.1
          rw [hq.1] at h2
          exact h2
        · exact ih x hx
    exact all k1
  have P := PairArg.list (prog := X.prog) (w := X.w) l (Ts.map Value.ref).toArray (fun j => Ts.getD j 0) (prs.map fun q => (Value.ref q.2.1, q.2.2))
  refine call_dict_pairsH (knd := tupleKind (mixKind X.prog X.w)) (ps := prs) P (I.ok.hd hc) (tupleKind_room_in1 (A := X.A.in1) (by show X.A.units + 1 + 1 < cLine; omega)) ⟨⟨o, n, ho, hcl, hd, hdat⟩, ?_, fun j k v e => ?_⟩ ⟨?_, fun i key v e => ?_⟩ (fun h' hk x hx => ?_) ?_ fun h' tk hd' hk => ?_
  · rw [List.size_toArray, List.length_map, List.length_map, k3]
  · rw [List.getElem?_map] at e
    cases e2 : prs[j]? with
    | none => rw [e2] at e; cases e
    | some q =>
      rw [e2] at e
      cases e
      obtain ⟨T, h1, h2⟩ := k4 j q e2
      have hT : Ts.getD j 0 = T := by rw [List.getD_eq_getElem?_getD, h1]; rfl
      show (Ts.map Value.ref).toArray[j]? = some (.ref (Ts.getD j 0)) ∧ PairAt s.heap (Ts.getD j 0) _ _
      rw [hT]
      exact ⟨by simp [h1], .inl h2⟩
  · rw [List.length_map]
  · have e : (prs.map fun q => (Value.ref q.2.1, q.2.2))[i]? = some (key, v) := e
    rw [List.getElem?_map] at e
    cases e2 : prs[i]? with
    | none => rw [e2] at e; cases e
    | some q =>
      rw [e2] at e
      cases e
      exact ⟨q.1, q.2.1, rfl, rfl⟩
  · obtain ⟨o', its', n', h1, h2, h3, h4⟩ := key_of (P := X.prog) (w := X.w) I.hok (keyAt x hx)
    exact ⟨o', its', n', hk _ _ (Nat.ne_of_lt (Heap.lt_size h1)) (fun z => nomatch z) h1, h2, h3, h4⟩
  · rw [List.length_map, lk]
    exact Nat.le_of_lt (small1000 hz)
  · have hm : (s.heap.objs.size == sysModules) = false := beq_eq_false_iff_ne.mpr (Nat.ne_of_gt I.big)
    have kt := KT.all (acc := []) k1 .nil
    obtain ⟨od, es, ep, g1, g2, g3, g4, _, g5⟩ := hd'
    have nH : H s.heap.objs.size = none := I.hok.fresh (Nat.le_refl _)
    have hlen : ((putAllD [] kvs).map kvT).length ≤ sizeLine := by
      rw [Paired.length kt]
      refine Nat.le_trans (storedAllH_length prs []) ?_
      rw [List.length_nil, Nat.zero_add, lk]
      exact Nat.le_of_lt (small1000 hz)
    exact ⟨.ref s.heap.objs.size, _, I.laid (a := s.heap.objs.size) (o := .dT ((putAllD [] kvs).map kvT)) (t' := tk) (fun b ob e => hk b ob (fun z => nomatch z) e) (Nat.le_refl _)
      ⟨hlen, hm, _, kt.keeps fun b ys e => by rw [upd_ne (ne_of_none e nH)]; exact e, od, es, ep, g1, g2, g3, g4, g5⟩, rfl, q _ nH⟩
end
/-! ### new objects of one's own -/
def tNew (ω : Own) (ρ : Rho) (oc : OC) : TE := fun σ H Q => EOk ω ρ σ H ∧ ∀ p H', H p = none → OwnOk (ω ++ [(p, oc)]) H' → Keep (dom ω) H H' → Q (.ref p) H'
abbrev DNew (X : Cx) (ω : Own) (ρ : Rho) (a : Expr) (oc : OC) : Prop := PE X a (tNew ω ρ oc)
theorem tNew.of {ω : Own} {oc : OC} {H H1 : Hp} {p : Addr} {o : HO} {Q : VK} (q : ∀ p H', H p = none → OwnOk (ω ++ [(p, oc)]) H' → Keep (dom ω) H H' → Q (.ref p) H') (x : Xt ω H ω H1) (np : H1 p = none) (hc : HC (dom ω ++ [p]) (L2.upd H1 p o) p oc) : Q (.ref p) (L2.upd H1 p o) := by
  have n0 : H p = none := by
    cases e : H p with
    | none => rfl
    | some u =>
      by_cases z : p ∈ dom ω
      · exact absurd z (x.own.fresh np)
      · rw [x.keep _ _ z e] at np
        cases np
  exact q p _ n0 (x.own.snoc np hc) (x.keep.trans (Keep.upd np))
section
variable {X : Cx} {a b : Expr} {ω ω' : Own} {ρ : Rho} {e : Ent} {ss : List Stmt} {p2 pos : Pos}
theorem dr_newG (i : Nat) {x : Str} {oc : OC} (hN : X.N.Nodup) (he : DNew X ω ρ a oc) (h : ∀ p, DR X (ω ++ [(p, oc)]) (ρ.set i (some (.own p))) ss e ω')
    (hi : X.N[i]? = some x := by rfl) (hx : Loc X.env.scope x := by first | exact Or.inl rfl | exact Or.inr rfl) (hs : swapsWith a (some (.Name x p2)) pos.line X.env = pure false := by rfl)
    (hf : X.fn x = true ∨ X.env.scope.names.lookup x = some .local := by first | exact .inl rfl | exact .inr rfl | assumption) : DR X ω ρ (.Assign [.Name x p2] a pos :: ss) e ω' := by
  have hall : PSs X ss (fun D σ H => ∃ p : Addr, True ∧ tRt (ω ++ [(p, oc)]) (ρ.set i (some (.own p))) e ω' D σ H) := pss_ex (p := fun _ => True) (t := fun p => tRt (ω ++ [(p, oc)]) (ρ.set i (some (.own p))) e ω') fun p _ => h p
  refine pss_w (pss_cons (ps_set hN hi hx he hs hf) hall) fun D σ H ⟨hE, q⟩ => ⟨hE, fun p H1 np ok kp => ⟨p, trivial, ?_, fun v H' kk oo rr => q v H' (fun b' u nb hb => ?_) oo rr⟩⟩
  · have E1 : EOk (ω ++ [(p, oc)]) ρ σ H1 := ⟨ok, hE.len, fun i e h => let ⟨v, h1, h2⟩ := hE.val i e h; ⟨v, h1, by rw [dom_app]; exact h2.hideMore np kp⟩⟩
    exact E1.set (e := .own p) rfl
  · refine kk b' u (fun z => ?_) (kp _ _ nb hb)
    rw [dom_app] at z
    exact (List.mem_append.mp z).elim nb fun z => ne_of_none hb np (by simpa [dom] using z)
theorem new_dict {kvs : List (List Int × Int)} (hc : X.calm = true) (hu : X.A.units + 2 < cLine) (hm : X.mg "dict" = none) (ha : DE X ω ρ a (.dat (.list (kvs.map kvD))) ω) (hz : kvs.length ≤ 1000) (hg : Gl X "dict" := by rfl)
    (na : starEach [a] X.env = (false, eval a X.env) :: starEach [] X.env := by rfl) : DNew X ω ρ (.Call (.Name "dict" p2) [a] [] pos) (.dct (putAllD [] kvs)) := by
  refine ⟨fun pins s σ H Q I ⟨hE, q⟩ => ?_⟩
  refine Call_ (ld_blt I hg hm (by rfl) (PyProof.Rows.callWith_type1 (args_cons (thn (ha.run pins s σ H (fun v H1 => Xt ω H ω H1 ∧ RE (dom ω) H1 _ v) I ⟨hE, fun v H1 x1 r1 => ⟨x1, r1⟩⟩) fun u s1 ⟨v, H1, I1, rv, x1, r1⟩ => args_nil ?_) na) na))
  obtain ⟨l, xs, rfl, nl, el, r⟩ := r1.lst
  cases rv
  exact call_dictT hc hu I1 el r hz fun p np => tNew.of q x1 np L2.upd_same
theorem disp_walk {prog : Program} {w : World} {A : Around} {E : Value → Shared → Prop} {s : Shared} {K : Type} [DecidableEq K] {knd : HeapKind prog w K} {env : Env} {keys : List (Option Expr)} {values : List Expr} {pairs : List (Sem Value × Sem Value)} {Q : Value → Shared → Prop} (hu : knd.room A)
    (hshape : (evalEachOpt keys env).zip ((evalEach values env).map fun v => do let x ← v; standAt pos; pure x) = pairs.map fun p => (some p.1, p.2)) (h0 : pairs ≠ []) (hlen : pairs.length ≤ 15)
    (h : wpAny (model prog w) A (evalPairs pairs) (fun vs s1 => ∃ ps, CarriesH knd s1.heap vs ps ∧ s1.heap.DictOfH knd s.heap.objs.size [] ∧
      ∀ h' tk, h'.DictOfH knd s.heap.objs.size (storedAllH [] ps) → Heap.SameBut s.heap.objs.size s1.heap h' → Q (.ref s.heap.objs.size) { s1 with heap := h', toks := tk }) E { s with heap := s.heap.push { cls := .type "dict", data := .dict #[] } }) :
    wpAny (model prog w) A (eval (.Dict keys values pos) env) Q E s := by
  rw [arm_eval_Dict, hshape, dictDisplay_pairs pairs h0 (by omega)]
  refine wpAny_bind (wpAny_standAt (wpAny_bind (wpAny_subDictH (knd := knd) (Q := fun d s' => wpAny (model prog w) A (pure (Value.ref d)) Q E s') hu hlen (wpAny_mono h (fun vs s1 h1 => ?_) fun _ _ e => e))))
  obtain ⟨ps, c, m, q⟩ := h1
  exact ⟨ps, c, m, fun h' tk a b => wpAny_pure (q h' tk a b)⟩
/-- {k: v} -/
theorem new_disp1 {k v : Expr} {g : List Int} {n : Int} (hu : X.A.units + 2 < cLine) (hk : ∀ p, DE X (ω ++ [(p, .dct [])]) ρ k (.dat (tupI g)) (ω ++ [(p, .dct [])])) (hv : ∀ p, DE X (ω ++ [(p, .dct [])]) ρ v (I n) (ω ++ [(p, .dct [])])) :
    DNew X ω ρ (.Dict [some k] [v] pos) (.dct [(g, n)]) := by
  refine ⟨fun pins s σ H Q I ⟨hE, q⟩ => ?_⟩
  have hn := I.hok.fresh (Nat.le_refl s.heap.objs.size)
  have I1 := I.laid (a := s.heap.objs.size) (o := .dT []) (h' := s.heap.push { cls := .type "dict", data := .dict #[] }) (t' := s.toks) (fun _ _ q => Heap.get?_push_of_some _ q) (Nat.le_refl _) (dt_empty s.heap I.big)
  have E1 : EOk (ω ++ [(s.heap.objs.size, .dct [])]) ρ σ (L2.upd H s.heap.objs.size (.dT [])) := hE.snoc hn L2.upd_same
  refine disp_walk (knd := tupleKind (mixKind X.prog X.w)) (pairs := pairTrees [some k] [v] X.env pos) (by show X.A.units < cLine; omega) (by rfl) (fun z => nomatch z) (by show (1 : Nat) ≤ 15; decide) ?_
  refine pairTrees_cons_walk (thn ((hk s.heap.objs.size).run pins _ σ _ (fun x H2 => Xt (ω ++ [(s.heap.objs.size, .dct [])]) (L2.upd H s.heap.objs.size (.dT [])) (ω ++ [(s.heap.objs.size, .dct [])]) H2 ∧ RE (dom (ω ++ [(s.heap.objs.size, .dct [])])) H2 (.dat (tupI g)) x) I1 ⟨E1, fun x H2 x2 r2 => ⟨x2, r2⟩⟩) fun u s2 ⟨x, H2, I2, rx, x2, r2⟩ => ?_)
  refine thn ((hv s.heap.objs.size).run pins s2 σ H2 (fun y H3 => Xt (ω ++ [(s.heap.objs.size, .dct [])]) H2 (ω ++ [(s.heap.objs.size, .dct [])]) H3 ∧ RE (dom (ω ++ [(s.heap.objs.size, .dct [])])) H3 (DL.I n) y) I2 ⟨E1.xt x2, fun y H3 x3 r3 => ⟨x3, r3⟩⟩) fun u2 s3 ⟨y, H3, I3, ry, x3, r3⟩ => pairTrees_nil_walk ?_
  obtain ⟨t, rfl, nt, et⟩ := key_tup (x3.re r2)
  cases rx
  have ey := r3.int
  subst ey
  have eh : H3 s.heap.objs.size = some (.dT []) := x3.own.at_ (s.heap.objs.size, .dct []) (by simp)
  obtain ⟨z, hd, xs, rel, dd⟩ := dt_of I3.hok eh
  cases rel
  refine ⟨[(g.map Sum.inl, t, u2)], ⟨rfl, rfl, key_of I3.hok et, True.intro⟩, dd, fun h' tk dd' hs => ?_⟩
  obtain ⟨od, es, ep, g1, g2, g3, g4, _, g5⟩ := dd'
  have hm : H3 s.heap.objs.size = some (.dT []) := eh
  have I4 : Inv X pins σ (L2.upd H3 s.heap.objs.size (.dT ([(g, n)].map kvT))) { s3 with heap := h', toks := tk } := by
    refine d_write I3 (by rw [hm]; exact True.intro) hs ⟨od, g1⟩ ⟨?_, hd, [(g.map Sum.inl, t, u2)], .cons ⟨rfl, ?_, ry⟩ .nil, od, es, ep, g1, g2, g3, g4, g5⟩
    · show 1 ≤ sizeLine; decide
    · rw [L2.upd_ne (ne_of et hm (fun z => nomatch z))]
      exact et
  refine ⟨.ref s.heap.objs.size, _, I4, rfl, q _ _ hn (OwnOk.put (ωa := ω) (ωb := []) (c := .dct []) x3.own L2.upd_same) ?_⟩
  have k1 : Keep (dom ω) H (L2.upd H s.heap.objs.size (.dT [])) := Keep.upd hn
  have k2 : Keep (dom (ω ++ [(s.heap.objs.size, .dct [])])) (L2.upd H s.heap.objs.size (.dT [])) H3 := (x2.trans x3).keep
  intro b o nb hb
  have nbs := ne_of_none hb hn
  rw [L2.upd_ne nbs]
  refine k2 b o (fun z => ?_) (k1 b o nb hb)
  rw [dom_app] at z
  exact (List.mem_append.mp z).elim nb fun z => nbs (by simpa [dom] using z)
end
end ZM

set_option Elab.async false
set_option linter.all false
set_option maxRecDepth 20000
set_option maxHeartbeats 2000000
namespace ZM
open PySem PySem.W PySem.Spec PyProof.Rows
/-! ### tuple(d.values()) -/
section
variable {prog : Program} {w : World} {A : Around} {E : Value → Shared → Prop} {s : Shared} {T : String} {r d : Addr} {n : Nat} {P : Nat → Value → Prop} {OK : Heap → Prop}
theorem kdl_raw {es : Array DictEntry} {ep : Nat} : KdlSrc prog w "dict_values" r d es.size (fun i v => ∃ e, es[i]? = some e ∧ e.val = v) (fun h => h.IsValuesView r d ∧ h.DictRaw d es ep) where
  type := fun _ m => m.1.typeIs
  there := fun _ m => ⟨by obtain ⟨_, o, _⟩ := m.1; exact Heap.lt_size o, by obtain ⟨_, o, _⟩ := m.2; exact Heap.lt_size o⟩
  keep := fun _ _ m k => ⟨by obtain ⟨o, h, x⟩ := m.1; exact ⟨o, k r (.inl rfl) o h, x⟩, m.2.at fun o e => k d (.inr rfl) o e⟩
  notList := by decide
  notTuple := by decide
  hint := fun _ _ _ _ m q => kdl_hint_values m.1.typeIs q
  iter := fun A s hh m => by
    have lt : d < s.heap.objs.size := by obtain ⟨_, o, _⟩ := m.2; exact Heap.lt_size o
    refine ⟨_, fun i h => h.IsValIter s.heap.objs.size d i es.size ep ∧ h.DictRaw d es ep, fun E Q q => wpAny_pyIter_values_raw m.1 m.2 q, ⟨fun b hb => ?_, fun i h h' st k => ?_, fun i s1 Q E hi st hQ => ?_, fun s1 Q E st hQ => ?_, fun i s1 Q E st hQ => wpAny_pyIter_valiter st.1 hQ⟩, ⟨_, Heap.get?_push_size _ rfl, rfl, rfl⟩, m.2.at fun o e => Heap.get?_push_of_some _ e⟩
    · rw [List.mem_singleton.mp hb]; exact List.mem_cons_self
    · exact ⟨st.1.at fun o e => k _ List.mem_cons_self o e, st.2.at fun o e => k d (by simp) o e⟩
    · refine wpAny_pyNext_values_item_raw st.1 st.2 hi fun h' st' sb => hQ es[i].val h' s1.toks ⟨es[i], Array.getElem?_eq_getElem hi, rfl⟩ ⟨st', st.2.at fun o e => sb.extBut _ _ (Nat.ne_of_lt lt) e⟩ fun b o hb e => sb.extBut b o (fun z => hb (by rw [z]; exact List.mem_singleton.mpr rfl)) e
    · exact wpAny_pyNext_values_end_raw hh st.1 st.2 (Nat.le_refl _) fun h' eb => hQ h' s1.toks fun b o hb e => eb b o (fun z => hb (by rw [z]; exact List.mem_singleton.mpr rfl)) e
theorem collect_kdl {Q : List Value → Shared → Prop} (K : KdlSrc prog w T r d n P OK) (hh : A.handled = none) (hok : OK s.heap) (hn : n ≤ sizeLine)
    (hQ : ∀ (h' : Heap) (tk : Nat) (acc : Array Value), (∀ b o, s.heap.get? b = some o → h'.get? b = some o) → ItemsOf P acc n → Q acc.toList { s with heap := h', toks := tk }) : wpAny (model prog w) A (collect (.ref r)) Q E s := by
  have lt := K.there _ hok
  unfold collect
  refine wpAny_bind (wpAny_runValue (codeAny_builtin F.entry_proto_collect ?_))
  rw [Around.under_plainId F.plain_proto_collect _]
  show wpAny _ A.in1 (newList [] >>= fun l => again (.builtin "list.__iadd__" ⟨[l, .ref r], []⟩)) _ _ s
  refine wpAny_bind (wpAny_newObj_type ?_)
  refine wpAny_pure ⟨plainId_quiet F.plain_list_iadd _, codeAny_builtin F.entry_list_iadd ?_⟩
  rw [Around.under_plainId F.plain_list_iadd _]
  show wpAny _ A.in1 (Builtin.List.listExtendWith (.ref s.heap.objs.size) (.ref r) (.ref s.heap.objs.size)) _ _ _
  have hS : (s.heap.push { cls := .type "list", data := .seq ([] : List Value).toArray }).get? s.heap.objs.size = some { cls := .type "list", data := .seq #[] 0 } := Heap.get?_push_size _ rfl
  refine wpAny_mono (kdl_extend (A := A) (s := { s with heap := s.heap.push { cls := .type "list", data := .seq ([] : List Value).toArray } }) (R := fun rr s' => rr = .ok (.ret (.ref s.heap.objs.size)) ∧ ∃ (h' : Heap) (tk : Nat) (acc : Array Value) (c' : Nat), s' = { s with heap := h', toks := tk } ∧
      (∀ b o, s.heap.get? b = some o → h'.get? b = some o) ∧ h'.get? s.heap.objs.size = some { cls := .type "list", dict := none, data := .seq acc c', slots := #[] } ∧ ItemsOf P acc n)
    K hh (K.keep _ _ hok fun b _ o e => Heap.get?_push_of_some _ e) s.heap.objs.size (Nat.ne_of_gt lt.1) (Nat.ne_of_gt lt.2) (.ref s.heap.objs.size) 0 hS
    (fun h' tk acc c' hk e hi => ⟨rfl, h', tk, acc, c', rfl, fun b o q => hk b o (Nat.ne_of_lt (Heap.lt_size q)) (Heap.get?_push_of_some _ q), e, hi⟩) hn) (fun fin s' h => ?_) (fun e s' h => ?_)
  · cases fin with
    | done f =>
      obtain ⟨e, h', tk, acc, c', rfl, hk, hS', hi⟩ := h
      cases e
      show wpAny _ A (load s.heap.objs.size >>= _) _ _ _
      exact wpAny_bind (wpAny_load hS' (wpAny_pure (hQ h' tk acc hk hi)))
    | again c' =>
      refine ⟨h.1, codeAny_mono h.2 fun rr s2 hr => ?_⟩
      obtain ⟨rfl, h', tk, acc, c', rfl, hk, hS', hi⟩ := hr
      show wpAny _ A (load s.heap.objs.size >>= _) _ _ _
      exact wpAny_bind (wpAny_load hS' (wpAny_pure (hQ h' tk acc hk hi)))
  · exact absurd h.1 (by simp)
theorem code_tuple_kdl {Q₁ : Value → Shared → Prop} (K : KdlSrc prog w T r d n P OK) (hh : A.handled = none) (hok : OK s.heap) (hn : n ≤ 1000)
    (h : ∀ (h' : Heap) (tk : Nat) (acc : Array Value), (∀ b o, s.heap.get? b = some o → h'.get? b = some o) → ItemsOf P acc n → Q₁ (.ref h'.objs.size) { s with heap := h'.push { cls := .type "tuple", data := .seq acc }, toks := tk }) :
    codeAny (model prog w) A (.call (.builtin "tuple.__new__") ⟨[.type "tuple", .ref r], []⟩) (wants Q₁ E) s := by
  refine codeAny_of_tree ?_
  show wpAny _ A.in1 (do checkBuiltinCall "tuple.__new__" ⟨[.type "tuple", .ref r], []⟩; again (.builtin "tuple.__new__" ⟨[.type "tuple", .ref r], []⟩)) _ _ s
  refine wpAny_bind (wpAny_of_eq (F.newCall_tuple_1 _) (wpAny_pure ⟨plainId_quiet F.plain_tuple_new _, codeAny_builtin F.entry_tuple_new ?_⟩))
  rw [Around.under_plainId F.plain_tuple_new _]
  have h1 := sub_tuple_self
  have h2 := init_tuple_lookup
  have h3 := madeHere_tuple
  have hTI := K.type s hok
  have hA : A.in1.handled = none := hh
  have n1 := K.notTuple
  have n2 := K.notList
  have hz : n ≤ sizeLine := Nat.le_trans hn (by decide)
  wp_walk using wpAny_typeOf hTI, collect_kdl (A := A.in1) K hA hok hz
  intro h' tk acc hk hi
  show wpAny _ _ (Builtin.Tuple.tupleExact acc.toList.toArray >>= fun v => ret v) _ _ _
  unfold Builtin.Tuple.tupleExact
  refine wpAny_bind (wpAny_newObj_type ?_ (by show acc.toList.toArray.size ≤ sizeLine; simp only [Array.toArray_toList]; rw [hi.1]; exact hz))
  refine wpAny_pure ?_
  have e : acc.toList.toArray = acc := by simp
  rw [e]
  exact h h' tk acc hk hi
end
end ZM

set_option Elab.async false
set_option linter.all false
set_option maxRecDepth 20000
set_option maxHeartbeats 2000000
namespace ZM
open PySem PySem.W PySem.Spec PyProof.Rows L2 DL CB
theorem vals_at : ∀ {xs : List V} {us : List Value}, xs.length = us.length → (∀ (i : Nat) (x : V) (u : Value), xs[i]? = some x → us[i]? = some u → RelV x u) → Vals xs us
  | [], [], _, _ => .nil
  | [], _ :: _, h, _ => by simp at h
  | _ :: _, [], h, _ => by simp at h
  | x :: xs, u :: us, hl, h => .cons (h 0 x u rfl rfl) (vals_at (by simpa using hl) fun i y v e1 e2 => h (i + 1) y v (by simpa using e1) (by simpa using e2))
section
variable {X : Cx} {a : Expr} {ω ω1 : Own} {ρ : Rho} {p2 apos cpos pos : Pos}
/-- tuple(d.values()), d a dict of one's own -/
theorem de_tupVals {p : Addr} {kvs : List (List Int × Int)} (hc : X.calm = true) (hm : X.mg "tuple" = none) (ho : DE X ω ρ a (.own p) ω) (hin : (p, OC.dct kvs) ∈ ω) (hz : kvs.length ≤ 1000) (hg : Gl X "tuple" := by rfl)
    (hbase : attributeBase a "values" X.env (eval a X.env) = eval a X.env := by rfl) (hline : (apos.endLine == cpos.line) = true := by rfl)
    (na : starEach [Expr.Call (.Attribute a "values" apos) [] [] cpos] X.env = (false, eval (Expr.Call (.Attribute a "values" apos) [] [] cpos) X.env) :: starEach [] X.env := by rfl) :
    DE X ω ρ (.Call (.Name "tuple" p2) [.Call (.Attribute a "values" apos) [] [] cpos] [] pos) (.dat (.tuple (kvs.map fun q => .int q.2))) ω := by
  refine ⟨fun pins s σ H Q I ⟨hE, q⟩ => ?_⟩
  refine Call_ (ld_blt I hg hm boot_tuple (PyProof.Rows.callWith_type1 (args_cons ?_ na) na))
  refine wpAny_Call_method (T := "dict") (id := "dict.values") hbase rfl hline F.plainAttrs_dict F.slot_dict_values F.type_dict_values (thn (ho.run pins s σ H (fun v H1 => Xt ω H ω H1 ∧ v = .ref p) I ⟨hE, fun v H1 x1 r1 => ⟨x1, r1⟩⟩) fun u s1 ⟨x, H1, I1, rx, x1, ex⟩ => ?_)
  subst ex
  obtain rfl : u = Value.ref p := rx
  have eh : H1 p = some (.dT (kvs.map kvT)) := x1.own.at_ _ hin
  obtain ⟨z, hs, xs, rel, dd⟩ := dt_of I1.hok eh
  obtain ⟨es, ep, raw, hsz, hes⟩ := dd.raw
  obtain ⟨o, g1, g2, g3⟩ := id raw
  refine ⟨raw.typeIs, fun b e => ?_, ?_⟩
  · cases e
    exact ⟨o, g1, g2.2.1⟩
  · show wpAny _ _ (callWith cpos (.builtin "dict.values") [.ref p] [] []) _ X.xe s1
    refine method_meetsIn F.slot_dict_values F.entry_dict_values rfl (PySem.evalArgs_none ⟨rfl, raw.typeIs, F.args_dict_values_1 _, _, meets_dict_values_raw p hs, ⟨⟨es, ep, raw⟩, args_nil ?_⟩⟩)
    have I2 : Inv X pins σ H1 { s1 with heap := s1.heap.push { cls := .type "dict_values", data := .fields #[.ref p] } } := I1.kept (t' := s1.toks) fun b ob q => Heap.get?_push_of_some _ q
    have lk : es.size = kvs.length := by
      have := Paired.length rel
      rw [List.length_map] at this
      omega
    have K := kdl_raw (prog := X.prog) (w := X.w) (r := s1.heap.objs.size) (d := p) (es := es) (ep := ep)
    have ok : (s1.heap.push { cls := .type "dict_values", data := .fields #[.ref p] }).IsValuesView s1.heap.objs.size p ∧ (s1.heap.push { cls := .type "dict_values", data := .fields #[.ref p] }).DictRaw p es ep :=
      ⟨⟨_, Heap.get?_push_size _ rfl, rfl, rfl⟩, raw.at fun o e => Heap.get?_push_of_some _ e⟩
    refine callType_codes (Q₁ := fun obj s2 => s2.TypeIs obj "tuple" ∧ EP X pins σ Q obj s2) F.called_tuple (F.typeCall_tuple_1 _) F.entry_object_init
      (code_tuple_kdl (A := X.A.in1) (s := { s1 with heap := s1.heap.push { cls := .type "dict_values", data := .fields #[.ref p] } }) K (I1.ok.hd hc) ok (by omega) fun h' tk acc hk hi => ⟨⟨_, Heap.get?_push_size _ rfl, rfl⟩, ?_⟩) fun obj s2 h2 => ?_
    · have I3 : Inv X pins σ H1 { s1 with heap := h', toks := tk } := Inv.kept (s := { s1 with heap := s1.heap.push { cls := .type "dict_values", data := .fields #[.ref p] } }) (h' := h') I2 (t' := tk) hk
      have nH : H1 h'.objs.size = none := I3.hok.fresh (Nat.le_refl _)
      have rv : Vals (kvs.map fun q => V.int q.2) acc.toList := by
        have la : acc.toList.length = acc.size := Array.length_toList
        refine vals_at (by rw [List.length_map, la, hi.1, lk]) fun i x u e1 e2 => ?_
        rw [Array.getElem?_toList] at e2
        obtain ⟨en, e3, e4⟩ := hi.2 i u e2
        obtain ⟨hlt, e5⟩ := Array.getElem?_eq_some_iff.mp e3
        obtain ⟨y, y1, _, y3, _⟩ := hes i hlt
        rw [List.getElem?_map] at e1
        cases e6 : kvs[i]? with
        | none => rw [e6] at e1; cases e1
        | some kv =>
          rw [e6] at e1
          cases e1
          obtain ⟨y', h1, h2⟩ := paired_get rel (i := i) (a := kvT kv) (by rw [List.getElem?_map, e6]; rfl)
          rw [y1] at h1
          cases h1
          rw [← e4, ← e5, y3]
          exact h2.2.2
      have I4 : Inv X pins σ (L2.upd H1 h'.objs.size (.tup (kvs.map fun q => V.int q.2))) { s1 with heap := h'.push { cls := .type "tuple", data := .seq acc }, toks := tk } := by
        refine Inv.laid (s := { s1 with heap := h', toks := tk }) I3 (t' := tk) (fun b o e => Heap.get?_push_of_some _ e) (Nat.le_refl _) ⟨by rw [List.length_map]; exact Nat.le_of_lt (small1000 hz), acc.toList, ?_, ?_⟩
        · exact rv
        · have e : acc.toList.toArray = acc := by simp
          rw [e]
          exact IsTup.new _ _
      refine ⟨.ref h'.objs.size, _, I4, rfl, q _ _ (x1.trans (.upd x1.own nH)) (.newT x1.own nH ?_)⟩
      have e1 : (kvs.map fun q => V.int q.2) = (kvs.map (·.2)).map V.int := by rw [List.map_map]; rfl
      have e2 : (kvs.map fun q => PyData.int q.2) = (kvs.map (·.2)).map PyData.int := by rw [List.map_map]; rfl
      rw [e1, e2]
      exact .of_ints
    · exact ⟨h2.1, F.args_object_init_2 obj _, object_init_meets F.called_tuple.init.lookup F.called_tuple.made (by decide) X.prog X.w X.A.in1 _ s2 ⟨h2.1, rfl, h2.2⟩⟩
end
end ZM

set_option Elab.async false
set_option linter.all false
set_option maxRecDepth 20000
set_option maxHeartbeats 2000000
namespace ZM
open PySem PySem.W PySem.Spec PyProof.Rows L2 DL CB
/-! ### a dict of one's own is read by a statement -/
structure Seqs (H H' : Hp) : Prop where
  l : ∀ b xs, H b = some (.lst xs) → H' b = some (.lst xs)
  t : ∀ b xs, H b = some (.tup xs) → H' b = some (.tup xs)
mutual
theorem Rp.seqs {H H' : Hp} (m : Seqs H H') : ∀ (d : PyData) (v : V), Rp H v d → Rp H' v d
  | .none, _, h => by cases h; exact .non
  | .bool b, _, h => by cases h; exact .bl b
  | .int i, _, h => by cases h; exact .int i
  | .str x, _, h => by cases h; exact .str x
  | .list ds, _, h => by
    cases h with
    | lst e r => exact .lst (m.l _ _ e) (RpAll.seqs m ds _ r)
  | .tuple ds, _, h => by
    cases h with
    | tup e r => exact .tup (m.t _ _ e) (RpAll.seqs m ds _ r)
  | .dict _, _, h => by cases h
theorem RpAll.seqs {H H' : Hp} (m : Seqs H H') : ∀ (ds : List PyData) (vs : List V), RpAll H vs ds → RpAll H' vs ds
  | [], _, h => by cases h; exact .nil
  | d :: ds, _, h => by
    cases h with
    | cons a b => exact .cons (Rp.seqs m d _ a) (RpAll.seqs m ds _ b)
end
/-- the variables while p is locked, from those ahead: none of them a dict but p's own -/
inductive LkL (p : Addr) (kvs : List (List Int × Int)) : Rho → Rho → Prop
  | nil : LkL p kvs [] []
  | same {x : Option Ent} {xs ys : Rho} : LkL p kvs xs ys → LkL p kvs (x :: xs) (x :: ys)
  | drop {x : Option Ent} {xs ys : Rho} : LkL p kvs xs ys → LkL p kvs (none :: xs) (x :: ys)
  | view {xs ys : Rho} : LkL p kvs xs ys → LkL p kvs (some (.dctA p kvs) :: xs) (some (.own p) :: ys)
inductive UnL (p : Addr) (kvs : List (List Int × Int)) : Rho → Rho → Prop
  | nil : UnL p kvs [] []
  | non {xs ys : Rho} : UnL p kvs xs ys → UnL p kvs (none :: xs) (none :: ys)
  | dat {d : PyData} {xs ys : Rho} : UnL p kvs xs ys → UnL p kvs (some (.dat d) :: xs) (some (.dat d) :: ys)
  | raw {v : V} {xs ys : Rho} : UnL p kvs xs ys → UnL p kvs (some (.raw v) :: xs) (some (.raw v) :: ys)
  | drop {x : Option Ent} {xs ys : Rho} : UnL p kvs xs ys → UnL p kvs (none :: xs) (x :: ys)
  | view {xs ys : Rho} : UnL p kvs xs ys → UnL p kvs (some (.own p) :: xs) (some (.dctA p kvs) :: ys)
section
variable {p : Addr} {kvs : List (List Int × Int)}
theorem LkL.len : ∀ {xs ys : Rho}, LkL p kvs xs ys → xs.length = ys.length
  | _, _, .nil => rfl
  | _, _, .same t => by rw [List.length_cons, List.length_cons, LkL.len t]
  | _, _, .drop t => by rw [List.length_cons, List.length_cons, LkL.len t]
  | _, _, .view t => by rw [List.length_cons, List.length_cons, LkL.len t]
theorem UnL.len : ∀ {xs ys : Rho}, UnL p kvs xs ys → xs.length = ys.length
  | _, _, .nil => rfl
  | _, _, .non t => by rw [List.length_cons, List.length_cons, UnL.len t]
  | _, _, .dat t => by rw [List.length_cons, List.length_cons, UnL.len t]
  | _, _, .raw t => by rw [List.length_cons, List.length_cons, UnL.len t]
  | _, _, .drop t => by rw [List.length_cons, List.length_cons, UnL.len t]
  | _, _, .view t => by rw [List.length_cons, List.length_cons, UnL.len t]
theorem LkL.get : ∀ {xs ys : Rho} {i : Nat} {e : Ent}, LkL p kvs xs ys → xs[i]? = some (some e) → ys[i]? = some (some e) ∨ (e = .dctA p kvs ∧ ys[i]? = some (some (.own p)))
  | _, _, i, e, .nil, h => by cases i <;> cases h
  | _, _, i, e, .same t, h => by
    cases i with
    | zero => exact .inl h
    | succ i => exact LkL.get (i := i) t h
  | _, _, i, e, .drop t, h => by
    cases i with
    | zero => cases h
    | succ i => exact LkL.get (i := i) t h
  | _, _, i, e, .view t, h => by
    cases i with
    | zero => cases h; exact .inr ⟨rfl, rfl⟩
    | succ i => exact LkL.get (i := i) t h
theorem UnL.get : ∀ {xs ys : Rho} {i : Nat} {e : Ent}, UnL p kvs xs ys → xs[i]? = some (some e) → (ys[i]? = some (some e) ∧ ((∃ d, e = .dat d) ∨ ∃ v, e = .raw v)) ∨ (e = .own p ∧ ys[i]? = some (some (.dctA p kvs)))
  | _, _, i, e, .nil, h => by cases i <;> cases h
  | _, _, i, e, .non t, h => by
    cases i with
    | zero => cases h
    | succ i => exact UnL.get (i := i) t h
  | _, _, i, e, .dat t, h => by
    cases i with
    | zero => cases h; exact .inl ⟨rfl, .inl ⟨_, rfl⟩⟩
    | succ i => exact UnL.get (i := i) t h
  | _, _, i, e, .raw t, h => by
    cases i with
    | zero => cases h; exact .inl ⟨rfl, .inr ⟨_, rfl⟩⟩
    | succ i => exact UnL.get (i := i) t h
  | _, _, i, e, .drop t, h => by
    cases i with
    | zero => cases h
    | succ i => exact UnL.get (i := i) t h
  | _, _, i, e, .view t, h => by
    cases i with
    | zero => cases h; exact .inr ⟨rfl, rfl⟩
    | succ i => exact UnL.get (i := i) t h
end
section
variable {ωa ωb : Own} {p : Addr} {kvs : List (List Int × Int)} {c : OC} {H H' : Hp} {od : Obj}
theorem dom_mid : dom (ωa ++ (p, c) :: ωb) = dom ωa ++ p :: dom ωb := by simp [dom]
theorem mid_out (h : (dom (ωa ++ (p, c) :: ωb)).Nodup) : p ∉ dom (ωa ++ ωb) := by
  rw [dom_mid] at h
  rw [dom_app]
  have h1 := List.nodup_append.mp h
  have h2 := List.nodup_cons.mp h1.2.1
  exact fun z => (List.mem_append.mp z).elim (fun z => h1.2.2 p z p (by simp) rfl) h2.1
theorem mid_nodup (h : (dom (ωa ++ (p, c) :: ωb)).Nodup) : (dom (ωa ++ ωb)).Nodup := by
  rw [dom_mid] at h
  rw [dom_app]
  have h1 := List.nodup_append.mp h
  exact List.nodup_append.mpr ⟨h1.1, (List.nodup_cons.mp h1.2.1).2, fun a ha b hb => h1.2.2 a ha b (List.mem_cons_of_mem _ hb)⟩
theorem mid_sub {a : Addr} (h : a ∈ dom (ωa ++ ωb)) : a ∈ dom (ωa ++ (p, c) :: ωb) := by
  rw [dom_app] at h
  rw [dom_mid]
  rcases List.mem_append.mp h with z | z
  · exact List.mem_append_left _ z
  · exact List.mem_append_right _ (List.mem_cons_of_mem _ z)
theorem mid_or {a : Addr} (h : a ∈ dom (ωa ++ (p, c) :: ωb)) : a = p ∨ a ∈ dom (ωa ++ ωb) := by
  rw [dom_mid] at h
  rw [dom_app]
  rcases List.mem_append.mp h with z | z
  · exact .inr (List.mem_append_left _ z)
  · rcases List.mem_cons.mp z with z | z
    · exact .inl z
    · exact .inr (List.mem_append_right _ z)
theorem lock_seqs (e : H p = some (.dT (kvs.map kvT))) : Seqs (hide (dom (ωa ++ (p, c) :: ωb)) H) (hide (dom (ωa ++ ωb)) (L2.upd H p (.frz od (.dT (kvs.map kvT))))) := by
  have key : ∀ b u, hide (dom (ωa ++ (p, c) :: ωb)) H b = some u → hide (dom (ωa ++ ωb)) (L2.upd H p (.frz od (.dT (kvs.map kvT)))) b = some u := fun b u h => by
    obtain ⟨h1, h2⟩ := hide_some h
    rw [hide_out fun z => h1 (mid_sub z), L2.upd_ne fun z => h1 (by rw [z, dom_mid]; simp)]
    exact h2
  exact ⟨fun b xs => key b _, fun b xs => key b _⟩
theorem unlock_seqs (e : H p = some (.frz od (.dT (kvs.map kvT)))) : Seqs (hide (dom (ωa ++ ωb)) H) (hide (dom (ωa ++ (p, c) :: ωb)) (L2.upd H p (.dT (kvs.map kvT)))) := by
  have key : ∀ b u, (∀ o x, u ≠ .frz o x) → hide (dom (ωa ++ ωb)) H b = some u → hide (dom (ωa ++ (p, c) :: ωb)) (L2.upd H p (.dT (kvs.map kvT))) b = some u := fun b u nf h => by
    obtain ⟨h1, h2⟩ := hide_some h
    have nb : b ≠ p := fun z => by
      rw [z, e] at h2
      exact nf _ _ (Option.some.inj h2).symm
    rw [hide_out fun z => (mid_or z).elim nb h1, L2.upd_ne nb]
    exact h2
  exact ⟨fun b xs => key b _ (fun _ _ z => nomatch z), fun b xs => key b _ (fun _ _ z => nomatch z)⟩
theorem own_lock (O : OwnOk (ωa ++ (p, .dct kvs) :: ωb) H) : OwnOk (ωa ++ ωb) (L2.upd H p (.frz od (.dT (kvs.map kvT)))) := by
  have e : H p = some (.dT (kvs.map kvT)) := O.at_ (p, .dct kvs) (by simp)
  have np := mid_out O.nd
  refine ⟨mid_nodup O.nd, fun q hq => ?_⟩
  have hq' : q ∈ ωa ++ (p, .dct kvs) :: ωb := by
    rcases List.mem_append.mp hq with z | z
    · exact List.mem_append_left _ z
    · exact List.mem_append_right _ (List.mem_cons_of_mem _ z)
  have nq : q.1 ≠ p := fun z => np (by rw [← z]; exact List.mem_map.mpr ⟨q, hq, rfl⟩)
  have h := O.at_ q hq'
  obtain ⟨a, cc⟩ := q
  cases cc with
  | lst ds =>
    obtain ⟨xs, e1, r⟩ := h
    exact ⟨xs, by rw [L2.upd_ne nq]; exact e1, RpAll.seqs (lock_seqs e) _ _ r⟩
  | dct kk =>
    show L2.upd H p _ a = _
    rw [L2.upd_ne nq]
    exact h
  | dk kk =>
    show L2.upd H p _ a = _
    rw [L2.upd_ne nq]
    exact h
  | obj C dx fs =>
    obtain ⟨vs, e1, r⟩ := h
    exact ⟨vs, by rw [L2.upd_ne nq]; exact e1, r.mapP (Rp.seqs (lock_seqs e))⟩
  | row KK scr ns k s r =>
    obtain ⟨e1, q, l⟩ := h
    exact ⟨by rw [L2.upd_ne nq]; exact e1, q.to fun n r => ⟨fun z => n (mid_sub z), rd_at r fun o y => by rw [L2.upd_ne fun z => n (by rw [z, dom_mid]; simp)]; exact y⟩, l⟩
theorem own_unlock (np : p ∉ dom (ωa ++ ωb)) (O : OwnOk (ωa ++ ωb) H) (e : H p = some (.frz od (.dT (kvs.map kvT)))) : OwnOk (ωa ++ (p, .dct kvs) :: ωb) (L2.upd H p (.dT (kvs.map kvT))) := by
  refine ⟨?_, fun q hq => ?_⟩
  · have h := O.nd
    rw [dom_app] at h
    have h1 := List.nodup_append.mp h
    rw [dom_mid]
    rw [dom_app] at np
    refine List.nodup_append.mpr ⟨h1.1, List.nodup_cons.mpr ⟨fun z => np (List.mem_append_right _ z), h1.2.1⟩, fun a ha b hb => ?_⟩
    rcases List.mem_cons.mp hb with z | z
    · exact fun y => np (List.mem_append_left _ (by rw [← z, ← y]; exact ha))
    · exact h1.2.2 a ha b z
  · by_cases nq : q.1 = p
    · have hq' : q = (p, .dct kvs) := by
        rcases List.mem_append.mp hq with z | z
        · exact absurd (by rw [dom_app]; exact List.mem_append_left _ (by rw [← nq]; exact List.mem_map.mpr ⟨q, z, rfl⟩)) np
        · rcases List.mem_cons.mp z with z | z
          · exact z
          · exact absurd (by rw [dom_app]; exact List.mem_append_right _ (by rw [← nq]; exact List.mem_map.mpr ⟨q, z, rfl⟩)) np
      subst hq'
      exact L2.upd_same
    · have hq' : q ∈ ωa ++ ωb := by
        rcases List.mem_append.mp hq with z | z
        · exact List.mem_append_left _ z
        · rcases List.mem_cons.mp z with z | z
          · exact absurd (by rw [z]) nq
          · exact List.mem_append_right _ z
      have h := O.at_ q hq'
      obtain ⟨a, cc⟩ := q
      cases cc with
      | lst ds =>
        obtain ⟨xs, e1, r⟩ := h
        exact ⟨xs, by rw [L2.upd_ne nq]; exact e1, RpAll.seqs (unlock_seqs e) _ _ r⟩
      | dct kk =>
        show L2.upd H p _ a = _
        rw [L2.upd_ne nq]
        exact h
      | dk kk =>
        show L2.upd H p _ a = _
        rw [L2.upd_ne nq]
        exact h
      | obj C dx fs =>
        obtain ⟨vs, e1, r⟩ := h
        exact ⟨vs, by rw [L2.upd_ne nq]; exact e1, r.mapP (Rp.seqs (unlock_seqs e))⟩
      | row KK scr ns k s r =>
        obtain ⟨e1, q, l⟩ := h
        refine ⟨by rw [L2.upd_ne nq]; exact e1, q.to fun n r => ?_, l⟩
        have nsp : scr ≠ p := fun z => by
          rw [z] at r
          rcases r with r | ⟨u, r⟩
          · rw [e] at r; cases r
          · rw [e] at r; cases r
        exact ⟨fun z => (mid_or z).elim nsp n, rd_at r fun o y => by rw [L2.upd_ne nsp]; exact y⟩
end
theorem own_notTup {ω : Own} {H : Hp} (O : OwnOk ω H) {a : Addr} (h : a ∈ dom ω) (xs : List V) : H a ≠ some (.tup xs) := fun z => by
  obtain ⟨q, hq, e⟩ := List.mem_map.mp h
  subst e
  have h := O.at_ q hq
  obtain ⟨a, cc⟩ := q
  cases cc with
  | lst ds => obtain ⟨_, e1, _⟩ := h; rw [z] at e1; cases e1
  | dct kk => have h : H a = _ := h; rw [z] at h; cases h
  | dk kk => have h : H a = _ := h; rw [z] at h; cases h
  | obj C dx fs => obtain ⟨_, e1, _⟩ := h; rw [z] at e1; cases e1
  | row KK scr ns k s r => obtain ⟨e1, _⟩ := h; rw [z] at e1; cases e1
/-- the keys of the dict o, as its entries tell them -/
def ItF (d : Addr) (o : Obj) (kvs : List (List Key × V)) (es : Array DictEntry) : It :=
  ⟨fun i H => H d = some (.frz o (.dT kvs)) ∧ i < kvs.length, fun i H x H' => H' = H ∧ ∃ (en : DictEntry) (t : Addr), es[i]? = some en ∧ en.key = .ref t ∧ x = .ref t, fun i H => H d = some (.frz o (.dT kvs)) ∧ kvs.length ≤ i⟩
theorem turn_itF {P : Program} {w : World} {K : PySem.W.Frag} {tg : Expr} {d : Addr} {o : Obj} {es : Array DictEntry} {ep : Nat} {kvs : List (List Key × V)} (it : Addr) (hod : o.data = .dict es ep) : Turn P w K tg (ItF d o kvs es) [it] it (fun i h => h.IsKeyIter it d i kvs.length ep) where
  mem := by simp
  obj := fun i h st b hb => by
    obtain rfl : b = it := by simpa using hb
    obtain ⟨oi, e, c, dd⟩ := st
    exact ⟨oi, e, fun v z => by rw [dd] at z; cases z⟩
  keep := fun i h h' st k => st.at fun oi e => k it (by simp) oi e
  item := by
    intro X hP hw hK hc i pins s σ H E I hf st ⟨hd, hi⟩
    subst hP hw hK
    obtain ⟨f0, f1, f2, f3, f4, f5⟩ := hf it (by simp)
    obtain ⟨_, hgd, _, es', ep', hdt, _, ent⟩ := I.frzT hd
    obtain ⟨rfl, rfl⟩ := dict_ep hod hdt
    obtain ⟨en, t, hen, hkey, _⟩ := ent i kvs[i].1 kvs[i].2 (by rw [List.getElem?_eq_getElem hi])
    refine next_key_item st hgd hdt (by assumption) hen fun h' st' sb => ?_
    have I1 : Inv X pins σ H { s with heap := h' } := I.turned (t' := s.toks) (fun b ob hb e => (sb.2 b hb).trans e) f0 f1 f3 f4 f5
    obtain ⟨oi, e, c, dd⟩ := id st'
    exact ⟨en.key, rfl, go_of (s := { s with heap := h' }) e c dd (by decide) ⟨.ref t, H, I1, hkey, ⟨rfl, en, t, hen, hkey, rfl⟩, st', fun b hb => (hf b hb).1⟩⟩
  done := by
    intro X hP hw hK hc i pins s σ H E I hf st ⟨hd, hi⟩
    subst hP hw hK
    obtain ⟨f0, f1, f2, f3, f4, f5⟩ := hf it (by simp)
    obtain ⟨_, hgd, _, es', ep', hdt, hz, ent⟩ := I.frzT hd
    obtain ⟨rfl, rfl⟩ := dict_ep hod hdt
    exact next_key_end (I.ok.hd hc) st hgd hdt hz hi fun h' eb => ⟨rfl, I.turned (t' := s.toks) (fun b ob hb e => eb b ob hb e) f0 f1 f3 f4 f5⟩
  self := fun A i s Q E st h => by
    refine wpAny_pyIter_slot st.typeIs F.slot_dict_keyiterator_iter (wpAny_call_entry F.slot_dict_keyiterator_iter st.typeIs F.entry_dict_keyiterator_iter ?_ (F.args_dict_keyiterator_iter_1 _))
    show wpAny _ _ (ret (.ref it)) _ _ s
    exact wpAny_pure ⟨_, rfl, "dict_keyiterator", _, st.typeIs, F.slot_dict_keyiterator_next.lookup, h⟩
section
variable {X : Cx} {s : Stmt} {ρ ρ0 ρ1 ρ2 : Rho} {p : Addr} {kvs : List (List Int × Int)} {tg a b i1 : Expr} {ω ω1 ω2 : Own} {pos : Pos}
/-- a statement that only reads the dict at p -/
theorem dn_lock (ωa ωb : Own) (h0 : ω = ωa ++ (p, .dct kvs) :: ωb) (h : DN X (ωa ++ ωb) ρ0 s (ωa ++ ωb) ρ1) (hl : LkL p kvs ρ0 ρ) (hu : UnL p kvs ρ2 ρ1) : DN X ω ρ s ω ρ2 := by
  subst h0
  refine ps_w (ps_lock h) fun D σ H ⟨hE, q⟩ => ?_
  have e : H p = some (.dT (kvs.map kvT)) := hE.own.at_ (p, .dct kvs) (by simp)
  have np := mid_out hE.own.nd
  refine ⟨p, _, e, True.intro, fun od => ⟨⟨own_lock hE.own, by rw [hE.len, hl.len], fun i en h => ?_⟩, fun σ' H' x1 E1 => ?_⟩⟩
  · rcases hl.get h with h' | ⟨rfl, h'⟩
    · obtain ⟨v, h1, h2⟩ := hE.val i en h'
      refine ⟨v, h1, ?_⟩
      cases en with
      | dat d => exact Rp.seqs (lock_seqs e) _ _ h2
      | dct kk =>
        obtain ⟨a, e1, n, q⟩ := h2
        have na : a ≠ p := fun z => n (by rw [z, dom_mid]; simp)
        refine ⟨a, e1, fun z => n (mid_sub z), ?_⟩
        rcases q with q | ⟨u, q⟩
        · exact .inl (by rw [L2.upd_ne na]; exact q)
        · exact .inr ⟨u, by rw [L2.upd_ne na]; exact q⟩
      | dctA a kk =>
        obtain ⟨e1, n, o, q⟩ := h2
        have na : a ≠ p := fun z => n (by rw [z, dom_mid]; simp)
        exact ⟨e1, fun z => n (mid_sub z), o, by rw [L2.upd_ne na]; exact q⟩
      | raw w => exact h2
    · obtain ⟨v, h1, h2⟩ := hE.val i _ h'
      exact ⟨v, h1, h2, np, od, L2.upd_same⟩
  · have e1 : H' p = some (.frz od (.dT (kvs.map kvT))) := x1.keep p _ np L2.upd_same
    have O2 := own_unlock np x1.own e1
    refine ⟨e1, q σ' _ ⟨rfl, O2, fun b o nb hb => ?_⟩ ⟨O2, by rw [E1.len, hu.len], fun i en h => ?_⟩⟩
    · have nbp : b ≠ p := fun z => nb (by rw [z, dom_mid]; simp)
      rw [L2.upd_ne nbp]
      exact x1.keep b o (fun z => nb (mid_sub z)) (by rw [L2.upd_ne nbp]; exact hb)
    · rcases hu.get h with ⟨h', he⟩ | ⟨rfl, h'⟩
      · obtain ⟨v, h1, h2⟩ := E1.val i en h'
        refine ⟨v, h1, ?_⟩
        rcases he with ⟨d, rfl⟩ | ⟨w, rfl⟩
        · exact Rp.seqs (unlock_seqs e1) _ _ h2
        · exact h2
      · obtain ⟨v, h1, h2⟩ := E1.val i _ h'
        exact ⟨v, h1, h2.1⟩
/-- for k in d -/
theorem di_keysA (hc : X.calm = true) (h : DE X ω ρ a (.dctA p kvs) ω1) : DI X tg ω ρ a (kvs.map fun q => .dat (tupI q.1)) ω1 := by
  refine ⟨fun pins s σ H R I ⟨hE, q⟩ => ?_⟩
  refine thn (h.run pins s σ H (fun v H1 => Xt ω H ω1 H1 ∧ RE (dom ω1) H1 (.dctA p kvs) v) I ⟨hE, fun v H1 x1 r1 => ⟨x1, r1⟩⟩) fun u s1 ⟨v, H1, I1, rv, x1, r1⟩ => ?_
  obtain ⟨rfl, n, o, e⟩ := r1
  obtain rfl : u = Value.ref p := rv
  obtain ⟨hs, hgd, hx, es, ep, hdt, hsz, ent⟩ := I1.frzT e
  refine iter_keys hs hgd hx hdt (pi_one (tk := s1.toks) (J := ItF p o (kvs.map kvT) es) I1 _ (turn_itF _ hdt) ⟨_, Heap.get?_push_size _ rfl, rfl, ?_⟩ (q _ H1 x1 ⟨fun O' hs' hf' => ?_⟩))
  · rw [hsz] <;> rfl
  · have hl : (kvs.map fun q => Ent.dat (tupI q.1)).length = (kvs.map kvT).length := by rw [List.length_map, List.length_map]
    rw [hl]
    have at_ : ∀ H2, (Keep O' H1 H2 ∧ ∀ a ∈ O', H2 a ≠ none) → H2 p = some (.frz o (.dT (kvs.map kvT))) := fun H2 hg => hg.1 _ _ (out_grow hf' n e) e
    refine ⟨fun i H2 hi hg => ⟨at_ H2 hg, hi⟩, fun H2 hg => ⟨at_ H2 hg, Nat.le_refl _⟩, fun i H2 x H3 hi hg y => ?_⟩
    obtain ⟨rfl, en, t, e3, e4, rfl⟩ := y
    rw [List.length_map] at hi
    have e6 : kvs[i]? = some kvs[i] := List.getElem?_eq_getElem hi
    obtain ⟨en', t', h1, h2, h3⟩ := ent i (kvT kvs[i]).1 (kvT kvs[i]).2 (by rw [List.getElem?_map, e6]; rfl)
    rw [e3] at h1
    cases h1
    rw [e4] at h2
    cases h2
    have h3 : H1 t = some (.tup ((kvs[i].1.map Sum.inl : List Key).map kV)) := h3
    have nt : t ∉ O' := out_grow hf' (fun z => own_notTup x1.own z _ h3) h3
    have e7 : ((kvs[i].1.map Sum.inl : List Key).map kV) = kvs[i].1.map V.int := by rw [List.map_map]; rfl
    refine ⟨.dat (tupI kvs[i].1), by rw [List.getElem?_map, e6]; rfl, ⟨.refl, fun _ _ => rfl⟩, Rp.tup (xs := kvs[i].1.map V.int) ?_ .of_ints⟩
    rw [hide_out nt, hg.1 _ _ nt h3, e7]
/-- d[g] -/
theorem de_dgetA {g : List Int} {n : Int} (hu : X.A.units + 1 < cLine) (ho : DE X ω ρ a (.dctA p kvs) ω1) (hi : DE X ω1 ρ i1 (.dat (tupI g)) ω2) (h : lookD kvs g = some n) (hs : NoSl i1 := by exact fun _ _ => rfl) : DE X ω ρ (.Subscript a i1 pos) (I n) ω2 :=
  de_dget hu (pe_w ho fun σ H Q ⟨hE, q⟩ => ⟨hE, fun v H1 x1 r1 => q v H1 x1 (by obtain ⟨e, n, o, r⟩ := r1; exact ⟨p, e, n, .inr ⟨o, r⟩⟩)⟩) hi h hs
end
end ZM

set_option Elab.async false
set_option linter.all false
set_option maxRecDepth 20000
set_option maxHeartbeats 4000000
namespace ZM
open PySem PySem.W PySem.Spec PyProof.Rows L2 DL CB
/-! ### enumerate of a list or a tuple -/
theorem meets_enum1 {v : Value} {o : Obj} {Hh : Heap → Prop} (B : Begins v o Hh) :
    Meets (Builtin.«enumerate.__new__» ⟨[.type "enumerate", v], []⟩) (fun _ R s => Hh s.heap ∧
      R (.ok (.ret (.ref (s.heap.push o).objs.size))) { s with heap := (s.heap.push o).push { cls := .type "enumerate", data := .fields #[.none, .bool false, .ref s.heap.objs.size, rawInt 0, .none, .none] } }) :=
  .of_wp fun prog w A R s h => by
    obtain ⟨hp, gg, dd, tk, oo⟩ := s
    obtain ⟨y, h⟩ := h
    have hsub := sub_enumerate
    have begin1 : ∀ {A' : Around} {E : Value → Shared → Prop} {Q : Value → Shared → Prop}, Q (.ref hp.objs.size) ⟨hp.push o, gg, dd, tk, oo⟩ → wpAny (model prog w) A' (pyIter v) Q E ⟨hp, gg, dd, tk, oo⟩ :=
      fun q => B.iter prog w _ _ ⟨hp, gg, dd, tk, oo⟩ _ y q
    wp_walk using begin1
    refine wpAny_stack_any fun st => wpAny_pure ?_
    split
    · rename_i c _ _ _ _ _
      cases (c == Value.type "enumerate") <;> (wp_walk using begin1; exact ⟨_, rfl, h⟩)
    · wp_walk using begin1
      exact ⟨_, rfl, h⟩
theorem enum_begins1 {prog : Program} {w : World} {A : Around} {E : Value → Shared → Prop} {s : Shared} {v : Value} {o : Obj} {Hh : Heap → Prop} {Q : Value → Shared → Prop} (B : Begins v o Hh) (y : Hh s.heap)
    (h : ∀ h', IsEnum h' (s.heap.objs.size + 1) s.heap.objs.size 0 .none → h'.get? s.heap.objs.size = some o → h'.objs.size = s.heap.objs.size + 2 → (∀ b o, s.heap.get? b = some o → h'.get? b = some o) → Q (.ref (s.heap.objs.size + 1)) { s with heap := h' }) :
    wpAny (model prog w) A (call (.type "enumerate") [v]) Q E s := by
  refine callType_new F.called_enumerate (by decide) (F.typeCall_enumerate_1 _) (F.newCall_enumerate_1 _) (fun obj => F.args_object_init_2 obj _) F.entry_enumerate_new (meets_enum1 B) ⟨y, ?_⟩
  have hz : (s.heap.push o).objs.size = s.heap.objs.size + 1 := Heap.size_push ..
  show _ ∧ _
  rw [hz]
  generalize hob : ({ cls := .type "enumerate", data := .fields #[.none, .bool false, .ref s.heap.objs.size, rawInt 0, .none, .none] } : Obj) = ob
  have he : ((s.heap.push o).push ob).get? (s.heap.objs.size + 1) = some ob := by
    have := Heap.get?_push_size (s.heap.push o) (o := ob) (by rw [← hob]; rfl)
    rw [hz] at this; exact this
  have he' : IsEnum ((s.heap.push o).push ob) (s.heap.objs.size + 1) s.heap.objs.size 0 .none := by rw [← hob] at he ⊢; exact he
  exact ⟨⟨_, he, by rw [← hob]⟩, h _ he' (Heap.get?_push_of_some _ (Heap.get?_push_size _ B.free)) (by rw [Heap.size_push, hz]) fun b o x => Heap.get?_push_of_some _ (Heap.get?_push_of_some _ x)⟩
def ItE (b : Bool) (l : Addr) : It :=
  ⟨fun i H => ∃ (xs : List V) (x : V), H l = some (ho b xs) ∧ xs[i]? = some x,
   fun i H v H' => ∃ T x, v = .ref T ∧ H T = none ∧ H' = L2.upd H T (.tup [.int (i : Nat), x]) ∧ ∀ xs, H l = some (ho b xs) → xs[i]? = some x,
   fun i H => ∃ xs : List V, H l = some (ho b xs) ∧ i = xs.length⟩
theorem turn_itE {P : Program} {w : World} {K : PySem.W.Frag} {elts : List Expr} {kk : Nat} {tpos : Pos} {b : Bool} {l e it : Addr} (hl : l ≠ it) (hei : e ≠ it) (hel : e ≠ l) :
    Turn P w K (.Tuple elts kk tpos) (ItE b l) [e, it] e (fun i h => (∃ old, IsEnum h e it ((i : Nat) : Int) old) ∧ Cur b h it l i) where
  mem := by simp
  obj := fun i h st q hq => by
    obtain ⟨⟨old, he⟩, hc⟩ := st
    have e' : q = e ∨ q = it := by simpa using hq
    rcases e' with r | r
    · subst r; exact ⟨_, he, fun v q => nomatch q⟩
    · subst r; exact cur_ob hc
  keep := fun i h h' st k => by
    obtain ⟨⟨old, he⟩, hc⟩ := st
    exact ⟨⟨old, k e (by simp) _ he⟩, cur_at hc fun o q => k it (by simp) o q⟩
  item := by
    intro X hP hw hK hc i pins s σ H E I hf st hg
    subst hP hw hK
    obtain ⟨⟨old, he⟩, hcur⟩ := st
    obtain ⟨xs, x, ex, hx⟩ := hg
    obtain ⟨its, rv, p⟩ := src_of I ex
    obtain ⟨u, hu, ru⟩ := rv.get hx
    have hlt : e < s.heap.objs.size := Heap.lt_size he
    have hilt : it < s.heap.objs.size := by obtain ⟨_, q, _⟩ := cur_ob hcur; exact Heap.lt_size q
    have hi : i < its.toArray.size := by
      rw [List.size_toArray]
      exact (List.getElem?_eq_some_iff.mp hu).1
    have D := draws b (prog := X.prog) (w := X.w) (A := X.A.in1) (by first | exact I.ok.hd hc | (show X.A.in1.handled = none; exact I.ok.hd hc)) it l hl its.toArray
    refine wpAny_pyNext_enum_itemC D he ⟨hcur, p⟩ hi hei (by simp [hei, hel]) fun v h' tk hv ho st' hT hsz hk => ?_
    have ev : v = u := by
      have : its[i]? = some v := by simpa using hv
      rw [hu] at this
      exact (Option.some.inj this).symm
    subst ev
    refine ⟨_, rfl, wpAny_letOwnedTupleGo_enum (s := { s with heap := h', toks := tk + 1 }) ho fun h2 he' sb => ?_⟩
    have hT2 : h2.get? s.heap.objs.size = some { cls := .type "tuple", data := .seq #[.int i tk, v] } := (sb.2 _ (Nat.ne_of_gt hlt)).trans hT
    have new : ObjOk X.prog X.w (L2.upd H s.heap.objs.size (.tup [.int (i : Nat), x])) h2 s.heap.objs.size (.tup [.int (i : Nat), x]) :=
      ⟨by show 2 ≤ sizeLine; decide, [.int i tk, v], .cons ⟨_, rfl⟩ (.cons ru .nil), ⟨_, hT2, rfl, _, rfl⟩⟩
    have I1 : Inv X pins σ (L2.upd H s.heap.objs.size (.tup [.int (i : Nat), x])) { s with heap := h2, toks := tk + 1 } :=
      I.turnedNew (t' := tk + 1) (ch := [e, it]) (fun q o hb r => by
        simp only [List.mem_cons, List.not_mem_nil, or_false, not_or] at hb
        exact (sb.2 q hb.1).trans (hk q o hb.1 hb.2 r)) hf (Nat.le_refl _) new
    refine ⟨.ref s.heap.objs.size, _, I1, rfl, ⟨_, x, rfl, I.hok.fresh (Nat.le_refl _), rfl, fun zs hzs => ?_⟩, ⟨⟨v, ?_⟩, ?_⟩, fun q hq => ?_⟩
    · rw [ex] at hzs
      rw [← ho_inj (Option.some.inj hzs)]
      exact hx
    · have e1 : ((i + 1 : Nat) : Int) = (i : Int) + 1 := by omega
      rw [e1]; exact he'
    · exact cur_at st'.1 fun o r => (sb.2 _ (Ne.symm hei)).trans r
    · have hlt' : q < s.heap.objs.size := by
        have e' : q = e ∨ q = it := by simpa using hq
        rcases e' with r | r
        · subst r; exact hlt
        · subst r; exact hilt
      rw [L2.upd_ne (Nat.ne_of_lt hlt')]
      exact (hf q hq).1
  done := by
    intro X hP hw hK hc i pins s σ H E I hf st hg
    subst hP hw hK
    obtain ⟨⟨old, he⟩, hcur⟩ := st
    obtain ⟨xs, ex, hi⟩ := hg
    obtain ⟨its, rv, p⟩ := src_of I ex
    have l1 := rv.length
    have D := draws b (prog := X.prog) (w := X.w) (A := X.A.in1) (by first | exact I.ok.hd hc | (show X.A.in1.handled = none; exact I.ok.hd hc)) it l hl its.toArray
    have ei : i = its.toArray.size := by rw [List.size_toArray]; omega
    refine wpAny_pyNext_enum_endD D he (by rw [← ei]; exact ⟨hcur, p⟩) fun h' eb => ⟨rfl, ?_⟩
    refine I.turnedL (t' := s.toks) (ch := [e, it]) (fun q o hb r => ?_) hf
    simp only [List.mem_cons, List.not_mem_nil, or_false, not_or] at hb
    exact eb q o hb.2 r
  self := fun A i s Q E st h => by
    obtain ⟨⟨old, he⟩, _⟩ := st
    exact wpAny_pyIter_enum he h
section
variable {X : Cx} {a b : Expr} {ω ω1 ω2 : Own} {ρ : Rho} {pos p2 tpos : Pos} {elts : List Expr} {kk : Nat}
abbrev enD (ds : List PyData) : List PyData := ds.zipIdx.map fun p => .tuple [.int (p.2 : Nat), p.1]
theorem enD_get {ds : List PyData} {i : Nat} {d : PyData} (h : ds[i]? = some d) : ((enD ds).map Ent.dat)[i]? = some (.dat (.tuple [.int (i : Nat), d])) := by
  rw [List.getElem?_map, List.getElem?_map, List.getElem?_zipIdx, h]
  simp
theorem di_enum (k : Bool) {ds : List PyData} (hc : X.calm = true) (hm : X.mg "enumerate" = none) (ha : DE X ω ρ a (.dat (sq k ds)) ω1) (hg : Gl X "enumerate" := by rfl) (na : starEach [a] X.env = (false, eval a X.env) :: starEach [] X.env := by rfl) :
    DI X (.Tuple elts kk tpos) ω ρ (.Call (.Name "enumerate" p2) [a] [] pos) ((enD ds).map Ent.dat) ω1 := by
  refine ⟨fun pins s σ H R I ⟨hE, q⟩ => ?_⟩
  refine Call_ (ld_blt I hg hm boot_enumerate (PyProof.Rows.callWith_type1 (args_cons (thn (ha.run pins s σ H (fun v H1 => Xt ω H ω1 H1 ∧ RE (dom ω1) H1 _ v) I ⟨hE, fun v H1 x1 r1 => ⟨x1, r1⟩⟩) fun u s1 ⟨v, H1, I1, rv, x1, r1⟩ => args_nil ?_) na) na))
  obtain ⟨l, xs, rfl, nl, el, rx⟩ := RE.sq r1
  cases rv
  obtain ⟨its, rvx, p1⟩ := src_of I1 el
  have hl := src_lt p1
  refine enum_begins1 (begins k l its.toArray) p1 fun h' he g1 hsz hk => wpAny_pyIter_enum he ?_
  have I2 : Inv X pins σ H1 { s1 with heap := h' } := I1.kept (t' := s1.toks) hk
  have fr : ∀ q, q ∈ [s1.heap.objs.size + 1, s1.heap.objs.size] → FpOk X pins H1 q := fun q hq => by
    have hle : s1.heap.objs.size ≤ q := by
      simp only [List.mem_cons, List.not_mem_nil, or_false] at hq
      rcases hq with r | r <;> rw [r] <;> first | exact Nat.le_add_right _ _ | exact Nat.le_refl _
    exact I1.fpOk hle (I1.hok.fresh hle)
  refine ⟨s1.heap.objs.size + 1, _, _, ItE k l, H1, rfl, I2, turn_itE (e := s1.heap.objs.size + 1) (it := s1.heap.objs.size) (Nat.ne_of_lt hl) (Nat.succ_ne_self _) (Nat.ne_of_gt (Nat.lt_succ_of_lt hl)), ⟨⟨.none, he⟩, cur0 g1⟩, fr, q _ H1 x1 ⟨fun O' hs hf => ⟨fun i H hi hg => ?_, fun H hg => ?_, fun i H v H' hi hg y => ?_⟩⟩⟩
  · rw [List.length_map, List.length_map, List.length_zipIdx, ← rx.length] at hi
    exact ⟨xs, xs[i], hg.1 _ _ (out_grow hf nl el) el, List.getElem?_eq_getElem hi⟩
  · exact ⟨xs, hg.1 _ _ (out_grow hf nl el) el, by rw [List.length_map, List.length_map, List.length_zipIdx, rx.length]⟩
  · obtain ⟨T, x, rfl, nT, rfl, f1⟩ := y
    have hx := f1 xs (hg.1 _ _ (out_grow hf nl el) el)
    obtain ⟨d, hd, rd⟩ := rx.toGet hx
    have nTO : T ∉ O' := fun z => hg.2 T z nT
    refine ⟨_, enD_get hd, ⟨Keep.upd nT, fun a ha => L2.upd_ne fun z => nTO (by rw [← z]; exact ha)⟩, ?_⟩
    have mo : Same (hide _ H1) (hide O' (L2.upd H T (.tup [.int (i : Nat), x]))) := hide_grow hf (Keep.trans hg.1 (Keep.upd nT))
    exact Rp.tup (xs := [.int (i : Nat), x]) (by rw [hide_out nTO, L2.upd_same]) (.cons (.int _) (.cons (Rp.mono mo _ _ rd) .nil))
end
end ZM

set_option Elab.async false
set_option linter.all false
set_option maxRecDepth 20000
set_option maxHeartbeats 4000000
namespace ZM
open PySem PySem.W PySem.Spec PyProof.Rows L2 DL CB
/-! ### a module's dict of numbers -/
def ILit : List DictEntry → List (Int × Int) → Prop
  | [], [] => True
  | e :: r, p :: t => (∃ u, e.key = .int p.1 u) ∧ e.hash = hashInt p.1 ∧ (∃ u, e.val = .int p.2 u) ∧ ILit r t
  | _, _ => False
structure KI (K : PySem.W.Frag) (a : Addr) (tab : List (Int × Int)) : Prop where
  ex : ∃ es n, K.lookup a = some ⟨.type "dict", none, .dict es n, #[]⟩ ∧ (a == sysModules) = false ∧ ILit es.toList tab
def tabAt (tab : List (Int × Int)) (n : Int) : Option Int := (tab.find? fun p => p.1 == n).map (·.2)
theorem ILit.keys : ∀ {l : List DictEntry} {tab : List (Int × Int)}, ILit l tab → ∀ e ∈ l, ∃ k : Int, Value.isInt k e.key = true ∧ e.hash = hashInt k
  | [], [], _, _, h => nomatch h
  | e :: r, p :: t, ⟨⟨u, h1⟩, h2, _, h4⟩, x, hx => by
    rcases List.mem_cons.mp hx with z | z
    · subst z
      exact ⟨p.1, by rw [h1]; show (p.1 == p.1) = true; exact beq_self_eq_true _, h2⟩
    · exact ILit.keys h4 x z
  | [], _ :: _, h, _, _ => h.elim
  | _ :: _, [], h, _, _ => h.elim
theorem ILit.find (n : Int) : ∀ {l : List DictEntry} {tab : List (Int × Int)}, ILit l tab → RelO ((tabAt tab n).map V.int) ((l.find? fun e => Value.isInt n e.key).map (·.val))
  | [], [], _ => True.intro
  | e :: r, p :: t, ⟨⟨u, h1⟩, h2, ⟨v, h3⟩, h4⟩ => by
    have ih := ILit.find n h4
    have ek : Value.isInt n e.key = (p.1 == n) := by rw [h1]; rfl
    unfold tabAt at ih ⊢
    rw [List.find?_cons, List.find?_cons]
    rw [ek]
    cases hq : (p.1 == n) with
    | true => exact ⟨v, h3⟩
    | false => exact ih
  | [], _ :: _, h => h.elim
  | _ :: _, [], h => h.elim
section
variable {X : Cx} {a b : Expr} {ω ω1 ω2 : Own} {ρ : Rho} {pos p2 : Pos} {d : Addr} {tab : List (Int × Int)}
theorem KI.map (k : KI X.K d tab) {h : Heap} (X0 : X.K.In h) : ∃ f : Int → Option Value, h.MapOf (intKind X.prog X.w) d f ∧ (d == sysModules) = false ∧ ∀ n, RelO ((tabAt tab n).map V.int) (f n) := by
  obtain ⟨es, n, hl, hd, hi⟩ := k.ex
  refine ⟨fun n => findBy Value.isInt es n, ⟨_, es, n, X0 _ _ hl, ⟨rfl, rfl, rfl⟩, rfl, fun e he => ?_, fun _ => rfl⟩, hd, fun m => ?_⟩
  · exact hi.keys e (Array.mem_toList_iff.mpr he)
  · have := hi.find m
    obtain ⟨l⟩ := es
    show RelO _ (((l.toArray).find? fun e => Value.isInt m e.key).map (·.val))
    rw [List.find?_toArray]
    exact this
theorem o_inK (k : KI X.K d tab) {n : Int} : Op2 X (compareOp .In) (DL.I n) (.raw (.ref d)) (B (tabAt tab n).isSome) :=
  ⟨fun x y H Q => x = .int n ∧ y = .ref d ∧ Q (.bl (tabAt tab n).isSome) H, fun pins s σ H x y v u Q I rx ry h => by
    obtain ⟨rfl, rfl, q⟩ := h
    obtain ⟨t, rfl⟩ := rx
    obtain rfl : u = Value.ref d := ry
    obtain ⟨f, m, hd, hf⟩ := k.map I.kIn
    refine wpAny_in_of (knd := intKind X.prog X.w) (k := n) (by show (n == n) = true; exact beq_self_eq_true _) hd m ⟨.bl (tabAt tab n).isSome, H, I.tok _, ?_, q⟩
    have := (hf n).isSome_eq
    rw [Option.isSome_map] at this
    rw [← this]
    rfl, fun ω x y H Q o rx ry q => ⟨rx.int, ry, q _ H (.refl o) (.ofBool _)⟩⟩
theorem o_notInK (k : KI X.K d tab) {n : Int} : Op2 X (compareOp .NotIn) (DL.I n) (.raw (.ref d)) (B (!(tabAt tab n).isSome)) :=
  ⟨fun x y H Q => x = .int n ∧ y = .ref d ∧ Q (.bl (!(tabAt tab n).isSome)) H, fun pins s σ H x y v u Q I rx ry h => by
    obtain ⟨rfl, rfl, q⟩ := h
    obtain ⟨t, rfl⟩ := rx
    obtain rfl : u = Value.ref d := ry
    obtain ⟨f, m, hd, hf⟩ := k.map I.kIn
    refine wpAny_notIn_of (knd := intKind X.prog X.w) (k := n) (by show (n == n) = true; exact beq_self_eq_true _) hd m ⟨.bl (!(tabAt tab n).isSome), H, I.tok _, ?_, q⟩
    have := (hf n).isSome_eq
    rw [Option.isSome_map] at this
    rw [← this]
    rfl, fun ω x y H Q o rx ry q => ⟨rx.int, ry, q _ H (.refl o) (.ofBool _)⟩⟩
theorem de_globR {x : Str} (hm : X.mg x = some (.ref d)) (hg : Gl X x := by rfl) (hd : (x == ("__debug__" : Str)) = false := by decide) : DE X ω ρ (.Name x pos) (.raw (.ref d)) ω := de_c (pe_glob (v := .ref d) hg hm rfl hd) fun _ _ => rfl
def rIxK (d : Addr) (n m : Int) : R2 := fun x y H Q => x = .ref d ∧ y = .int n ∧ Q (.int m) H
theorem ix_K (k : KI X.K d tab) {n m : Int} (h : tabAt tab n = some m) : IxR X (rIxK d n m) := by
  intro value slice pins s σ H x y v u Q I rx ry q hs
  obtain ⟨rfl, rfl, q⟩ := q
  obtain rfl : v = Value.ref d := rx
  obtain ⟨t, rfl⟩ := ry
  obtain ⟨f, mm, hd, hf⟩ := k.map I.kIn
  have e := hf n
  rw [h] at e
  cases ef : f n with
  | none => rw [ef] at e; exact e.elim
  | some w =>
    rw [ef] at e
    exact tail_any mm.typeIs slot_dict_getitem.lookup (wpAny_getItem_of (knd := intKind X.prog X.w) (k := n) (by show (n == n) = true; exact beq_self_eq_true _) mm ef ⟨.int m, H, I.tok _, e, q⟩) hs
theorem de_ixK (k : KI X.K d tab) {n m : Int} (h : tabAt tab n = some m) (ha : DE X ω ρ a (.raw (.ref d)) ω1) (hb : DE X ω1 ρ b (DL.I n) ω2) (hs : PlainIx b := by exact fun _ _ => rfl) : DE X ω ρ (.Subscript a b pos) (DL.I m) ω2 :=
  pe_w (pe_ix (ix_K k h) ha hb hs) fun σ H Q ⟨hE, q⟩ => ⟨hE, fun x H1 x1 r1 => ⟨hE.xt x1, fun y H2 x2 r2 => ⟨r1, r2.int, q _ H2 (x1.trans x2) (.ofInt _)⟩⟩⟩
end
/-! ### x += list -/
section
variable {X : Cx} {b : Expr} {ω ω1 : Own} {ρ : Rho} {pos p2 : Pos}
theorem dn_ext (i : Nat) {x : Str} {p : Addr} {ds es : List PyData} (ωa ωb : Own) (h0 : ω = ωa ++ (p, .lst ds) :: ωb) (hN : X.N.Nodup) (hp : ρ[i]? = some (some (.own p)) := by rfl) (hb : DE X ω ρ b (.dat (.list es)) ω) (hz : ds.length + es.length ≤ 1000) (h1 : ω1 = ωa ++ (p, .lst (ds ++ es)) :: ωb)
    (hi : X.N[i]? = some x := by rfl) (hx : Loc X.env.scope x := by first | exact Or.inl rfl | exact Or.inr rfl) (hf : X.fn x = true ∨ X.env.scope.names.lookup x = some .local := by first | exact .inl rfl | exact .inr rfl | assumption) :
    DN X ω ρ (.AugAssign (.Name x p2) .Add b pos) ω1 ρ := by
  subst h0 h1
  refine ps_w (ps_aug hN hi hx hb (ti := rExt2) iop_ext hf) fun D σ H ⟨hE, q⟩ => ?_
  obtain ⟨v, e1, e2⟩ := hE.val i _ hp
  have e2 : v = .ref p := e2
  subst e2
  refine ⟨_, e1, hE, fun w H1 x1 r1 => ?_⟩
  obtain ⟨l, zs, rfl, nl, el, rl⟩ := r1.lst
  obtain ⟨xs, ep, rp⟩ := x1.own.at_ (p, .lst ds) (by simp)
  have hc : HC (dom (ωa ++ (p, .lst ds) :: ωb)) (L2.upd H1 p (.lst (xs ++ zs))) p (.lst (ds ++ es)) := ⟨_, L2.upd_same, by rw [hide_upd_in (by simp [dom])]; exact rp.append rl⟩
  have hlen : xs.length + zs.length ≤ sizeLine := by rw [rp.length, rl.length]; exact Nat.le_of_lt (small1000 hz)
  refine ⟨p, l, xs, zs, rfl, rfl, ep, el, hlen, ?_⟩
  have hset : σ.set i (some (.ref p)) = σ := by
    obtain ⟨hlt, e3⟩ := List.getElem?_eq_some_iff.mp e1
    rw [← e3]
    exact List.set_getElem_self hlt
  show D.nx (σ.set i (some (.ref p))) _
  rw [hset]
  exact q σ _ (x1.trans (Xt.put x1.own hc)) ((hE.xt x1).put hc)
end
end ZM

set_option Elab.async false
set_option linter.all false
set_option maxRecDepth 100000
set_option maxHeartbeats 2000000
namespace ZM
open PySem PySem.Spec PyProof.Rows L2 DL CB
/-! ### the law's own row of numbers -/
abbrev rowV (scr : Addr) (k s r : Int) : List V := [.ref scr, .int k, .int s, .int r]
section
variable {X : Cx} {a b i1 : Expr} {ω ω1 : Own} {ρ : Rho} {pos p2 : Pos} {p scr : Addr} {ns : List Int} {k s r : Int}
theorem own_row {H : Hp} (o : OwnOk ω H) (h : (p, OC.row X.K scr ns k s r) ∈ ω) : H p = some (.lst (rowV scr k s r)) ∧ SRow X.K (dom ω) H scr ns ∧ ns.length ≤ 63 := o.at_ _ h
theorem de_rowI {j n : Int} (ha : DE X ω ρ a (.own p) ω) (hb : DE X ω ρ b (DL.I j) ω) (hin : (p, OC.row X.K scr ns k s r) ∈ ω) (h : L2.atI (rowV scr k s r) j = some (.int n)) (hs : PlainIx b := by exact fun _ _ => rfl) : DE X ω ρ (.Subscript a b pos) (DL.I n) ω :=
  pe_w (pe_ix ix_list ha hb hs) fun σ H Q ⟨hE, q⟩ => ⟨hE, fun x H1 x1 r1 => ⟨hE.xt x1, fun y H2 x2 r2 => by
    obtain ⟨e, _⟩ := own_row x2.own hin
    exact ⟨p, _, j, .int n, r1, r2.int, SqL.of e, h, q _ H2 (x1.trans x2) (.ofInt _)⟩⟩⟩
theorem de_rowS {j : Int} (ha : DE X ω ρ a (.own p) ω) (hb : DE X ω ρ b (DL.I j) ω) (hin : (p, OC.row X.K scr ns k s r) ∈ ω) (h : j = 0) (hs : PlainIx b := by exact fun _ _ => rfl) : DE X ω ρ (.Subscript a b pos) (.raw (.ref scr)) ω :=
  pe_w (pe_ix ix_list ha hb hs) fun σ H Q ⟨hE, q⟩ => ⟨hE, fun x H1 x1 r1 => ⟨hE.xt x1, fun y H2 x2 r2 => by
    subst h
    obtain ⟨e, _⟩ := own_row x2.own hin
    exact ⟨p, _, 0, .ref scr, r1, r2.int, SqL.of e, rfl, q _ H2 (x1.trans x2) rfl⟩⟩⟩
theorem de_rowCell {j n : Int} (ha : DE X ω ρ a (.raw (.ref scr)) ω) (hb : DE X ω ρ b (DL.I j) ω) (hin : (p, OC.row X.K scr ns k s r) ∈ ω) (h : L2.atI ns j = some n) (hs : PlainIx b := by exact fun _ _ => rfl) : DE X ω ρ (.Subscript a b pos) (DL.I n) ω :=
  pe_w (pe_ix ix_list ha hb hs) fun σ H Q ⟨hE, q⟩ => ⟨hE, fun x H1 x1 r1 => ⟨hE.xt x1, fun y H2 x2 r2 => by
    obtain ⟨_, rd, _⟩ := own_row x2.own hin
    refine ⟨scr, ns.map V.int, j, .int n, r1, r2.int, rd.sq, ?_, q _ H2 (x1.trans x2) (.ofInt _)⟩
    unfold L2.atI at h ⊢
    rw [List.length_map]
    cases e : L2.ixN ns.length j with
    | none => rw [e] at h; cases h
    | some m =>
      rw [e] at h
      have h : ns[m]? = some n := h
      show (ns.map V.int)[m]? = some (.int n)
      rw [List.getElem?_map, h]
      rfl⟩⟩
theorem de_rowLen (ha : DE X ω ρ a (.raw (.ref scr)) ω) (hin : (p, OC.row X.K scr ns k s r) ∈ ω) (hm : X.mg "len" = none) (hg : Gl X "len" := by rfl) (he : starEach [a] X.env = (false, eval a X.env) :: starEach [] X.env := by rfl) : DE X ω ρ (.Call (.Name "len" p2) [a] [] pos) (DL.I (ns.length : Nat)) ω :=
  pe_w (pe_callB call_len_seq hg hm boot_len (da_cons ha da_nil he) (by decide) (by decide) he rfl) fun σ H Q ⟨hE, q⟩ => ⟨hE, fun vs H1 x1 r1 => by
    obtain ⟨v, rfl, r2⟩ := REs.one r1
    have r2 : v = .ref scr := r2
    subst r2
    obtain ⟨_, rd, _⟩ := own_row x1.own hin
    refine ⟨scr, ns.map V.int, rfl, .inl rd.sq, ?_⟩
    rw [List.length_map]
    exact q _ H1 x1 (.ofInt _)⟩
/-- row[j] = n -/
theorem dn_rowSet {j n : Int} {k' s' r' : Int} (ωa ωb : Own) (h0 : ω = ωa ++ (p, .row X.K scr ns k s r) :: ωb) (hv : DE X ω ρ b (DL.I n) ω) (ho : DE X ω ρ a (.own p) ω) (hi : DE X ω ρ i1 (DL.I j) ω) (h1 : ω1 = ωa ++ (p, .row X.K scr ns k' s' r') :: ωb) {m : Nat} (hj : L2.ixN 4 j = some m) (hset : (rowV scr k s r).set m (.int n) = rowV scr k' s' r')
    (ha : ∀ v, assign (.Subscript a i1 p2) X.env v = (do
      let ov ← holding [v] (eval a X.env)
      let iv ← holding [v, ov] (eval i1 X.env)
      standAt p2
      holding [v, ov, iv] (setItem ov iv v)
      release [v, ov, iv] []) := by intro _; rfl)
    (hs : swapsWithSole [Expr.Subscript a i1 p2] b pos.line X.env = pure false := by rfl) (hw : swappedStores [Expr.Subscript a i1 p2] b X.env = pure none := by rfl) (ha1 : (assignEach [Expr.Subscript a i1 p2] X.env).map (·.2) = [assign (Expr.Subscript a i1 p2) X.env] := by rfl) :
    DN X ω ρ (.Assign [.Subscript a i1 p2] b pos) ω1 ρ := by
  subst h0 h1
  refine ps_w (ps_asg hv (pg_sub ho hi set_list ha) hs hw ha1) fun D σ H ⟨hE, q⟩ => ⟨hE, fun v H1 x1 r1 => ⟨hE.xt x1, fun v2 H2 x2 r2 => ⟨(hE.xt x1).xt x2, fun v3 H3 x3 r3 => ?_⟩⟩⟩
  have r2 : v2 = .ref p := r2
  subst r2
  have ev : v = .int n := r1.int
  subst ev
  have e3 : v3 = .int j := r3.int
  subst e3
  obtain ⟨eh, rd, l⟩ := own_row (X := X) x3.own (p := p) (scr := scr) (ns := ns) (k := k) (s := s) (r := r) (by simp)
  have hc : HC (dom (ωa ++ (p, .row X.K scr ns k s r) :: ωb)) (L2.upd H3 p (.lst (rowV scr k' s' r'))) p (.row X.K scr ns k' s' r') :=
    ⟨L2.upd_same, rd.to fun n q => ⟨n, rd_at q fun o y => by rw [L2.upd_ne fun z => n (by rw [z]; simp [dom])]; exact y⟩, l⟩
  refine ⟨p, _, j, m, rfl, rfl, eh, hj, ?_⟩
  rw [hset]
  exact q σ _ (((x1.trans x2).trans x3).trans (Xt.put x3.own hc)) ((((hE.xt x1).xt x2).xt x3).put hc)
end
end ZM

set_option Elab.async false
set_option linter.all false
set_option maxRecDepth 100000
set_option maxHeartbeats 2000000
namespace ZM
open PySem PySem.Spec PyProof.Rows L2 DL CB
/-! ### defs that hand back a new object for the caller to own -/
def nsp (R : List Ent → Own → OC → Own → Prop) : Sp := fun vs H Q _ => ∃ es ω oc ω', R es ω oc ω' ∧ OwnOk ω H ∧ REs (dom ω) H es vs ∧ ∀ p H', H p = none → OwnOk (ω' ++ [(p, oc)]) H' → Keep (dom ω) H H' → Q (.ref p) H'
structure DFnN (P : Program) (w : World) (K : PySem.W.Frag) (mg : Str → Option Value) (base : Heap) (k : Nat) (x : Str) (R : List Ent → Own → OC → Own → Prop) : Prop where
  ex : ∃ (f : Addr) (fd : FuncData) (ps : List Str), FnOk P w K mg base CX0 k f fd ps (nsp R) ∧ mg x = some (.ref f) ∧ PySem.W.keepIn K (.ref f) = true ∧ Binds K fd ps []
/-- a new object in the state ω' -/
def tNew2 (ω : Own) (ρ : Rho) (oc : OC) (ω' : Own) : TE := fun σ H Q => EOk ω ρ σ H ∧ ∀ p H', H p = none → OwnOk (ω' ++ [(p, oc)]) H' → Keep (dom ω) H H' → Q (.ref p) H'
theorem none_back {ω : Own} {H H1 : Hp} {p : Addr} (x : Xt ω H ω H1) (np : H1 p = none) : H p = none := by
  cases e : H p with
  | none => rfl
  | some u =>
    by_cases z : p ∈ dom ω
    · exact absurd z (x.own.fresh np)
    · rw [x.keep _ _ z e] at np
      cases np
section
variable {X : Cx} {a : Expr} {es : List Expr} {ω ω' : Own} {ρ : Rho} {pos p2 : Pos} {rs : List Ent} {k : Nat} {oc : OC} {R : List Ent → Own → OC → Own → Prop} {e : Ent} {ss : List Stmt}
theorem new_call {x : Str} (F : DFnN X.prog X.w X.K X.mg X.base k x R) (hr : Room k X.A) (ha : DA X ω ρ (a :: es) rs ω) (hR : R rs ω oc ω) (hg : Gl X x := by rfl) (hdb : (x == ("__debug__" : Str)) = false := by decide)
    (he : starEach (a :: es) X.env = (false, eval a X.env) :: starEach es X.env := by rfl) (hpl : (backTo pos (starEach es X.env)).any (·.1) = false := by rfl) : DNew X ω ρ (.Call (.Name x p2) (a :: es) [] pos) oc := by
  obtain ⟨f, fd, ps, F, hm, hk, hb⟩ := F.ex
  refine pe_w (pe_call F hr hg hm hk hb .nil pass0 ha hdb he hpl) fun σ H Q ⟨hE, q⟩ => ⟨hE, fun vs H1 x1 r1 => ?_⟩
  show nsp R (vs ++ []) H1 Q E0
  rw [List.append_nil]
  exact ⟨rs, ω, oc, ω, hR, x1.own, r1, fun p H2 np o2 k2 => q p H2 (none_back x1 np) o2 (x1.keep.trans k2)⟩
/-- the new object as a thing to read -/
theorem de_new {kvs : List (List Int × Int)} (h : DNew X ω ρ a (.dct kvs)) : DE X ω ρ a (.dct kvs) ω := pe_w h fun σ H Q ⟨hE, q⟩ => ⟨hE, fun p H1 np o1 k1 => by
  have hp : p ∉ dom ω := hE.own.fresh np
  exact q (.ref p) H1 ⟨rfl, o1.pre, k1⟩ ⟨p, rfl, hp, .inl (o1.at_ (p, .dct kvs) (by simp))⟩⟩
/-- the body of such a def -/
abbrev DRO (X : Cx) (ω : Own) (ρ : Rho) (ss : List Stmt) (oc : OC) (ω' : Own) : Prop := PSs X ss (fun D σ H => EOk ω ρ σ H ∧ ∀ p H', H p = none → OwnOk (ω' ++ [(p, oc)]) H' → Keep (dom ω) H H' → D.rt (.ref p) H')
theorem dro_new (i : Nat) {x : Str} {oc0 : OC} (hN : X.N.Nodup) (he : DNew X ω ρ a oc0) (h : ∀ p, DR X (ω ++ [(p, oc0)]) (ρ.set i (some (.own p))) ss (.own p) (ω ++ [(p, oc)]))
    (hi : X.N[i]? = some x := by rfl) (hx : Loc X.env.scope x := by first | exact Or.inl rfl | exact Or.inr rfl) (hs : swapsWith a (some (.Name x p2)) pos.line X.env = pure false := by rfl)
    (hf : X.fn x = true ∨ X.env.scope.names.lookup x = some .local := by first | exact .inl rfl | exact .inr rfl | assumption) : DRO X ω ρ (.Assign [.Name x p2] a pos :: ss) oc ω := by
  have hall : PSs X ss (fun D σ H => ∃ p : Addr, True ∧ tRt (ω ++ [(p, oc0)]) (ρ.set i (some (.own p))) (.own p) (ω ++ [(p, oc)]) D σ H) := pss_ex (p := fun _ => True) (t := fun p => tRt (ω ++ [(p, oc0)]) (ρ.set i (some (.own p))) (.own p) (ω ++ [(p, oc)])) fun p _ => h p
  refine pss_w (pss_cons (ps_set hN hi hx he hs hf) hall) fun D σ H ⟨hE, q⟩ => ⟨hE, fun p H1 np ok kp => ⟨p, trivial, ?_, fun v H' kk oo rr => ?_⟩⟩
  · have E1 : EOk (ω ++ [(p, oc0)]) ρ σ H1 := ⟨ok, hE.len, fun i e h => let ⟨v, h1, h2⟩ := hE.val i e h; ⟨v, h1, by rw [dom_app]; exact h2.hideMore np kp⟩⟩
    exact E1.set (e := .own p) rfl
  · have rr : v = .ref p := rr
    subst rr
    refine q p H' np oo fun b' u nb hb => kk b' u (fun z => ?_) (kp _ _ nb hb)
    rw [dom_app] at z
    exact (List.mem_append.mp z).elim nb fun z => ne_of_none hb np (by simpa [dom] using z)
end
section
variable {P : Program} {w : World} {K : PySem.W.Frag} {mg : Str → Option Value} {base : Heap} {x qual : Str} {st : Stmt} {f : Addr} {fd : FuncData} {N ps : List Str} {k : Nat} {R : List Ent → Own → OC → Own → Prop}
theorem dfnN_ret (F : Fun K x qual st f fd) (hm : mg x = some (.ref f)) (hb : Binds K fd ps []) (S : FnScope N ps (defScope st)) (len : ∀ es ω oc ω', R es ω oc ω' → es.length = ps.length)
    (body : ∀ (cdv : Value) (A : Around) (outer : List Env) (s : Shared) (H : Hp) (E : XK), Room k (CxF P w K mg base N qual st f cdv A outer s H E).A → ∀ es ω oc ω', R es ω oc ω' → DRO (CxF P w K mg base N qual st f cdv A outer s H E) ω (rho0 N es) (defBody st) oc ω') : DFnN P w K mg base (k + 1) x R := by
  refine ⟨f, fd, ps, F.ok S (fun vs H Q E ⟨es, ω, oc, ω', r, o, rs, q⟩ => ?_) (fun cdv A outer s H vs Q E hr ⟨es, ω, oc, ω', r, o, rs, q⟩ => ?_), hm, F.kp, hb⟩
  · exact rs.length.symm.trans (len _ _ _ _ r)
  · exact ⟨_, body cdv A outer s H E hr es ω oc ω' r, EOk_start o rs, q⟩
end
end ZM

set_option Elab.async false
set_option linter.all false
set_option maxRecDepth 100000
set_option maxHeartbeats 2000000
namespace ZM
open PySem PySem.Spec PyProof.Rows L2 DL CB
section
variable {X : Cx} {a b c : Expr} {ω ω1 ω' : Own} {ρ ρ1 : Rho} {e e2 : Ent} {ss body : List Stmt} {pos : Pos} {oc : OC}
/-- if c: body, and what follows -/
theorem dr_ifC {k : Bool} (h : DT X ω ρ c k ω1) (h1 : k = true → ∃ ω2 ρ2, DNs X ω1 ρ body ω2 ρ2 ∧ DR X ω2 ρ2 ss e ω') (h2 : k = false → DR X ω1 ρ ss e ω') : DR X ω ρ (.If c body [] pos :: ss) e ω' := by
  cases k with
  | true =>
    obtain ⟨ω2, ρ2, hb, hr⟩ := h1 rfl
    exact dr_cons (dn_ifT h hb) hr
  | false => exact dr_ifF h (h2 rfl)
/-- a, b = a new object, a value -/
theorem dr_pairN (i j : Nat) {x y : Str} {k k' : Nat} {px py pt pv' : Pos} (ω2 : Addr → Own) (hc : X.calm = true) (hN : X.N.Nodup) (he : DNew X ω ρ a oc) (hb : ∀ p, DE X (ω ++ [(p, oc)]) ρ b e2 (ω2 p)) (h : ∀ p, DR X (ω2 p) ((ρ.set i (some (.own p))).set j (some e2)) ss e ω')
    (hi : X.N[i]? = some x := by rfl) (hj : X.N[j]? = some y := by rfl)
    (hx : Loc X.env.scope x := by first | exact Or.inl rfl | exact Or.inr rfl) (hy : Loc X.env.scope y := by first | exact Or.inl rfl | exact Or.inr rfl)
    (hs : swapsWithSole [Expr.Tuple [.Name x px, .Name y py] k pt] (.Tuple [a, b] k' pv') pos.line X.env = pure false := by rfl) (hw : swappedStores [Expr.Tuple [.Name x px, .Name y py] k pt] (.Tuple [a, b] k' pv') X.env = pure none := by rfl)
    (h1 : (assignEach [Expr.Tuple [.Name x px, .Name y py] k pt] X.env).map (·.2) = [assign (Expr.Tuple [.Name x px, .Name y py] k pt) X.env] := by rfl)
    (hf : X.fn x = true ∨ X.env.scope.names.lookup x = some .local := by first | exact .inl rfl | exact .inr rfl | assumption) (hf' : X.fn y = true ∨ X.env.scope.names.lookup y = some .local := by first | exact .inl rfl | exact .inr rfl | assumption)
    (hn : (assignEach [Expr.Name x px, .Name y py] X.env).length = 2 := by rfl) (hst : (assignEach [Expr.Name x px, .Name y py] X.env).findIdx? (·.1) = none := by rfl)
    (ha1 : (assignEach [Expr.Name x px, .Name y py] X.env).map (·.2) = assign (.Name x px) X.env :: (assignEach [Expr.Name y py] X.env).map (·.2) := by rfl) (ha2 : (assignEach [Expr.Name y py] X.env).map (·.2) = assign (.Name y py) X.env :: (assignEach [] X.env).map (·.2) := by rfl)
    (s1 : starEach [a, b] X.env = (false, eval a X.env) :: starEach [b] X.env := by rfl) (s2 : starEach [b] X.env = (false, eval b X.env) :: starEach [] X.env := by rfl) :
    DR X ω ρ (.Assign [.Tuple [.Name x px, .Name y py] k pt] (.Tuple [a, b] k' pv') pos :: ss) e ω' := by
  have hb' : PE X b (fun σ H Q => ∃ p : Addr, True ∧ tD (ω ++ [(p, oc)]) ρ e2 (ω2 p) σ H Q) := pe_ex (p := fun _ => True) (t := fun p => tD (ω ++ [(p, oc)]) ρ e2 (ω2 p)) fun p _ => hb p
  have hall : PSs X ss (fun D σ H => ∃ p : Addr, True ∧ tRt (ω2 p) ((ρ.set i (some (.own p))).set j (some e2)) e ω' D σ H) := pss_ex (p := fun _ => True) (t := fun p => tRt (ω2 p) ((ρ.set i (some (.own p))).set j (some e2)) e ω') fun p _ => h p
  refine pss_w (pss_cons (ps_asg (pe_tup (pa_cons he (pa_cons hb' pa_nil s2) s1)) (pg_tup hc (pgs_cons (pg_name hN hi hx hf) (pgs_cons (pg_name hN hj hy hf') pgs_nil ha2) ha1) hn hst) hs hw h1) hall) fun D σ H ⟨hE, q⟩ => ⟨hE, fun p H1 np ok kp => ?_⟩
  have E1 : EOk (ω ++ [(p, oc)]) ρ σ H1 := ⟨ok, hE.len, fun i e h => let ⟨v, h1, h2⟩ := hE.val i e h; ⟨v, h1, by rw [dom_app]; exact h2.hideMore np kp⟩⟩
  refine ⟨p, trivial, E1, fun v H2 x2 r2 => ⟨by show 2 ≤ sizeLine; decide, fun t nt => ⟨t, _, rfl, SqT.of L2.upd_same, rfl, _, _, rfl, _, _, rfl, rfl, p, trivial, ?_, fun v' H' kk oo rr => q v' H' (fun b' u nb hb => ?_) oo rr⟩⟩⟩
  · have x3 : Xt (ω ++ [(p, oc)]) H1 (ω2 p) (L2.upd H2 t (.tup [.ref p, v])) := x2.trans (.upd x2.own nt)
    exact ((E1.xt x3).set (e := .own p) rfl).set (r2.keep (Keep.upd nt))
  · have nbp : b' ≠ p := ne_of_none hb np
    have nb2 : b' ∉ dom (ω ++ [(p, oc)]) := fun z => by
      rw [dom_app] at z
      exact (List.mem_append.mp z).elim nb fun z => nbp (by simpa [dom] using z)
    have h2 := x2.keep b' u nb2 (kp b' u nb hb)
    have h3 : L2.upd H2 t (.tup [.ref p, v]) b' = some u := by rw [L2.upd_ne (ne_of_none h2 nt)]; exact h2
    exact kk b' u (by rw [x2.dm]; exact nb2) h3
end
end ZM

set_option Elab.async false
set_option linter.all false
set_option maxRecDepth 100000
set_option maxHeartbeats 2000000
namespace ZM
open PySem PySem.Spec PyProof.Rows L2 DL CB
/-! ### great numbers, shifts -/
section
variable {X : Cx} {i j : Int}
theorem o_fdivW (h : CDivW i j) : Op2 X (binaryOp .FloorDiv) (DL.I i) (DL.I j) (DL.I (i / j)) := op2_I op_fdivW h
theorem o_mulW (h : CMulW i j) : Op2 X (binaryOp .Mult) (DL.I i) (DL.I j) (DL.I (i * j)) := op2_I op_mulW h
theorem o_shl (h : CPow i j) : Op2 X (binaryOp .LShift) (DL.I i) (DL.I j) (DL.I (i * 2 ^ j.toNat)) := op2_I op_shl h
/-! ### math -/
theorem c_gcd : CallD X (.builtin "math.gcd") [DL.I i, DL.I j] (DL.I ((Nat.gcd i.natAbs j.natAbs : Nat) : Int)) :=
  ⟨_, cr_gcd, fun ω vs H Q o rr q => by
    obtain ⟨v, w, rfl, r1, r2⟩ := REs.two rr
    exact ⟨i, j, by rw [r1.int, r2.int], q _ H (.refl o) (.ofInt _)⟩⟩
def rLcm : List V → Hp → VK → Prop := fun vs H Q => ∃ a b : Nat, vs = [.int a, .int b] ∧ a < 2 ^ 64 ∧ b < 2 ^ 64 ∧ Q (.int ((Nat.lcm a b : Nat) : Int)) H
theorem lcm_small {a b : Nat} (ha : a < 2 ^ 64) (hb : b < 2 ^ 64) : (((Nat.lcm a b : Nat) : Int)).natAbs.log2 < bitsLine := by
  have h1 : Nat.lcm a b < 2 ^ (127 + 1) := by
    have q := Nat.mul_lt_mul'' ha hb
    have e : (2 : Nat) ^ 64 * 2 ^ 64 = 2 ^ (127 + 1) := by decide
    rw [e] at q
    exact Nat.lt_of_le_of_lt (Nat.div_le_self _ _) q
  have := PySem.W.mg_log h1
  have e : bitsLine = 134217728 := by decide
  show (Nat.lcm a b).log2 < _
  omega
theorem cr_lcm : CallR X (.builtin "math.lcm") rLcm := by
  intro pins s σ H vs us Q I r h
  obtain ⟨a, b, rfl, ha, hb, q⟩ := h
  obtain ⟨t, u, rfl⟩ := Vals.int2 r
  refine PySem.W.mg_lcm_v (c := ((Nat.lcm a b : Nat) : Int)) (by exact ha) (by exact hb) ?_ (lcm_small ha hb) ⟨.int _, H, I.tok _, ⟨_, rfl⟩, q⟩
  rw [Nat.lcm_one_left]
  rfl
theorem c_lcm {a b : Nat} (ha : a < 2 ^ 64) (hb : b < 2 ^ 64) : CallD X (.builtin "math.lcm") [DL.I a, DL.I b] (DL.I ((Nat.lcm a b : Nat) : Int)) :=
  ⟨_, cr_lcm, fun ω vs H Q o rr q => by
    obtain ⟨v, w, rfl, r1, r2⟩ := REs.two rr
    exact ⟨a, b, by rw [r1.int, r2.int], ha, hb, q _ H (.refl o) (.ofInt _)⟩⟩
def rFac : List V → Hp → VK → Prop := fun vs H Q => ∃ a : Nat, vs = [.int a] ∧ a ≤ 10 ∧ Q (.int ((Builtin.Math.factorialNat a : Nat) : Int)) H
theorem cr_fac : CallR X (.builtin "math.factorial") rFac := by
  intro pins s σ H vs us Q I r h
  obtain ⟨a, rfl, ha, q⟩ := h
  obtain ⟨u, eu, rx⟩ := vals1 r
  subst eu
  obtain ⟨t, rfl⟩ := (show ∃ t, u = Value.int a t from rx)
  have key : ∀ a ≤ 10, Builtin.Math.factorialNat a < 2 ^ (30 + 1) := by decide
  have h1 := PySem.W.mg_log (key a ha)
  have e : bitsLine = 134217728 := by decide
  have e2 : ¬ (a : Int) > Builtin.Math.maxSsize := by
    have : (10 : Int) ≤ Builtin.Math.maxSsize := by decide
    omega
  have e3 : ¬ (a : Int) > Builtin.Math.manyFactors := by
    have : (10 : Int) ≤ Builtin.Math.manyFactors := by decide
    omega
  refine PySem.W.mg_factorial_v (c := ((Builtin.Math.factorialNat a : Nat) : Int)) e2 (by omega) e3 rfl ?_ ⟨.int _, H, I.tok _, ⟨_, rfl⟩, q⟩
  show (Builtin.Math.factorialNat a).log2 < _
  omega
theorem c_fac {a : Nat} (ha : a ≤ 10) : CallD X (.builtin "math.factorial") [DL.I a] (DL.I ((Builtin.Math.factorialNat a : Nat) : Int)) :=
  ⟨_, cr_fac, fun ω vs H Q o rr q => by
    obtain ⟨v, rfl, r⟩ := REs.one rr
    exact ⟨a, by rw [r.int], ha, q _ H (.refl o) (.ofInt _)⟩⟩
end
section
variable {X : Cx} {a b c : Expr} {es : List Expr} {ω ω1 ω2 : Own} {ρ ρ1 : Rho} {pos p2 : Pos} {e : Ent} {rs : List Ent}
/-- f(..), f a name of the module for a built-in -/
theorem de_callM {x : Str} {id : String} (hc : CallD X (.builtin id) rs e) (hm : X.mg x = some (.builtin id)) (ha : DA X ω ρ (a :: es) rs ω1) (hg : Gl X x := by rfl) (hdb : (x == ("__debug__" : Str)) = false := by decide)
    (he : starEach (a :: es) X.env = (false, eval a X.env) :: starEach es X.env := by rfl) (hpl : (backTo pos (starEach es X.env)).any (·.1) = false := by rfl) : DE X ω ρ (.Call (.Name x p2) (a :: es) [] pos) e ω1 := by
  obtain ⟨r, h1, h2⟩ := hc.ex
  exact pe_w (pe_callBfun h1 hg hm ha hdb he hpl) fun σ H Q ⟨hE, q⟩ => ⟨hE, fun vs H1 x1 r1 => h2 _ vs H1 Q x1.own r1 fun v H2 x2 r2 => q v H2 (x1.trans x2) r2⟩
end
/-! ### a def at an address -/
structure DFa (P : Program) (w : World) (K : PySem.W.Frag) (mg : Str → Option Value) (base : Heap) (k : Nat) (f : Addr) (R : List Ent → Own → Ent → Own → Prop) : Prop where
  ex : ∃ (fd : FuncData) (ps : List Str), FnOk P w K mg base CX0 k f fd ps (dsp R) ∧ PySem.W.keepIn K (.ref f) = true ∧ Binds K fd ps []
theorem dfa_of {P : Program} {w : World} {K : PySem.W.Frag} {mg : Str → Option Value} {base : Heap} {k : Nat} {x : Str} {R : List Ent → Own → Ent → Own → Prop} (F : DFn P w K mg base k x R) {f : Addr} (hm : mg x = some (.ref f)) : DFa P w K mg base k f R := by
  obtain ⟨f', fd, ps, F, hm', hk, hb⟩ := F.ex
  rw [hm] at hm'
  cases hm'
  exact ⟨fd, ps, F, hk, hb⟩
section
variable {X : Cx} {a b c : Expr} {es : List Expr} {ω ω1 ω2 : Own} {ρ ρ1 : Rho} {pos p2 : Pos} {e : Ent} {rs : List Ent} {k : Nat} {R : List Ent → Own → Ent → Own → Prop}
/-- f(..), f a local name -/
theorem de_callL (i : Nat) {x : Str} {f : Addr} (F : DFa X.prog X.w X.K X.mg X.base k f R) (hr : Room k X.A) (ha : DA X ω ρ (a :: es) rs ω1) (hR : R rs ω1 e ω2) (hf : ρ[i]? = some (some (.raw (.ref f))) := by rfl) (hd : dom ω2 = dom ω1 := by rfl) (hN : X.N[i]? = some x := by rfl) (hv : Vis X.env.scope x := by first | exact Or.inl rfl | exact Or.inr (Or.inl rfl) | exact Or.inr (Or.inr rfl))
    (hdb : (x == ("__debug__" : Str)) = false := by decide) (hcd : (x == ("__classdict__" : Str)) = false := by decide)
    (he : starEach (a :: es) X.env = (false, eval a X.env) :: starEach es X.env := by rfl) (hpl : (backTo pos (starEach es X.env)).any (·.1) = false := by rfl) : DE X ω ρ (.Call (.Name x p2) (a :: es) [] pos) e ω2 := by
  obtain ⟨fd, ps, F, hk, hb⟩ := F.ex
  refine pe_w (pe_callL F hr hN hv hk hb .nil pass0 ha hdb hcd he hpl) fun σ H Q ⟨hE, q⟩ => ⟨?_, hE, fun vs H1 x1 r1 => ?_⟩
  · obtain ⟨v, h1, h2⟩ := hE.val i _ hf
    have h2 : v = .ref f := h2
    rw [h1, h2]
  · show dsp R (vs ++ []) H1 Q E0
    rw [List.append_nil]
    exact ⟨rs, ω1, e, ω2, hR, x1.own, r1, fun v H2 k2 o2 r2 => q v H2 (x1.trans ⟨hd, o2, k2⟩) r2⟩
end
/-! ### texts -/
section
variable {X : Cx}
theorem inV_strs (k : Str) : ∀ ns : List Str, inV (.str k) (ns.map V.str) = decide (k ∈ ns)
  | [] => rfl
  | n :: ns => by
    show (eqV (.str n) (.str k) || inV (.str k) (ns.map V.str)) = _
    rw [inV_strs k ns]
    have e : eqV (.str n) (.str k) = decide (n = k) := rfl
    rw [e]
    by_cases h : n = k
    · subst h; simp
    · rw [decide_eq_false h, Bool.false_or]
      by_cases h2 : k ∈ ns
      · rw [decide_eq_true h2, decide_eq_true (List.mem_cons_of_mem _ h2)]
      · rw [decide_eq_false h2, decide_eq_false fun z => (List.mem_cons.mp z).elim (fun y => h y.symm) h2]
theorem RpAll.strs {H : Hp} : ∀ {vs : List V} {ns : List Str}, RpAll H vs (ns.map PyData.str) → vs = ns.map V.str
  | _, [], h => by rw [List.map_nil] at h; cases h; rfl
  | _, n :: ns, h => by
    rw [List.map_cons] at h
    cases h with
    | cons a b => cases a; rw [RpAll.strs b]; rfl
theorem RpAll.of_strs {H : Hp} : ∀ {ns : List Str}, RpAll H (ns.map V.str) (ns.map PyData.str)
  | [] => .nil
  | _ :: _ => .cons (.str _) RpAll.of_strs
theorem flat_strs : ∀ ns : List Str, (ns.map V.str).all flatV = true
  | [] => rfl
  | _ :: ns => by
    show (true && (ns.map V.str).all flatV) = true
    rw [flat_strs ns]
    rfl
theorem o_inTS {k : Str} {g : List Str} : Op2 X (compareOp .In) (.dat (.str k)) (.dat (.tuple (g.map .str))) (B (decide (k ∈ g))) :=
  ⟨_, op_in_seq, fun ω x y H Q o rx ry q => by
    obtain ⟨p, xs, rfl, n, e, r⟩ := ry.tup
    cases rx.str
    have ex := RpAll.strs r
    subst ex
    refine ⟨p, _, rfl, .inr (SqT.of e), rfl, flat_strs g, ?_⟩
    rw [inV_strs]
    exact q _ H (.refl o) (.ofBool _)⟩
theorem o_notInTS {k : Str} {g : List Str} : Op2 X (compareOp .NotIn) (.dat (.str k)) (.dat (.tuple (g.map .str))) (B (!decide (k ∈ g))) :=
  ⟨_, op_notIn_seq, fun ω x y H Q o rx ry q => by
    obtain ⟨p, xs, rfl, n, e, r⟩ := ry.tup
    cases rx.str
    have ex := RpAll.strs r
    subst ex
    refine ⟨p, _, rfl, .inr (SqT.of e), rfl, flat_strs g, ?_⟩
    rw [inV_strs]
    exact q _ H (.refl o) (.ofBool _)⟩
end
/-! ### a module's dict with texts as keys -/
def SLit (P : Params) : List DictEntry → List (Str × Addr) → Prop
  | [], [] => True
  | e :: r, p :: t => (∃ u, e.key = .str p.1 u) ∧ e.hash = PyData.keyHash P p.1 ∧ e.val = .ref p.2 ∧ SLit P r t
  | _, _ => False
structure KS (K : PySem.W.Frag) (w : World) (a : Addr) (tab : List (Str × Addr)) : Prop where
  ex : ∃ es n, K.lookup a = some ⟨.type "dict", none, .dict es n, #[]⟩ ∧ (a == sysModules) = false ∧ SLit w.params es.toList tab
def tabS (tab : List (Str × Addr)) (x : Str) : Option Addr := (tab.find? fun p => decide (p.1 = x)).map (·.2)
theorem SLit.lit {P : Params} : ∀ {l : List DictEntry} {tab : List (Str × Addr)}, SLit P l tab → PySem.W.KeysLit P l
  | [], [], _ => trivial
  | _ :: _, _ :: _, ⟨⟨u, h1⟩, h2, _, r⟩ => ⟨⟨_, u, h1, h2⟩, SLit.lit r⟩
  | [], _ :: _, h => h.elim
  | _ :: _, [], h => h.elim
theorem SLit.find {P : Params} (x : Str) : ∀ {l : List DictEntry} {tab : List (Str × Addr)}, SLit P l tab → (l.find? fun e => e.key.isStr x).map (·.val) = (tabS tab x).map Value.ref
  | [], [], _ => rfl
  | e :: l, p :: tab, ⟨⟨u, h1⟩, h2, h3, r⟩ => by
    have ih := SLit.find x r
    have ek : e.key.isStr x = decide (p.1 = x) := by
      rw [h1]
      show (p.1 == x) = _
      by_cases h : p.1 = x
      · subst h; simp
      · rw [decide_eq_false h]
        exact beq_eq_false_iff_ne.mpr h
    unfold tabS at ih ⊢
    by_cases h : p.1 = x
    · rw [List.find?_cons_of_pos (by rw [ek]; exact decide_eq_true h), List.find?_cons_of_pos (by exact decide_eq_true h)]
      show some e.val = some (Value.ref p.2)
      rw [h3]
    · rw [List.find?_cons_of_neg (by rw [ek, decide_eq_false h]; decide), List.find?_cons_of_neg (by rw [decide_eq_false h]; decide)]
      exact ih
  | [], _ :: _, h => h.elim
  | _ :: _, [], h => h.elim
section
variable {X : Cx} {a b : Expr} {ω ω1 ω2 : Own} {ρ : Rho} {pos p2 : Pos} {d : Addr} {tab : List (Str × Addr)}
theorem KS.dct {K : PySem.W.Frag} {w : World} (k : KS K w d tab) {x : Str} {f : Addr} (h : tabS tab x = some f) : KDct K w d x (.ref f) := by
  obtain ⟨es, n, hl, low, sl⟩ := k.ex
  refine ⟨es, n, .ref f, hl, sl.lit, ?_, rfl⟩
  have hf := sl.find x
  rw [h] at hf
  unfold PySem.W.nsIn
  rw [hl]
  dsimp only
  cases e : es.toList.find? fun e => e.key.isStr x with
  | none => rw [e] at hf; cases hf
  | some y =>
    rw [e] at hf
    have hf : some y.val = some (Value.ref f) := hf
    dsimp only
    rw [Option.some.inj hf]
/-- d[x] of a module's dict -/
theorem de_ixS (k : KS X.K X.w d tab) {x : Str} {f : Addr} (h : tabS tab x = some f) (ha : DE X ω ρ a (.raw (.ref d)) ω1) (hb : DE X ω1 ρ b (.dat (.str x)) ω2) (hs : PlainIx b := by exact fun _ _ => rfl) : DE X ω ρ (.Subscript a b pos) (.raw (.ref f)) ω2 :=
  pe_w (pe_ix ix_kdict ha hb hs) fun σ H Q ⟨hE, q⟩ => ⟨hE, fun v H1 x1 r1 => ⟨hE.xt x1, fun y H2 x2 r2 => ⟨d, x, .ref f, r1, r2.str, k.dct h, q _ H2 (x1.trans x2) rfl⟩⟩⟩
abbrev kvS (tab : List (Str × Addr)) : List (Str × Value) := tab.map fun p => (p.1, Value.ref p.2)
theorem SLit.keysOf {P : Program} {w : World} : ∀ {l : List DictEntry} {tab : List (Str × Addr)}, SLit w.params l tab → ∀ e ∈ l, ∃ k, (strKind P w).is k e.key = true ∧ e.hash = (strKind P w).hash k
  | [], [], _, _, h => nomatch h
  | e :: l, p :: tab, ⟨⟨u, h1⟩, h2, h3, r⟩, x, hx => by
    rcases List.mem_cons.mp hx with z | z
    · subst z
      exact ⟨p.1, by rw [h1]; exact strKind_is P w p.1 u, h2⟩
    · exact SLit.keysOf r x z
  | [], _ :: _, h, _, _ => h.elim
  | _ :: _, [], h, _, _ => h.elim
theorem SLit.pairs {P : Program} {w : World} : ∀ {l : List DictEntry} {tab : List (Str × Addr)}, SLit w.params l tab → Pairs (strKind P w) l (kvS tab)
  | [], [], _ => .nil
  | e :: l, p :: tab, ⟨⟨u, h1⟩, h2, h3, r⟩ => .cons (by rw [h1]; exact strKind_is P w p.1 u) h3 (SLit.pairs r)
  | [], _ :: _, h => h.elim
  | _ :: _, [], h => h.elim
theorem keys_kvS (tab : List (Str × Addr)) : (kvS tab).map (·.1) = tab.map (·.1) := by rw [List.map_map]; rfl
def rSortedKS (d : Addr) (tab : List (Str × Addr)) : List V → Hp → VK → Prop := fun xs H Q => xs = [.ref d] ∧ ∀ ys p, ys.Perm (tab.map (·.1)) → sortedS ys = true → H p = none → Q (.ref p) (upd H p (.lst (ys.map V.str)))
theorem call_sortedKS (hcalm : X.calm = true) (k : KS X.K X.w d tab) (nd : (tab.map (·.1)).Nodup) (h64 : tab.length < 64) : CallR X (.builtin "sorted") (rSortedKS d tab) := by
  intro pins s σ H xs us Q I r q
  obtain ⟨ex, q⟩ := q
  subst ex
  obtain ⟨u, eu, rx⟩ := vals1 r
  subst eu
  cases rx
  obtain ⟨es, n, hl, low, sl⟩ := k.ex
  have hat : s.heap.DictAt (strKind X.prog X.w) d (kvS tab) n := ⟨_, es, I.kIn _ _ hl, ⟨rfl, rfl, rfl⟩, rfl, fun e he => SLit.keysOf sl e (Array.mem_toList_iff.mpr he), SLit.pairs sl, by rw [keys_kvS]; exact nd⟩
  have hkl : (kvS tab).length = (tab.map (·.1)).length := by rw [List.length_map, List.length_map]
  have h16 : (kvS tab).length ≤ sizeLine := by rw [hkl, List.length_map, sizeLine_eq]; omega
  refine Calls.call_function_entry PyProof.Rows.kind_sorted PyProof.Rows.plain_sorted PyProof.Rows.entry_sorted (PyProof.Rows.args_sorted1 _) ?_
  unfold Builtin.«sorted»
  refine wpAny_bind (m := checkCount "sorted" 1 1 _) (wpAny_pure ?_)
  refine wpAny_bind (PySem.W.kdu_collect (A := X.A.in1) (PySem.W.kdl_dict (knd := strKind X.prog X.w) (kvs := kvS tab) (ep := n) low) (I.ok.hd hcalm) hat h16 fun h' tk acc hk hacc => ?_)
  have hal : acc.toList.length = (tab.map (·.1)).length := by rw [Array.length_toList, hacc.1, hkl]
  have hS : StrsAre acc.toList (tab.map (·.1)) := strs_at hal fun j v e => by
    obtain ⟨k, x, e1, e2⟩ := hacc.2 j v (by rw [← Array.getElem?_toList]; exact e)
    have e3 : ((kvS tab).map (·.1))[j]? = some k := by rw [List.getElem?_map, e1]; rfl
    rw [keys_kvS] at e3
    obtain ⟨t, ev⟩ := Value.isStrOf_shape (x := k) (v := v) e2
    exact ⟨k, t, e3, ev⟩
  have I1 : Inv X pins σ H { s with heap := h', toks := tk } := I.kept hk
  have h64' : acc.toList.length < 64 := by rw [hal, List.length_map]; exact h64
  refine wpAny_bind (wpAny_newList ?_ (by rw [sizeLine_eq]; omega))
  have hoL : (h'.push (seqObj "list" acc.toList.toArray 0)).get? h'.objs.size = some (seqObj "list" acc.toList.toArray 0) := Heap.get?_push_size _ rfl
  show wpAny _ _ _ _ _ { s with heap := h'.push (seqObj "list" acc.toList.toArray 0), toks := tk }
  refine wpAny_bind (wpAny_holding (wpAny_call_entry PyProof.Rows.slot_list_sort ⟨_, hoL, rfl⟩ PyProof.Rows.entry_list_sort
    (list_sort_treeK strKind_oneLt (s := { s with heap := h'.push (seqObj "list" acc.toList.toArray 0), toks := tk }) hoL hS.keysOf (fun v₁ v₂ rest e => keyKind_strs (by rw [← e]; exact hS)) h64' fun st' hp hs => ⟨_, rfl, ?_⟩)
    (PyProof.Rows.args_list_sort _)))
  obtain ⟨ys, g1, g2, g3⟩ := sorted_out_str hS hp hs
  obtain ⟨e', he'⟩ := PyProof.Rows.sortedHeap_at (vs := acc.toList) (out := (arrOf st').map (·.2)) hoL
  have hlen : (ys.map V.str).length ≤ sizeLine := by
    rw [List.length_map, g2.length_eq, List.length_map]
    exact Nat.le_trans (Nat.le_of_lt h64) (by decide)
  refine wpAny_pure ⟨_, rfl, .ref h'.objs.size, upd H h'.objs.size (.lst (ys.map V.str)), I1.laid (t' := tk) (fun b u e => ?_) (Nat.le_refl _)
    (show ObjOk X.prog X.w _ _ _ (.lst (ys.map V.str)) from ⟨hlen, ((arrOf st').map (·.2)).toList, e', vals_of_strs g1, by rw [Array.toArray_toList]; exact he'⟩), rfl, q ys _ g2 g3 (I1.hok.fresh (Nat.le_refl _))⟩
  have hb : b < h'.objs.size := Heap.lt_size e
  rw [PyProof.Rows.sortedHeap_old (Nat.ne_of_lt hb) (by rw [size_push']; exact Nat.lt_succ_of_lt hb)]
  exact Heap.get?_push_of_some _ e
end
/-! ### the sorted keys -/
theorem ltC_eq (a b : Str) : ltCps a.cps.toList b.cps.toList = decide (a.cps.toList < b.cps.toList) := by rw [ltCps_eq]
theorem rising_all : ∀ (r : List Str) (x : Str), risingS x r = true → ∀ y ∈ r, ¬ y.cps.toList < x.cps.toList
  | [], _, _, _, h => nomatch h
  | z :: r, x, h, y, hy => by
    have h : (!ltCps z.cps.toList x.cps.toList && risingS z r) = true := h
    rw [Bool.and_eq_true] at h
    have h1 : ¬ z.cps.toList < x.cps.toList := by
      have q := h.1
      rw [ltC_eq] at q
      intro w
      rw [decide_eq_true w] at q
      cases q
    rcases List.mem_cons.mp hy with e | e
    · rw [e]; exact h1
    · have h2 := rising_all r z h.2 y e
      exact List.le_trans (α := Nat) (show x.cps.toList ≤ z.cps.toList from h1) (show z.cps.toList ≤ y.cps.toList from h2)
theorem risingS_tail {x : Str} {r : List Str} (h : risingS x r = true) : sortedS r = true := by
  cases r with
  | nil => rfl
  | cons z r =>
    have h : (!ltCps z.cps.toList x.cps.toList && risingS z r) = true := h
    rw [Bool.and_eq_true] at h
    exact h.2
theorem str_toList {a b : Str} (h : a.cps.toList = b.cps.toList) : a = b := by
  obtain ⟨⟨x⟩⟩ := a
  obtain ⟨⟨y⟩⟩ := b
  have h : x = y := h
  rw [h]
/-- ascending texts are the only ascending order of themselves -/
theorem strs_only : ∀ (ks ys : List Str), ys.Perm ks → sortedS ys = true → ks.Pairwise (fun a b => a.cps.toList < b.cps.toList) → ys = ks
  | [], ys, p, _, _ => List.Perm.eq_nil p
  | k :: ks, [], p, _, _ => absurd p.length_eq (by simp)
  | k :: ks, y :: ys, p, h, hk => by
    obtain ⟨k1, k2⟩ := List.pairwise_cons.mp hk
    have hy : risingS y ys = true := h
    have e : y = k := by
      have m1 : y ∈ k :: ks := p.mem_iff.mp List.mem_cons_self
      have m2 : k ∈ y :: ys := p.mem_iff.mpr List.mem_cons_self
      rcases List.mem_cons.mp m1 with z | z
      · exact z
      · rcases List.mem_cons.mp m2 with w | w
        · exact w.symm
        · exact absurd (k1 y z) (rising_all ys y hy k w)
    subst e
    rw [strs_only ks ys (List.Perm.cons_inv p) (risingS_tail hy) k2]
section
variable {X : Cx} {d : Addr} {tab : List (Str × Addr)}
theorem c_sortedKS (hcalm : X.calm = true) (k : KS X.K X.w d tab) (h64 : tab.length < 64) (hk : (tab.map (·.1)).Pairwise (fun a b => a.cps.toList < b.cps.toList)) : CallD X (.builtin "sorted") [.raw (.ref d)] (.dat (.list ((tab.map (·.1)).map .str))) :=
  ⟨_, call_sortedKS hcalm k (hk.imp fun {a b} h z => by subst z; exact List.lt_irrefl _ h) h64, fun ω vs H Q o rr q => by
    obtain ⟨v, rfl, r⟩ := REs.one rr
    have r : v = .ref d := r
    subst r
    refine ⟨rfl, fun ys p hp hs np => ?_⟩
    have e := strs_only _ ys hp hs hk
    subst e
    exact q _ _ (Xt.upd o np) (.newL o np RpAll.of_strs)⟩
end
section
variable {X : Cx} {a b c : Expr} {ω : Own} {ρ : Rho} {pos : Pos} {e1 e2 e3 : Ent}
theorem dt_chain {op op' : CmpOp} {k k' : Bool} (ho : Op2 X (compareOp op) e1 e2 (B k)) (ho' : Op2 X (compareOp op') e2 e3 (B k')) (ha : DE X ω ρ a e1 ω) (hb : DE X ω ρ b e2 ω) (hc : DE X ω ρ c e3 ω) (hm : lastMarks [op, op'] [b, c] = false := by with_unfolding_all rfl) : DT X ω ρ (.Compare a [op, op'] [b, c] pos) (k && k') ω := by
  obtain ⟨r, h1, h2⟩ := ho.ex
  obtain ⟨r', h3, h4⟩ := ho'.ex
  refine pt_w (pt_chain h1 h3 ha hb hc hm) fun σ H Q ⟨hE, q⟩ => ?_
  refine ⟨hE, fun x H1 x1 r1 => ⟨hE.xt x1, fun y H2 x2 r2 => h2 ω x y H2 _ x2.own (x2.re r1) r2 fun v H3 x3 r3 => ⟨k, r3.bool, ?_⟩⟩⟩
  cases k with
  | false => exact iteF ⟨false, rfl, q H3 ((x1.trans x2).trans x3)⟩
  | true =>
    refine iteT ⟨((hE.xt x1).xt x2).xt x3, fun z H4 x4 r4 => h4 ω y z H4 _ x4.own (x4.re (x3.re r2)) r4 fun v H5 x5 r5 => ?_⟩
    exact ⟨k', r5.bool, q H5 ((((x1.trans x2).trans x3).trans x4).trans x5)⟩
end
end ZM

set_option Elab.async false
set_option linter.all false
set_option maxRecDepth 100000
set_option maxHeartbeats 2000000
namespace ZM
open PySem PySem.Spec PyProof.Rows L2 DL CB
/-! ### texts -/
abbrev S (x : Str) : Ent := .dat (.str x)
section
variable {X : Cx}
theorem c_strI {i : Int} (h : i.natAbs.log2 < 1920) : CallD X (.type "str") [DL.I i] (S (toString i)) :=
  ⟨_, call_str_int, fun ω vs H Q o rr q => by
    obtain ⟨v, rfl, r⟩ := REs.one rr
    exact ⟨i, by rw [r.int], h, q _ H (.refl o) (Rp.str _)⟩⟩
theorem c_lenS {z : Str} (h : z.length ≤ sizeLine) : CallD X (.builtin "len") [S z] (DL.I (z.length : Nat)) :=
  ⟨_, call_len_str, fun ω vs H Q o rr q => by
    obtain ⟨v, rfl, r⟩ := REs.one rr
    exact ⟨z, by rw [r.str], h, q _ H (.refl o) (.ofInt _)⟩⟩
theorem c_intS {a : Str} {n : Int} (h : PySem.intText? a = some n) (hl : a.length ≤ 640) : CallD X (.type "int") [S a] (DL.I n) :=
  ⟨_, call_int_str, fun ω vs H Q o rr q => by
    obtain ⟨v, rfl, r⟩ := REs.one rr
    exact ⟨a, n, by rw [r.str], h, hl, q _ H (.refl o) (.ofInt _)⟩⟩
theorem o_addS {a b : Str} (h : a.length + b.length ≤ sizeLine) : Op2 X (binaryOp .Add) (S a) (S b) (S (a ++ b)) :=
  ⟨_, op_add_str, fun ω x y H Q o rx ry q => ⟨a, b, rx.str, ry.str, h, q _ H (.refl o) (Rp.str _)⟩⟩
end
section
variable {X : Cx} {a b : Expr} {ω ω1 ω2 : Own} {ρ : Rho} {apos cpos : Pos}
/-- x.join(ys) -/
theorem de_join {x : Str} {ys : List Str} (ha : DE X ω ρ a (S x) ω1) (hb : DE X ω1 ρ b (.dat (.list (ys.map .str))) ω2) (hz : (ys.map (·.length)).sum + ys.length * x.length ≤ 16777216)
    (hbase : attributeBase a "join" X.env (eval a X.env) = eval a X.env := by rfl)
    (hfew : ((backTo cpos (starEach [b] X.env)).all (fun x => !x.1) && (backToKw cpos (keywordEach [] X.env)).all (fun x => x.1.isSome)
      && decide ([b].length + ([] : List Keyword).length + (if ([] : List Keyword).isEmpty then 0 else 1) < 30)) = true := by rfl)
    (hline : (apos.endLine == cpos.line) = true := by rfl) (hs : starEach [b] X.env = (false, eval b X.env) :: starEach [] X.env := by rfl) (hplain : (backTo cpos (starEach [] X.env)).any (·.1) = false := by rfl) :
    DE X ω ρ (.Call (.Attribute a "join" apos) [b] [] cpos) (S (Txt.join x ys)) ω2 :=
  pe_w (pe_bm PySem.F.plainAttrs_str PySem.F.slot_str_join PySem.F.type_str_join mt_join ha (pa_cons hb pa_nil hs) hbase hfew hline hs hplain) fun σ H Q ⟨hE, q⟩ => ⟨hE, fun v H1 x1 r1 => by
    have e1 := r1.str
    subst e1
    refine ⟨rfl, hE.xt x1, fun v H2 x2 r2 => ?_⟩
    obtain ⟨p, xs, rfl, n, e, r⟩ := r2.lst
    have ex := RpAll.strs r
    subst ex
    exact ⟨x, p, ys, rfl, rfl, .inl (SqL.of e), hz, q _ H2 (x1.trans x2) (Rp.str _)⟩⟩
theorem de_split {x y : Str} (ha : DE X ω ρ a (S x) ω1) (hb : DE X ω1 ρ b (S y) ω2) (h0 : (y.length == 0) = false) (hz : x.length + 2 ≤ sizeLine)
    (hbase : attributeBase a "split" X.env (eval a X.env) = eval a X.env := by rfl)
    (hfew : ((backTo cpos (starEach [b] X.env)).all (fun x => !x.1) && (backToKw cpos (keywordEach [] X.env)).all (fun x => x.1.isSome)
      && decide ([b].length + ([] : List Keyword).length + (if ([] : List Keyword).isEmpty then 0 else 1) < 30)) = true := by rfl)
    (hline : (apos.endLine == cpos.line) = true := by rfl) (hs : starEach [b] X.env = (false, eval b X.env) :: starEach [] X.env := by rfl) (hplain : (backTo cpos (starEach [] X.env)).any (·.1) = false := by rfl) :
    DE X ω ρ (.Call (.Attribute a "split" apos) [b] [] cpos) (.dat (.list ((Txt.split x y).map .str))) ω2 :=
  pe_w (pe_bm PySem.F.plainAttrs_str PySem.F.slot_str_split PySem.F.type_str_split mt_split ha (pa_cons hb pa_nil hs) hbase hfew hline hs hplain) fun σ H Q ⟨hE, q⟩ => ⟨hE, fun v H1 x1 r1 => by
    have e1 := r1.str
    subst e1
    refine ⟨rfl, hE.xt x1, fun v H2 x2 r2 => ?_⟩
    have e2 := r2.str
    subst e2
    exact ⟨x, y, rfl, rfl, h0, hz, fun p np => q _ _ ((x1.trans x2).trans (Xt.upd x2.own np)) (.newL x2.own np RpAll.of_strs)⟩⟩
theorem de_removeprefix {x y : Str} (ha : DE X ω ρ a (S x) ω1) (hb : DE X ω1 ρ b (S y) ω2) (hz : x.length ≤ sizeLine)
    (hbase : attributeBase a "removeprefix" X.env (eval a X.env) = eval a X.env := by rfl)
    (hfew : ((backTo cpos (starEach [b] X.env)).all (fun x => !x.1) && (backToKw cpos (keywordEach [] X.env)).all (fun x => x.1.isSome)
      && decide ([b].length + ([] : List Keyword).length + (if ([] : List Keyword).isEmpty then 0 else 1) < 30)) = true := by rfl)
    (hline : (apos.endLine == cpos.line) = true := by rfl) (hs : starEach [b] X.env = (false, eval b X.env) :: starEach [] X.env := by rfl) (hplain : (backTo cpos (starEach [] X.env)).any (·.1) = false := by rfl) :
    DE X ω ρ (.Call (.Attribute a "removeprefix" apos) [b] [] cpos) (S (Txt.removeprefix x y)) ω2 :=
  pe_w (pe_bm PySem.F.plainAttrs_str PySem.F.slot_str_removeprefix PySem.F.type_str_removeprefix mt_removeprefix ha (pa_cons hb pa_nil hs) hbase hfew hline hs hplain) fun σ H Q ⟨hE, q⟩ => ⟨hE, fun v H1 x1 r1 => by
    have e1 := r1.str
    subst e1
    refine ⟨rfl, hE.xt x1, fun v H2 x2 r2 => ?_⟩
    have e2 := r2.str
    subst e2
    exact ⟨x, y, rfl, rfl, hz, q _ H2 (x1.trans x2) (Rp.str _)⟩⟩
theorem de_isascii {x : Str} (ha : DE X ω ρ a (S x) ω1) (hbase : attributeBase a "isascii" X.env (eval a X.env) = eval a X.env := by rfl) (hline : (apos.endLine == cpos.line) = true := by rfl) : DE X ω ρ (.Call (.Attribute a "isascii" apos) [] [] cpos) (B (Txt.isascii x)) ω1 :=
  pe_w (pe_bm0 PySem.F.plainAttrs_str PySem.F.slot_str_isascii PySem.F.type_str_isascii mt_isascii ha hbase hline) fun σ H Q ⟨hE, q⟩ => ⟨hE, fun v H1 x1 r1 => by
    have e1 := r1.str
    subst e1
    exact ⟨rfl, x, rfl, rfl, trivial, q _ H1 x1 (.ofBool _)⟩⟩
theorem de_isdigit {x : Str} (ha : DE X ω ρ a (S x) ω1) (hbase : attributeBase a "isdigit" X.env (eval a X.env) = eval a X.env := by rfl) (hline : (apos.endLine == cpos.line) = true := by rfl) : DE X ω ρ (.Call (.Attribute a "isdigit" apos) [] [] cpos) (B (Txt.isdigit x)) ω1 :=
  pe_w (pe_bm0 PySem.F.plainAttrs_str PySem.F.slot_str_isdigit PySem.F.type_str_isdigit mt_isdigit ha hbase hline) fun σ H Q ⟨hE, q⟩ => ⟨hE, fun v H1 x1 r1 => by
    have e1 := r1.str
    subst e1
    exact ⟨rfl, x, rfl, rfl, trivial, q _ H1 x1 (.ofBool _)⟩⟩
end
end ZM

set_option Elab.async false
set_option linter.all false
set_option maxRecDepth 100000
set_option maxHeartbeats 2000000
namespace ZM
open PySem PySem.Spec PyProof.Rows L2 DL CB
/-! ### defs that may raise an error without fields -/
def xsp (R : List Ent → Own → Ent → Own → Prop) (RX : List Ent → Own → Addr → Own → Prop) : Sp := fun vs H Q E =>
  (∃ es ω e ω', R es ω e ω' ∧ OwnOk ω H ∧ REs (dom ω) H es vs ∧ ∀ v H', Keep (dom ω) H H' → OwnOk ω' H' → RE (dom ω') H' e v → Q v H') ∨
  ∃ es ω C ω', RX es ω C ω' ∧ OwnOk ω H ∧ REs (dom ω) H es vs ∧ ∀ H', Keep (dom ω) H H' → OwnOk ω' H' → E (.ref C) none H'
structure DFx (P : Program) (w : World) (K : PySem.W.Frag) (mg : Str → Option Value) (base : Heap) (k : Nat) (x : Str) (R : List Ent → Own → Ent → Own → Prop) (RX : List Ent → Own → Addr → Own → Prop) : Prop where
  ex : ∃ (f : Addr) (fd : FuncData) (ps : List Str), FnOk P w K mg base (L2.CX P w) k f fd ps (xsp R RX) ∧ mg x = some (.ref f) ∧ PySem.W.keepIn K (.ref f) = true ∧ Binds K fd ps []
/-- a class of errors, as the module has it -/
structure XC (K : PySem.W.Frag) (mg : Str → Option Value) (x : Str) (C : Addr) : Prop where
  g : mg x = some (.ref C)
  x : PySem.W.excIn K C [.type "ValueError", .type "Exception", .type "BaseException", .type "object"] "ValueError.__new__" = true
  k : PySem.W.keepIn K (.ref C) = true
  b : PySem.W.subIn K (.ref C) (.type "BaseException") = some true
  t : PySem.W.typeIn K (.ref C) = some (.type "type")
theorem passF {X : Cx} : Passes (L2.CX X.prog X.w) X (fun _ _ _ => False) := fun _ _ _ _ _ _ _ c => by
  obtain ⟨_, _, _, _, _, _, _, _, _, _, _, _, z⟩ := c
  exact z.elim
abbrev WE0 (E : XK) : WX := fun cls d _ H => E cls d H
def tDX (E : XK) (ω : Own) (ρ : Rho) (C : Addr) (ω' : Own) : TE := fun σ H _ => EOk ω ρ σ H ∧ ∀ H', Keep (dom ω) H H' → OwnOk ω' H' → E (.ref C) none H'
def tBX (E : XK) (ω : Own) (ρ : Rho) (C : Addr) (ω' : Own) : TS := fun _ σ H => EOk ω ρ σ H ∧ ∀ H', Keep (dom ω) H H' → OwnOk ω' H' → E (.ref C) none H'
section
variable {X : Cx} {a b c : Expr} {es : List Expr} {ω ω1 ω2 : Own} {ρ ρ1 : Rho} {pos p2 : Pos} {e : Ent} {rs : List Ent} {k : Nat} {R : List Ent → Own → Ent → Own → Prop} {RX : List Ent → Own → Addr → Own → Prop} {E : XK} {C : Addr} {s : Stmt} {ss body els : List Stmt}
/-- such a def, called where it raises nothing -/
theorem de_callX {x : Str} (F : DFx X.prog X.w X.K X.mg X.base k x R RX) (hr : Room k X.A) (ha : DA X ω ρ (a :: es) rs ω1) (hR : R rs ω1 e ω2) (hd : dom ω2 = dom ω1 := by rfl) (hg : Gl X x := by rfl) (hdb : (x == ("__debug__" : Str)) = false := by decide)
    (he : starEach (a :: es) X.env = (false, eval a X.env) :: starEach es X.env := by rfl) (hpl : (backTo pos (starEach es X.env)).any (·.1) = false := by rfl) : DE X ω ρ (.Call (.Name x p2) (a :: es) [] pos) e ω2 := by
  obtain ⟨f, fd, ps, F, hm, hk, hb⟩ := F.ex
  refine pe_w (pe_call (E := fun _ _ _ => False) F hr hg hm hk hb .nil passF ha hdb he hpl) fun σ H Q ⟨hE, q⟩ => ⟨hE, fun vs H1 x1 r1 => ?_⟩
  show xsp R RX (vs ++ []) H1 Q _
  rw [List.append_nil]
  exact .inl ⟨rs, ω1, e, ω2, hR, x1.own, r1, fun v H2 k2 o2 r2 => q v H2 (x1.trans ⟨hd, o2, k2⟩) r2⟩
/-- called where it raises -/
theorem dex_call {x : Str} (F : DFx X.prog X.w X.K X.mg X.base k x R RX) (tk : Takes X (WE0 E)) (hr : Room k X.A) (ha : DA X ω ρ (a :: es) rs ω1) (hR : RX rs ω1 C ω2) (hg : Gl X x := by rfl) (hdb : (x == ("__debug__" : Str)) = false := by decide)
    (he : starEach (a :: es) X.env = (false, eval a X.env) :: starEach es X.env := by rfl) (hpl : (backTo pos (starEach es X.env)).any (·.1) = false := by rfl) : PE X (.Call (.Name x p2) (a :: es) [] pos) (tDX E ω ρ C ω2) := by
  obtain ⟨f, fd, ps, F, hm, hk, hb⟩ := F.ex
  refine pe_w (pe_callS (E := WE (WE0 E)) F hr hg hm hk hb (fun σ => passAt tk σ) ha hdb he hpl) fun σ H Q ⟨hE, q⟩ => ⟨hE, fun vs H1 x1 r1 => ?_⟩
  exact .inr ⟨rs, ω1, C, ω2, hR, x1.own, r1, fun H2 k2 o2 => q H2 (x1.keep.trans (by have := k2; rw [x1.dm] at this; exact this)) o2⟩
theorem drx_cons (h : DN X ω ρ s ω1 ρ1) (h2 : PSs X ss (tBX E ω1 ρ1 C ω2)) : PSs X (s :: ss) (tBX E ω ρ C ω2) :=
  pss_w (pss_cons h h2) fun D σ H ⟨hE, q⟩ => ⟨hE, fun σ' H1 x1 E1 => ⟨E1, fun H2 k2 o2 => q H2 (x1.keep.trans (by have := k2; rw [x1.dm] at this; exact this)) o2⟩⟩
theorem drx_expr (h : PE X a (tDX E ω ρ C ω1)) (hs : swapsWith a none pos.line X.env = pure false := by rfl) : PSs X (.Expr a pos :: ss) (tBX E ω ρ C ω1) :=
  pss_w (pss_cons (ps_expr h hs) (pss_never (sts := ss))) fun D σ H hq => hq
theorem drx_ifT (h : DT X ω ρ c true ω1) (h1 : PSs X body (tBX E ω1 ρ C ω2)) : PSs X (.If c body els pos :: ss) (tBX E ω ρ C ω2) :=
  pss_w (pss_cons (ps_if h h1 pss_never) (pss_never (sts := ss))) fun D σ H ⟨hE, q⟩ => ⟨hE, fun H1 x1 => iteT ⟨hE.xt x1, fun H2 k2 o2 => q H2 (x1.keep.trans (by have := k2; rw [x1.dm] at this; exact this)) o2⟩⟩
theorem drx_ifF (h : DT X ω ρ c false ω1) (h1 : PSs X ss (tBX E ω1 ρ C ω2)) : PSs X (.If c body [] pos :: ss) (tBX E ω ρ C ω2) := drx_cons (dn_ifF h) h1
theorem drx_raise {x m : Str} {j : Nat} {p3 p4 : Pos} (hc : X.calm = true) (tk : Takes X (WE0 E)) (xc : XC X.K X.mg x C) (hg : Gl X x := by rfl) (hdb : (x == ("__debug__" : Str)) = false := by decide) :
    PSs X (.Raise (some (.Call (.Name x p2) [.Constant (.str m) j p3] [] pos)) none p4 :: ss) (tBX E ω ρ C ω) :=
  pss_w (pss_cons (ps_raise hc tk (pmk_own PySem.F.excBase_ValueError xc.x xc.g xc.k (raises_own xc.b xc.t) hg hdb)) (pss_never (sts := ss))) fun D σ H ⟨hE, q⟩ => q H .refl hE.own
end
abbrev CxX (P : Program) (w : World) (K : PySem.W.Frag) (mg : Str → Option Value) (base : Heap) (N : List Str) (qual : Str) (st : Stmt) (f : Addr) (cdv : Value) (A : Around) (outer : List Env) (s : Shared) (H : Hp) (E : XK) : Cx := cxOf (L2.CX P w) P w K mg base N qual (defScope st) f cdv A outer s H E
section
variable {P : Program} {w : World} {K : PySem.W.Frag} {mg : Str → Option Value} {base : Heap} {x qual : Str} {st : Stmt} {f : Addr} {fd : FuncData} {N ps : List Str} {k : Nat} {R : List Ent → Own → Ent → Own → Prop} {RX : List Ent → Own → Addr → Own → Prop}
theorem dfx_ret (F : Fun K x qual st f fd) (hm : mg x = some (.ref f)) (hb : Binds K fd ps []) (S : FnScope N ps (defScope st)) (len : ∀ es ω e ω', R es ω e ω' → es.length = ps.length) (lenX : ∀ es ω C ω', RX es ω C ω' → es.length = ps.length)
    (body : ∀ (cdv : Value) (A : Around) (outer : List Env) (s : Shared) (H : Hp) (E : XK), Room k (CxX P w K mg base N qual st f cdv A outer s H E).A → ∀ es ω e ω', R es ω e ω' → DR (CxX P w K mg base N qual st f cdv A outer s H E) ω (rho0 N es) (defBody st) e ω')
    (bodyX : ∀ (cdv : Value) (A : Around) (outer : List Env) (s : Shared) (H : Hp) (E : XK), Room k (CxX P w K mg base N qual st f cdv A outer s H E).A → Takes (CxX P w K mg base N qual st f cdv A outer s H E) (WE0 E) → ∀ es ω C ω', RX es ω C ω' → PSs (CxX P w K mg base N qual st f cdv A outer s H E) (defBody st) (tBX E ω (rho0 N es) C ω')) : DFx P w K mg base (k + 1) x R RX := by
  refine ⟨f, fd, ps, F.okX S (fun vs H Q E h => ?_) (fun cdv A outer s H vs Q E hr h => ?_), hm, F.kp, hb⟩
  · rcases h with ⟨es, ω, e, ω', r, o, rs, q⟩ | ⟨es, ω, C, ω', r, o, rs, q⟩
    · exact rs.length.symm.trans (len _ _ _ _ r)
    · exact rs.length.symm.trans (lenX _ _ _ _ r)
  · rcases h with ⟨es, ω, e, ω', r, o, rs, q⟩ | ⟨es, ω, C, ω', r, o, rs, q⟩
    · exact ⟨_, body cdv A outer s H E hr es ω e ω' r, EOk_start o rs, q⟩
    · exact ⟨_, bodyX cdv A outer s H E hr (takes_of rfl rfl rfl rfl) es ω C ω' r, EOk_start o rs, q⟩
theorem dfx_none (F : Fun K x qual st f fd) (hm : mg x = some (.ref f)) (hb : Binds K fd ps []) (S : FnScope N ps (defScope st)) (len : ∀ es ω e ω', R es ω e ω' → es.length = ps.length) (lenX : ∀ es ω C ω', RX es ω C ω' → es.length = ps.length) (hn : ∀ es ω e ω', R es ω e ω' → e = .dat .none)
    (body : ∀ (cdv : Value) (A : Around) (outer : List Env) (s : Shared) (H : Hp) (E : XK), Room k (CxX P w K mg base N qual st f cdv A outer s H E).A → ∀ es ω e ω', R es ω e ω' → ∃ ρ', DNs (CxX P w K mg base N qual st f cdv A outer s H E) ω (rho0 N es) (defBody st) ω' ρ')
    (bodyX : ∀ (cdv : Value) (A : Around) (outer : List Env) (s : Shared) (H : Hp) (E : XK), Room k (CxX P w K mg base N qual st f cdv A outer s H E).A → Takes (CxX P w K mg base N qual st f cdv A outer s H E) (WE0 E) → ∀ es ω C ω', RX es ω C ω' → PSs (CxX P w K mg base N qual st f cdv A outer s H E) (defBody st) (tBX E ω (rho0 N es) C ω')) : DFx P w K mg base (k + 1) x R RX := by
  refine ⟨f, fd, ps, F.okX S (fun vs H Q E h => ?_) (fun cdv A outer s H vs Q E hr h => ?_), hm, F.kp, hb⟩
  · rcases h with ⟨es, ω, e, ω', r, o, rs, q⟩ | ⟨es, ω, C, ω', r, o, rs, q⟩
    · exact rs.length.symm.trans (len _ _ _ _ r)
    · exact rs.length.symm.trans (lenX _ _ _ _ r)
  · rcases h with ⟨es, ω, e, ω', r, o, rs, q⟩ | ⟨es, ω, C, ω', r, o, rs, q⟩
    · obtain ⟨ρ', hb⟩ := body cdv A outer s H E hr es ω e ω' r
      have en := hn _ _ _ _ r
      subst en
      exact ⟨_, hb, EOk_start o rs, fun σ' H' x' E' => q .non H' x'.keep x'.own Rp.non⟩
    · exact ⟨_, bodyX cdv A outer s H E hr (takes_of rfl rfl rfl rfl) es ω C ω' r, EOk_start o rs, q⟩
end
end ZM

set_option Elab.async false
set_option linter.all false
set_option maxRecDepth 100000
set_option maxHeartbeats 2000000
namespace ZM
open PySem PySem.Spec PyProof.Rows L2 DL CB
/-! ### a lambda, handed to a def that catches what it raises -/
theorem own_kind {ω : Own} {H : Hp} (o : OwnOk ω H) {a : Addr} (ha : a ∈ dom ω) : (∃ xs, H a = some (.lst xs)) ∨ (∃ kvs, H a = some (.dT kvs)) ∨ (∃ C dx vs, H a = some (.ins C dx vs)) ∨ ∃ kvs, H a = some (.dK kvs) := by
  obtain ⟨p, hp, e⟩ := List.mem_map.mp ha
  subst e
  have h := o.at_ p hp
  obtain ⟨b, c⟩ := p
  cases c with
  | lst ds => obtain ⟨xs, e, _⟩ := h; exact .inl ⟨xs, e⟩
  | dct kvs => exact .inr (.inl ⟨_, h⟩)
  | obj C dx fs => obtain ⟨vs, e, _⟩ := h; exact .inr (.inr (.inl ⟨_, _, _, e⟩))
  | dk kvs => exact .inr (.inr (.inr ⟨_, h⟩))
  | row KK scr ns k s r => exact .inl ⟨_, h.1⟩
theorem tabs_keep {T : List (Addr × Str)} {ω : Own} {H H' : Hp} (t : LamX.Tabs T H) (o : OwnOk ω H) (k : Keep (dom ω) H H') : LamX.Tabs T H' := fun p hp => by
  obtain ⟨ps, h1, h2, h3⟩ := t p hp
  refine ⟨ps, k _ _ (fun z => ?_) h1, h2, fun pos cv hc => ?_⟩
  · rcases own_kind o z with ⟨xs, e⟩ | ⟨kvs, e⟩ | ⟨_, _, _, e⟩ | ⟨kvs, e⟩ <;> (rw [e] at h1; cases h1)
  · obtain ⟨c, e1, e2⟩ := h3 pos cv hc
    refine ⟨c, e1, k _ _ (fun z => ?_) e2⟩
    unfold LamX.CodeO at e2
    rcases own_kind o z with ⟨xs, e⟩ | ⟨kvs, e⟩ | ⟨_, _, _, e⟩ | ⟨kvs, e⟩ <;> (rw [e] at e2; cases e2)
section
variable {ω : Own} {ρ : Rho} {σ : L2.St} {H H' : Hp}
theorem extN_seqs {O : List Addr} (x : LamX.ExtN H H') : Seqs (hide O H) (hide O H') := by
  constructor
  · intro b xs h
    obtain ⟨h1, h2⟩ := hide_some h
    rw [hide_out h1]
    exact x _ _ h2 fun _ z => nomatch z
  · intro b xs h
    obtain ⟨h1, h2⟩ := hide_some h
    rw [hide_out h1]
    exact x _ _ h2 fun _ z => nomatch z
theorem rd_extN {a : Addr} {u : HO} (x : LamX.ExtN H H') (r : Rd H a u) (h : ∀ ps, u ≠ .tbl ps) : Rd H' a u := by
  rcases r with r | ⟨o, r⟩
  · exact .inl (x _ _ r h)
  · exact .inr ⟨o, x _ _ r fun _ z => nomatch z⟩
theorem RE.extN {O : List Addr} (x : LamX.ExtN H H') {e : Ent} {v : V} (r : RE O H e v) : RE O H' e v := by
  cases e with
  | dat d => exact Rp.seqs (extN_seqs x) d v r
  | dct kvs => obtain ⟨a, e, n, q⟩ := r; exact ⟨a, e, n, rd_extN x q (fun _ z => nomatch z)⟩
  | dctA a kvs => obtain ⟨e, n, o, q⟩ := r; exact ⟨e, n, o, x _ _ q (fun _ z => nomatch z)⟩
  | raw w => exact r
theorem OwnOk.extN (o : OwnOk ω H) (x : LamX.ExtN H H') : OwnOk ω H' := by
  refine ⟨o.nd, fun p hp => ?_⟩
  have h := o.at_ p hp
  obtain ⟨a, c⟩ := p
  cases c with
  | lst ds => obtain ⟨xs, e, r⟩ := h; exact ⟨xs, x _ _ e (fun _ z => nomatch z), RpAll.seqs (extN_seqs x) _ _ r⟩
  | dct kvs => exact x _ _ h fun _ z => nomatch z
  | row KK scr ns kk ss rr =>
    obtain ⟨e, q, l⟩ := h
    exact ⟨x _ _ e (fun _ z => nomatch z), q.to fun n r => ⟨n, rd_extN x r (fun _ z => nomatch z)⟩, l⟩
  | obj C dx fs => obtain ⟨vs, e, r⟩ := h; exact ⟨vs, x _ _ e (fun _ z => nomatch z), r.map fun _ _ q => RE.extN x q⟩
  | dk kvs => exact x _ _ h fun _ z => nomatch z
theorem EOk.extN (E : EOk ω ρ σ H) (x : LamX.ExtN H H') : EOk ω ρ σ H' := ⟨OwnOk.extN E.own x, E.len, fun i e h => let ⟨v, h1, h2⟩ := E.val i e h; ⟨v, h1, RE.extN x h2⟩⟩
theorem EOk.keep0 (E : EOk ω ρ σ H) (k : Keep [] H H') : EOk ω ρ σ H' :=
  E.xt ⟨rfl, E.own.keep (fun b o _ h => k b o (fun z => nomatch z) h) (fun a ha => by
    obtain ⟨o, e⟩ := E.own.some ha
    rw [e, k a o (fun z => nomatch z) e]), fun b o _ h => k b o (fun z => nomatch z) h⟩
end
/-- try: a() .. except x as n: return suiteE -/
def TTw (CS C : Addr) (word : Str) : (XK → Hp → VK → Prop) → Hp → VK → Prop := fun tl H Q =>
  ∀ Q', tl (fun cls d H' => cls = .ref C ∧ d = none ∧ ∀ H2, Keep [] H' H2 → Q (.str word) H2) H Q'
theorem told_word {X : Cx} {Ng : List Str} {x a ex n q word : Str} {sg : Scope} {g CS C : Addr} {cdg : Value} {p1 p2 p3 p4 p6 p7 p8 : Pos} {suiteE : Expr} {rest : List Stmt} (nd : Ng.Nodup) (hN1 : Ng[1]? = some n) (hge : sg.names.lookup ex = some .globalImplicit) (hme : X.mg ex = some (.ref CS)) (hde : (ex == ("__debug__" : Str)) = false)
    (hln : ∀ (s : Shared) (H : Hp), (cxOf C8.CX0 X.prog X.w X.K X.mg X.base Ng x sg g cdg X.A X.stack s H C8.E0).env.kindOf n = some .local)
    (h0 : ∀ f : Addr, (L2.start Ng [V.ref f])[0]? = some (some (V.ref f))) (hex : PySem.W.exmOne X.K (.ref C) (.ref CS) = some true)
    (hsu : ∀ (s : Shared) (H : Hp) (a : Addr) (oe : Obj) (pn : List (Addr × Obj)), Zc (.ref C) none oe → (∃ vs, oe.data = .fields vs) →
      DE ((cxOf C8.CX0 X.prog X.w X.K X.mg X.base Ng x sg g cdg X.A X.stack s H C8.E0).nox.suite a ((a, oe) :: pn)) [] ((List.replicate Ng.length none).set 1 (some (.raw (.ref a)))) suiteE (S word) []) :
    LamX.GivesTo X Ng x sg g cdg (.Try [.Expr (.Call (.Name a p1) [] [] p2) p3] [.ExceptHandler (some (.Name ex p4)) (some n) [.Return (some suiteE) p6] p7] [] [] p8 :: rest) a q (TTw CS C word) := by
  intro f c' s H Q tl act hc h
  have hgl : Gl (cxOf C8.CX0 X.prog X.w X.K X.mg X.base Ng x sg g cdg X.A X.stack s H C8.E0).nox ex := hge
  refine ⟨_, pss_cons (ps_try_as (X := (cxOf C8.CX0 X.prog X.w X.K X.mg X.base Ng x sg g cdg X.A X.stack s H C8.E0).nox) (c := .ref CS) (i := 1)
      (tb := fun W D σ H => ∃ Ech : XK, (∀ cls d σ' H', Ech cls d H' → W cls d σ' H') ∧ σ[0]? = some (some (.ref f)) ∧ H c' = some (LamX.CodeO c' q) ∧ ∀ Q', tl Ech H Q')
      (ts := fun a cls d D σ H => cls = .ref C ∧ d = none ∧ (1 < σ.length → σ[1]? = some (some (.ref a))) ∧ ∀ H2, Keep [] H H2 → D.rt (.str word) H2)
      rfl rfl nd hN1 (hln s H) ⟨hgl, hde, .inl hme⟩ LamX.takes0 (fun W pn xe tk _ => ?_) (fun a oe cls d pn hz hf => ?_)) pss_never, ?_⟩
  · refine ⟨fun pins s' σ H' D I h' => ?_⟩
    obtain ⟨Ech, hW, h1, h2, h3⟩ := h'
    have hp := act W pn xe Ech p1 p2 tk hW
    have hq := pss_one (ps_expr (pos := p3) hp)
    exact hq.run pins s' σ H' D I ⟨h1, h2, h3 _⟩
  · refine ⟨fun pins s' σ H' D I h' => ?_⟩
    obtain ⟨e1, e2, h1, h2⟩ := h'
    subst e1 e2
    have hl : σ.length = Ng.length := I.len
    have hlt : 1 < Ng.length := (List.getElem?_eq_some_iff.mp hN1).1
    have hq := pss_one (ps_ret (pos := p6) (hsu s H a oe pn hz hf))
    refine hq.run pins s' σ H' D I ⟨⟨⟨.nil, fun p hp => nomatch hp⟩, by rw [List.length_set, List.length_replicate, hl], fun i e hi => ?_⟩, fun v H2 x2 r2 => ?_⟩
    · by_cases z : i = 1
      · subst z
        rw [List.getElem?_set_self (by rw [List.length_replicate]; exact hlt)] at hi
        cases hi
        exact ⟨_, h1 (by omega), rfl⟩
      · rw [List.getElem?_set_ne (by omega)] at hi
        rw [List.getElem?_replicate] at hi
        split at hi <;> cases hi
    · have ev : v = .str word := RE.str r2
      subst ev
      exact h2 H2 x2.keep
  · refine ⟨fun cls d H' => cls = .ref C ∧ d = none ∧ ∀ H2, Keep [] H' H2 → Q (.str word) H2, fun cls d σ' H' ⟨e1, e2, e3⟩ => ⟨true, by rw [e1]; exact hex, fun _ a ha => ⟨e1, e2, fun hl => ?_, e3⟩, fun z => nomatch z⟩, h0 f, hc, h⟩
    rw [List.length_set] at hl
    exact List.getElem?_set_self hl
/-- isinstance of what is caught -/
theorem c_isE {X : Cx} {a C D : Addr} {oe : Obj} {pn : List (Addr × Obj)} {b : Bool} (xc : ExcC X.K C) (hz : Zc (.ref C) none oe) (hf : ∃ vs, oe.data = .fields vs) (h : PySem.W.kitOne X.K (.ref C) (.ref D) = some b) : CallD (X.suite a ((a, oe) :: pn)) (.builtin "isinstance") [.raw (.ref a), .raw (.ref D)] (B b) :=
  ⟨_, call_isE xc hz hf, fun ω vs H Q o rr q => by
    obtain ⟨v, w, rfl, r1, r2⟩ := REs.two rr
    have r1 : v = .ref a := r1
    have r2 : w = .ref D := r2
    subst r1 r2
    exact ⟨.ref D, .ref D, b, rfl, fun u hu => hu, h, q _ H (.refl o) (.ofBool _)⟩⟩
/-! ### such a call in the law -/
def tTl (T : List (Addr × Str)) (ω : Own) (ρ : Rho) (word : Str) (ω' : Own) : TE := fun σ H Q => EOk ω ρ σ H ∧ LamX.Tabs T H ∧ ∀ H', EOk ω' ρ σ H' → LamX.Tabs T H' → Q (.str word) H'
/-- the def that catches, as the head has it -/
structure ToldD (P : Program) (w : World) (K : PySem.W.Frag) (mg : Str → Option Value) (x a : Str) (Ng : List Str) (pg : Arguments) (bg : List Stmt) (sg : Scope) (g : Addr) (cdg : Value) : Prop where
  m : mg x = some (.ref g)
  k : PySem.W.keepIn K (.ref g) = true
  ex : ∃ (oc dV kV doc pm ct : Value) (an od : Option Addr) (osl : Array (Option Value)), K.lookup g = some ⟨oc, od, .func (PySem.W.fnOf x x pg bg sg dV kV doc pm an cdg ct), osl⟩ ∧ L2.Binds K (PySem.W.fnOf x x pg bg sg dV kV doc pm an cdg ct) [a] []
  c : PySem.W.codeIn K cdg x = true
  S : FnScope Ng [a] sg
  n0 : Ng[0]? = some a
  v : Vis sg a
section
variable {X : Cx} {ω ω1 : Own} {ρ : Rho}
theorem pe_told {T : List (Addr × Str)} {x a word : Str} {Ng : List Str} {pg : Arguments} {bg : List Stmt} {sg : Scope} {g CS C c P : Addr} {cdg : Value} {k : Nat} {params : Arguments} {body : Expr} {scope : Scope} {p lpos pos : Pos}
    (D : ToldD X.prog X.w X.K X.mg x a Ng pg bg sg g cdg) (hG : LamX.GivesTo X Ng x sg g cdg bg a (X.env.qual ++ "<lambda>") (TTw CS C word)) (TB : LamX.TabB X.base X.mg c P) (hcode : X.env.code = .ref c) (hmT : (P, X.env.qual ++ "<lambda>") ∈ T) (hu : ∀ p ∈ T, p.1 = P → p.2 = X.env.qual ++ "<lambda>") (hr : Room (k + 2) X.A)
    (hbody : ∀ (A : Around) (outer : List Env) (s : Shared) (H : Hp) (E : XK) (f c' : Addr), Room k (A.deeper (LamX.lamEnv X scope s.heap.objs.size f c')) → PE (LamX.lamCx X A outer s H E scope f c') body (tDX E ω ρ C ω1)) (hd : dom ω1 = dom ω)
    (hg : Gl X x := by rfl) (L : LamX.LamS X.env.scope scope := by exact LamX.lamS_by (by decide +kernel)) (hdef : defaultsOf params X.env = ([], []) := by rfl)
    (hbind : ∀ (q : Str) (cl : List (Str × Addr)) (pm cv ctv : Value), bindArgs (PySem.W.kla_fn "<lambda>" q params body scope cl pm cv ctv) ⟨[], []⟩ = pure [] := by intros; rfl)
    (hdb : (x == ("__debug__" : Str)) = false := by decide) (hd1 : (a == ("__debug__" : Str)) = false := by decide) (hcd : (a == ("__classdict__" : Str)) = false := by decide) :
    PE X (.Call (.Name x p) [.Lambda params body scope lpos] [] pos) (tTl T ω ρ word ω1) := by
  obtain ⟨oc, dV, kV, doc, pm, ct, an, od, osl, lk, hb⟩ := D.ex
  refine pe_w (LamX.pe_lamcall (T := T) (TT := TTw CS C word) (t := fun E => tDX E ω ρ C ω1) hg D.m D.k lk D.c hb D.S D.n0 D.v hG TB hcode hmT hu hr L hdef hbind hbody hdb hd1 hcd) fun σ H Q ⟨hE, hT, q⟩ => ⟨hT, fun H1 eN T1 Q' => ⟨EOk.extN hE eN, fun H' kk oo => ⟨rfl, rfl, fun H2 k2 => ?_⟩⟩⟩
  have E1 := EOk.extN hE eN
  have E2 : EOk ω1 ρ σ H' := E1.xt ⟨hd, oo, kk⟩
  exact q H2 (EOk.keep0 E2 k2) (tabs_keep (tabs_keep T1 E1.own kk) (ω := []) ⟨.nil, fun p hp => nomatch hp⟩ k2)
end
end ZM

set_option Elab.async false
set_option linter.all false
set_option maxRecDepth 100000
set_option maxHeartbeats 2000000
namespace ZM
open PySem PySem.Spec PyProof.Rows L2 DL CB
/-! ### the law's own block, with lambdas in it: it returns True -/
def tDF (T : List (Addr × Str)) (ω : Own) (ρ : Rho) : TS := fun D σ H => EOk ω ρ σ H ∧ LamX.Tabs T H ∧ ∀ H', D.rt (.bl true) H'
theorem o_neS {X : Cx} {x y : Str} : Op2 X (compareOp .NotEq) (S x) (S y) (B (!decide (x = y))) :=
  ⟨_, op_ne, fun ω v w H Q o rx ry q => by
    cases rx.str
    cases ry.str
    refine ⟨rfl, q _ H (.refl o) ?_⟩
    rw [show decide (V.str x = V.str y) = decide (x = y) from by by_cases h : x = y <;> simp [h]]
    exact .ofBool _⟩
theorem o_neSF {X : Cx} {x y : Str} (h : x = y) : Op2 X (compareOp .NotEq) (S x) (S y) (B false) := by
  have q := o_neS (X := X) (x := x) (y := y)
  rw [decide_eq_true h] at q
  exact q
theorem o_eqS {X : Cx} {x y : Str} : Op2 X (compareOp .Eq) (S x) (S y) (B (decide (x = y))) :=
  ⟨_, op_eq, fun ω v w H Q o rx ry q => by
    cases rx.str
    cases ry.str
    refine ⟨rfl, q _ H (.refl o) ?_⟩
    rw [show decide (V.str x = V.str y) = decide (x = y) from by by_cases h : x = y <;> simp [h]]
    exact .ofBool _⟩
section
variable {X : Cx} {a b c : Expr} {ω ω1 : Own} {ρ ρ1 : Rho} {T : List (Addr × Str)} {s : Stmt} {ss body : List Stmt} {pos p2 p3 : Pos} {word : Str}
theorem df_cons (h : DN X ω ρ s ω1 ρ1) (h2 : PSs X ss (tDF T ω1 ρ1)) : PSs X (s :: ss) (tDF T ω ρ) :=
  pss_w (pss_cons h h2) fun D σ H ⟨hE, hT, q⟩ => ⟨hE, fun σ' H1 x1 E1 => ⟨E1, tabs_keep hT hE.own x1.keep, q⟩⟩
theorem df_ifF (h : DT X ω ρ c false ω1) (h2 : PSs X ss (tDF T ω1 ρ)) : PSs X (.If c body [] pos :: ss) (tDF T ω ρ) := df_cons (dn_ifF h) h2
theorem df_ret (h : DE X ω ρ a (B true) ω1) : PSs X [.Return (some a) pos] (tDF T ω ρ) :=
  pss_w (dr_ret (pos := pos) h) fun D σ H ⟨hE, hT, q⟩ => ⟨hE, fun v H' kk oo rr => by
    have ev : v = .bl true := RE.bool rr
    rw [ev]
    exact q H'⟩
/-- if told(lambda: ..) != 'word': .. -/
theorem df_told {j : Nat} (h : PE X a (tTl T ω ρ word ω1)) (h2 : PSs X ss (tDF T ω1 ρ)) (hm : behindInMarks .NotEq (.Constant (.str word) j p2) = false := by first | exact nomark _ | with_unfolding_all rfl) :
    PSs X (.If (.Compare a [.NotEq] [.Constant (.str word) j p2] p3) body [] pos :: ss) (tDF T ω ρ) := by
  obtain ⟨r, h1, h3⟩ := (o_neSF (X := X) (x := word) rfl).ex
  refine pss_w (pss_cons (ps_if (pt_cmpR h1 h (de_str (ω := ω1) (ρ := ρ) (x := word) (j := j) (pos := p2)) hm) pss_never pss_nil) h2) fun D σ H ⟨hE, hT, q⟩ => ⟨hE, hT, fun H1 E1 T1 => ⟨E1, fun v H2 x2 r2 => ?_⟩⟩
  refine h3 ω1 (.str word) v H2 _ x2.own (Rp.str _) r2 fun v3 H3 x3 r3 => ⟨false, RE.bool r3, iteF ?_⟩
  have E3 := (E1.xt x2).xt x3
  exact ⟨E3, tabs_keep (tabs_keep T1 E1.own x2.keep) x2.own x3.keep, q⟩
/-- return told(lambda: ..) == 'word' -/
theorem df_toldR {j : Nat} (h : PE X a (tTl T ω ρ word ω1)) (hm : behindInMarks .Eq (.Constant (.str word) j p2) = false := by first | exact nomark _ | with_unfolding_all rfl) :
    PSs X [.Return (some (.Compare a [.Eq] [.Constant (.str word) j p2] p3)) pos] (tDF T ω ρ) := by
  obtain ⟨r, h1, h3⟩ := (o_eqS (X := X) (x := word) (y := word)).ex
  refine pss_w (pss_one (ps_ret (pe_cmpR h1 h (de_str (ω := ω1) (ρ := ρ) (x := word) (j := j) (pos := p2)) hm))) fun D σ H ⟨hE, hT, q⟩ => ⟨hE, hT, fun H1 E1 T1 => ⟨E1, fun v H2 x2 r2 => ?_⟩⟩
  refine h3 ω1 (.str word) v H2 _ x2.own (Rp.str _) r2 fun v3 H3 x3 r3 => ?_
  have ev : v3 = .bl (decide (word = word)) := RE.bool r3
  rw [ev, decide_eq_true rfl]
  exact q H3
end
theorem REs.cons {O : List Addr} {H : Hp} {e : Ent} {es : List Ent} {vs : List V} (h : REs O H (e :: es) vs) : ∃ v us, vs = v :: us ∧ RE O H e v ∧ REs O H es us := by
  cases h with
  | cons a t => exact ⟨_, _, rfl, a, t⟩
theorem REs.nil {O : List Addr} {H : Hp} {vs : List V} (h : REs O H [] vs) : vs = [] := by
  cases h
  rfl
/-- row = [script, 0, seed, 0] -/
theorem df_first {X : Cx} {ρ : Rho} {x : Str} (i : Nat) {a : Addr} {ns : List Int} {seed : Int} {T : List (Addr × Str)} {es : List Expr} {rest : List Stmt} {p2 p3 pos : Pos} (hN : X.N.Nodup) (hd : DA X [] ρ es [.raw (.ref a), DL.I 0, DL.I seed, DL.I 0] [])
    (h : ∀ p, PSs X rest (tDF T [(p, OC.row X.K a ns 0 seed 0)] (ρ.set i (some (.own p))))) (hi : X.N[i]? = some x := by rfl) (hx : Loc X.env.scope x := by first | exact Or.inl rfl | exact Or.inr rfl)
    (hs : swapsWith (.List es p3) (some (.Name x p2)) pos.line X.env = pure false := by rfl) (hf : X.fn x = true ∨ X.env.scope.names.lookup x = some .local := by first | exact .inl rfl | exact .inr rfl | assumption) :
    PSs X (.Assign [.Name x p2] (.List es p3) pos :: rest) (fun D σ H => EOk [] ρ σ H ∧ LamX.Tabs T H ∧ SqL X.K H a (ns.map V.int) ∧ ns.length ≤ 63 ∧ ∀ H', D.rt (.bl true) H') := by
  have hall : PSs X rest (fun D σ H => ∃ p : Addr, True ∧ tDF T [(p, OC.row X.K a ns 0 seed 0)] (ρ.set i (some (.own p))) D σ H) := pss_ex (p := fun _ => True) (t := fun p => tDF T [(p, OC.row X.K a ns 0 seed 0)] (ρ.set i (some (.own p)))) fun p _ => h p
  refine pss_w (pss_cons (ps_set hN hi hx (pe_lst hd) hs hf) hall) fun D σ H ⟨hE, hT, hS, hl, q⟩ => ⟨hE, fun vs H1 x1 r1 => ?_⟩
  obtain ⟨v1, u1, rfl, e1, r1⟩ := REs.cons r1
  obtain ⟨v2, u2, rfl, e2, r1⟩ := REs.cons r1
  obtain ⟨v3, u3, rfl, e3, r1⟩ := REs.cons r1
  obtain ⟨v4, u4, rfl, e4, r1⟩ := REs.cons r1
  have e5 := REs.nil r1
  subst e5
  have e1 : v1 = .ref a := e1
  have e2 : v2 = .int 0 := RE.int e2
  have e3 : v3 = .int seed := RE.int e3
  have e4 : v4 = .int 0 := RE.int e4
  subst e1 e2 e3 e4
  refine ⟨by show 4 ≤ sizeLine; decide, fun p np => ⟨p, trivial, ?_, tabs_keep (tabs_keep hT hE.own x1.keep) x1.own (Keep.upd np), q⟩⟩
  have hc : HC (dom ([] : Own) ++ [p]) (L2.upd H1 p (.lst [.ref a, .int 0, .int seed, .int 0])) p (OC.row X.K a ns 0 seed 0) := by
    refine ⟨L2.upd_same, ?_, hl⟩
    rcases hS with rd | st
    · have rd1 : Rd H1 a (.lst (ns.map V.int)) := rd_at rd fun o e => x1.keep a o (fun z => nomatch z) e
      have nap : a ≠ p := rd_ne np rd1
      exact .inl ⟨fun z => nap (by simpa [dom] using z), rd_at rd1 fun o e => by rw [L2.upd_ne nap]; exact e⟩
    · exact .inr st
  have E1 := (hE.xt x1).snoc np hc
  exact E1.set (e := .own p) rfl
end ZM

set_option Elab.async false
set_option linter.all false
set_option maxRecDepth 100000
set_option maxHeartbeats 2000000
namespace ZM
open PySem PySem.Spec PyProof.Rows L2 DL CB
section
variable {X : Cx} {tg a : Expr} {ω ω1 : Own} {ρ ρ1 : Rho} {pos : Pos} {e : Ent}
/-- targets = a value, by the targets' own rule -/
theorem dn_bind {g : TG} {S : List Nat} (h : DE X ω ρ a e ω1) (hg : PG X tg g) (hb : Bnd X.K g S e ρ ρ1) (hs : swapsWithSole [tg] a pos.line X.env = pure false := by rfl) (hw : swappedStores [tg] a X.env = pure none := by rfl) (ha1 : (assignEach [tg] X.env).map (·.2) = [assign tg X.env] := by rfl) : DN X ω ρ (.Assign [tg] a pos) ω1 ρ1 :=
  ps_w (ps_asg h hg hs hw ha1) fun D σ H ⟨hE, q⟩ => ⟨hE, fun v H1 x1 r1 => hb.go ω1 v σ H1 _ (hE.xt x1) r1 fun σ' E' _ _ => q σ' H1 x1 E'⟩
end
end ZM
namespace ZM
open PySem PySem.Spec PyProof.Rows L2 DL CB
section
variable {X : Cx} {a b c : Expr} {ω ω1 ω2 : Own} {ρ : Rho} {pos : Pos} {e : Ent} {body ss : List Stmt} {i j : Int} {d d' : PyData}
theorem de_ifI {k : Bool} (h : DT X ω ρ c k ω) (h1 : DE X ω ρ a (DL.I i) ω2) (h2 : DE X ω ρ b (DL.I j) ω2) : DE X ω ρ (.IfExp c a b pos) (DL.I (cond k i j)) ω2 := by
  cases k with
  | true => exact de_if h (fun _ => h1) fun z => nomatch z
  | false => exact de_if h (fun z => nomatch z) fun _ => h2
theorem de_ifD {k : Bool} (h : DT X ω ρ c k ω) (h1 : DE X ω ρ a (.dat d) ω2) (h2 : DE X ω ρ b (.dat d') ω2) : DE X ω ρ (.IfExp c a b pos) (.dat (cond k d d')) ω2 := by
  cases k with
  | true => exact de_if h (fun _ => h1) fun z => nomatch z
  | false => exact de_if h (fun z => nomatch z) fun _ => h2
theorem dr_ifK {k : Bool} (h : DT X ω ρ c k ω1) (h1 : k = true → DR X ω1 ρ body e ω2) (h2 : k = false → DR X ω1 ρ ss e ω2) : DR X ω ρ (.If c body [] pos :: ss) e ω2 := by
  cases k with
  | true => exact dr_ifT h (h1 rfl)
  | false => exact dr_ifF h (h2 rfl)
end
end ZM
namespace ZM
open PySem PySem.Spec PyProof.Rows L2 DL CB
section
variable {X : Cx} {a b : Expr} {ω ω1 ω2 : Own} {ρ : Rho} {apos cpos pos : Pos}
theorem not_eqV {x y : Int} (h : x ≠ y) : eqV (.int x) (.int y) = false := by
  show decide (x = y) = false
  exact decide_eq_false h
theorem before_idx : ∀ (g : List Int) (y : Int) (m : Nat), m < g.idxOf y → g[m]? ≠ some y
  | [], _, _, h => by simp at h
  | x :: g, y, m, h => by
    rw [List.idxOf_cons] at h
    by_cases e : x = y
    · subst e; simp at h
    · have e2 : (x == y) = false := by simpa using e
      rw [e2] at h
      cases m with
      | zero => simpa using e
      | succ m => exact before_idx g y m (by simpa using h)
/-- g.index(y), numbers -/
theorem de_index {g : List Int} {y : Int} (ha : DE X ω ρ a (.dat (lstI g)) ω1) (hb : DE X ω1 ρ b (DL.I y) ω2) (hy : y ∈ g)
    (hbase : attributeBase a "index" X.env (eval a X.env) = eval a X.env := by rfl)
    (hfew : ((backTo cpos (starEach [b] X.env)).all (fun x => !x.1) && (backToKw cpos (keywordEach [] X.env)).all (fun x => x.1.isSome)
      && decide ([b].length + ([] : List Keyword).length + (if ([] : List Keyword).isEmpty then 0 else 1) < 30)) = true := by rfl)
    (hline : (apos.endLine == cpos.line) = true := by rfl) (hs : starEach [b] X.env = (false, eval b X.env) :: starEach [] X.env := by rfl) (hplain : (backTo cpos (starEach [] X.env)).any (·.1) = false := by rfl) :
    DE X ω ρ (.Call (.Attribute a "index" apos) [b] [] cpos) (DL.I (g.idxOf y : Nat)) ω2 :=
  pe_w (pe_bm PySem.F.plainAttrs_list PySem.F.slot_list_index PySem.F.type_list_index mt_index ha (pa_cons hb pa_nil hs) hbase hfew hline hs hplain) fun σ H Q ⟨hE, q⟩ => ⟨hE, fun x H1 x1 r1 => by
    obtain ⟨p, xs, rfl, n, e, r⟩ := r1.lst
    have ex := r.ints
    subst ex
    refine ⟨.inl ⟨rfl, _, SqL.of e⟩, hE.xt x1, fun v H2 x2 r2 => ?_⟩
    have ev := r2.int
    subst ev
    have hlt : g.idxOf y < g.length := List.idxOf_lt_length_of_mem hy
    refine ⟨p, g.map V.int, .int y, g.idxOf y, .int y, rfl, rfl, SqL.of (x2.keep p _ n e), rfl, flat_ints g, ?_, ?_, fun m z' hm hz => ?_, q _ H2 (x1.trans x2) (.ofInt _)⟩
    · rw [List.getElem?_map, List.getElem?_eq_getElem hlt, List.getElem_idxOf hlt]
      rfl
    · show decide (y = y) = true
      exact decide_eq_true rfl
    · rw [List.getElem?_map] at hz
      have hml : m < g.length := Nat.lt_trans hm hlt
      rw [List.getElem?_eq_getElem hml] at hz
      cases hz
      exact not_eqV fun z => before_idx g y m hm (by rw [List.getElem?_eq_getElem hml, z])⟩
theorem di_rangeN {tg : Expr} {n : Nat} {m : Int} {p2 : Pos} (hm : X.mg "range" = none) (h : DE X ω ρ a (DL.I m) ω1) (e : m = (n : Int)) (hn : n ≤ 1000) (hg : Gl X "range" := by rfl) (hs : starEach [a] X.env = [(false, eval a X.env)] := by rfl) (na : starEach [a] X.env = (false, eval a X.env) :: starEach [] X.env := by rfl) :
    DI X tg ω ρ (.Call (.Name "range" p2) [a] [] pos) ((rgI 0 n).map DL.I) ω1 := by
  subst e
  exact di_range1 (n := (n : Int)) hm h (by omega) hg hs na
theorem cut_take (ds : List PyData) {i : Int} (h : 0 ≤ i) : DL.cutD ds none (some i) = ds.take i.toNat := by
  unfold DL.cutD
  obtain ⟨k, rfl⟩ : ∃ k : Nat, i = (k : Int) := ⟨i.toNat, by omega⟩
  rw [HT.sIx_none, HT.sIx_nat, Nat.sub_zero, List.drop_zero]
  show ds.take (min k ds.length) = ds.take k
  rcases Nat.le_total k ds.length with z | z
  · rw [Nat.min_eq_left z]
  · rw [Nat.min_eq_right z, List.take_length, List.take_of_length_le z]
theorem cut_drop (ds : List PyData) {i : Int} (h : 0 ≤ i) : DL.cutD ds (some i) none = ds.drop i.toNat := by
  unfold DL.cutD
  obtain ⟨k, rfl⟩ : ∃ k : Nat, i = (k : Int) := ⟨i.toNat, by omega⟩
  rw [HT.sIx_none, HT.sIx_nat]
  show (ds.drop (min k ds.length)).take (ds.length - min k ds.length) = ds.drop k
  rcases Nat.le_total k ds.length with z | z
  · rw [Nat.min_eq_left z, ← List.length_drop, List.take_length]
  · rw [Nat.min_eq_right z, Nat.sub_self, List.take_zero, List.drop_of_length_le z]
theorem de_takeL {ds : List PyData} {i : Int} {p2 : Pos} (ha : DE X ω ρ a (.dat (.list ds)) ω) (hb : DE X ω ρ b (DL.I i) ω) (h : 0 ≤ i) : DE X ω ρ (.Subscript a (.Slice none (some b) none p2) pos) (.dat (.list (ds.take i.toNat))) ω := by
  rw [← cut_take ds h]
  exact de_sliceL ha dp_none (dp_some hb)
theorem de_dropL {ds : List PyData} {i : Int} {p2 : Pos} (ha : DE X ω ρ a (.dat (.list ds)) ω) (hb : DE X ω ρ b (DL.I i) ω) (h : 0 ≤ i) : DE X ω ρ (.Subscript a (.Slice (some b) none none p2) pos) (.dat (.list (ds.drop i.toNat))) ω := by
  rw [← cut_drop ds h]
  exact de_sliceL ha (dp_some hb) dp_none
theorem de_takeT {ds : List PyData} {i : Int} {p2 : Pos} (ha : DE X ω ρ a (.dat (.tuple ds)) ω) (hb : DE X ω ρ b (DL.I i) ω) (h : 0 ≤ i) : DE X ω ρ (.Subscript a (.Slice none (some b) none p2) pos) (.dat (.tuple (ds.take i.toNat))) ω := by
  rw [← cut_take ds h]
  exact de_sliceT ha dp_none (dp_some hb)
end
end ZM
namespace ZM
open PySem PySem.Spec PyProof.Rows L2 DL CB
section
variable {X : Cx} {c : Expr} {ω : Own} {ρ ρ2 : Rho} {body : List Stmt} {pos : Pos}
/-- if c: body; what changes stands as a choice -/
theorem dn_ifC {k : Bool} (h : DT X ω ρ c k ω) (h1 : k = true → DNs X ω ρ body ω ρ2) (h2 : k = false → Le ρ2 ρ) : DN X ω ρ (.If c body [] pos) ω ρ2 :=
  dn_if h h1 fun z => dns_le dns_nil (h2 z)
end
end ZM
namespace ZM
open PySem PySem.Spec PyProof.Rows L2 DL CB
section
variable {X : Cx} {a b c : Expr} {ω ω1 : Own} {ρ : Rho} {e1 e2 e3 : Ent} {pos : Pos}
theorem REs.three {O : List Addr} {H : Hp} {vs : List V} {e f g : Ent} (h : REs O H [e, f, g] vs) : ∃ v w u, vs = [v, w, u] ∧ RE O H e v ∧ RE O H f w ∧ RE O H g u := by
  cases h with
  | cons a b =>
    obtain ⟨w, u, rfl, r1, r2⟩ := REs.two b
    exact ⟨_, w, u, rfl, a, r1, r2⟩
theorem dn_par3 (i j l : Nat) {x y z : Str} {k k' : Nat} {px py pz pt pv' : Pos} (hc : X.calm = true) (hN : X.N.Nodup) (h : DA X ω ρ [a, b, c] [e1, e2, e3] ω1) (hi : X.N[i]? = some x := by rfl) (hj : X.N[j]? = some y := by rfl) (hl : X.N[l]? = some z := by rfl) (hij : i ≠ j := by decide) (hil : i ≠ l := by decide) (hjl : j ≠ l := by decide)
    (hx : X.env.scope.names.lookup x = some .local := by rfl) (hy : X.env.scope.names.lookup y = some .local := by rfl) (hz : X.env.scope.names.lookup z = some .local := by rfl)
    (hw : swappedStores [.Tuple [.Name x px, .Name y py, .Name z pz] k pt] (.Tuple [a, b, c] k' pv') X.env = pure (some [x, y, z]) := by rfl)
    (hs : swapsWithSole [.Tuple [.Name x px, .Name y py, .Name z pz] k pt] (.Tuple [a, b, c] k' pv') pos.line X.env = pure false := by rfl) :
    DN X ω ρ (.Assign [.Tuple [.Name x px, .Name y py, .Name z pz] k pt] (.Tuple [a, b, c] k' pv') pos) ω1 (((ρ.set i (some e1)).set j (some e2)).set l (some e3)) :=
  ps_w (ps_par3 hc hN hi hj hl hij hil hjl hx hy hz h hw hs) fun D σ H ⟨hE, q⟩ => ⟨hE, fun vs H1 x1 r1 => by
    obtain ⟨v, w, u, rfl, r1, r2, r3⟩ := REs.three r1
    exact ⟨v, w, u, rfl, q _ H1 x1 ((((hE.xt x1).set r1).set r2).set r3)⟩⟩
end
end ZM
namespace ZM
open PySem PySem.Spec PyProof.Rows L2 DL CB
section
variable {X : Cx} {c : Expr} {ω ω1 ω2 : Own} {ρ : Rho} {pos : Pos} {e : Ent} {body ss els : List Stmt} {k : Bool} {E : XK} {C : Addr}
theorem dr_ifT' (h : DT X ω ρ c k ω1) (hk : k = true) (h1 : DR X ω1 ρ body e ω2) : DR X ω ρ (.If c body els pos :: ss) e ω2 := by subst hk; exact dr_ifT h h1
theorem dr_ifF' (h : DT X ω ρ c k ω1) (hk : k = false) (h1 : DR X ω1 ρ ss e ω2) : DR X ω ρ (.If c body [] pos :: ss) e ω2 := by subst hk; exact dr_ifF h h1
theorem drx_ifT' (h : DT X ω ρ c k ω1) (hk : k = true) (h1 : PSs X body (tBX E ω1 ρ C ω2)) : PSs X (.If c body els pos :: ss) (tBX E ω ρ C ω2) := by subst hk; exact drx_ifT h h1
end
end ZM

set_option Elab.async false
set_option linter.all false
set_option maxRecDepth 100000
set_option maxHeartbeats 2000000
namespace ZM
open PySem PySem.Spec PyProof.Rows L2 DL CB
/-! ### the fields of an owned object -/
def putE (f : Str) (e : Ent) : List (Str × Ent) → List (Str × Ent)
  | [] => [(f, e)]
  | (g, x) :: r => if g = f then (g, e) :: r else (g, x) :: putE f e r
theorem fld_put {O : List Addr} {H : Hp} {f : Str} {e : Ent} {v : V} (p : plE e = true) (r : RE O H e v) : ∀ {fs : List (Str × Ent)} {vs : List (Str × V)}, Flds O H fs vs → Flds O H (putE f e fs) (putF f v vs)
  | _, _, .nil => .cons p r .nil
  | _, _, .cons (f := g) q a t => by
    unfold putE putF
    by_cases h : g = f
    · rw [if_pos h, if_pos h]
      exact .cons p r t
    · rw [if_neg h, if_neg h]
      exact .cons q a (fld_put p r t)
theorem fld_len {O : List Addr} {H : Hp} : ∀ {fs : List (Str × Ent)} {vs : List (Str × V)}, Flds O H fs vs → vs.length = fs.length
  | _, _, .nil => rfl
  | _, _, .cons q a t => by rw [List.length_cons, List.length_cons, fld_len t]
theorem fld_get {O : List Addr} {H : Hp} {f : Str} {e : Ent} : ∀ {fs : List (Str × Ent)} {vs : List (Str × V)}, Flds O H fs vs → fs.lookup f = some e → ∃ v, vs.lookup f = some v ∧ RE O H e v
  | _, _, .nil, h => nomatch h
  | _, _, .cons (f := g) q a t, h => by
    by_cases z : f = g
    · have hb : (f == g) = true := beq_iff_eq.mpr z
      simp only [List.lookup, hb] at h ⊢
      cases h
      exact ⟨_, rfl, a⟩
    · have hb : (f == g) = false := beq_eq_false_iff_ne.mpr z
      simp only [List.lookup, hb] at h ⊢
      exact fld_get t h
theorem fld_none {O : List Addr} {H : Hp} {f : Str} : ∀ {fs : List (Str × Ent)} {vs : List (Str × V)}, Flds O H fs vs → fs.lookup f = none → vs.lookup f = none
  | _, _, .nil, h => rfl
  | _, _, .cons (f := g) q a t, h => by
    by_cases z : f = g
    · have hb : (f == g) = true := beq_iff_eq.mpr z
      simp only [List.lookup, hb] at h
      cases h
    · have hb : (f == g) = false := beq_eq_false_iff_ne.mpr z
      simp only [List.lookup, hb] at h ⊢
      exact fld_none t h
section
variable {X : Cx} {a b c : Expr} {es : List Expr} {ω ω1 ω2 : Own} {ρ ρ1 : Rho} {pos p2 apos cpos : Pos} {e : Ent} {p C dx : Addr} {fs : List (Str × Ent)} {f : Str}
/-- a.f -/
theorem de_fld (hp : (p, OC.obj C dx fs) ∈ ω1) (h : DE X ω ρ a (.own p) ω1) (c : Cls X.K C) (n : NoAttr X.K C f) (l : fs.lookup f = some e) (hb : attributeBase a f X.env (eval a X.env) = eval a X.env := by rfl) : DE X ω ρ (.Attribute a f pos) e ω1 :=
  pe_w (pe_fld h hb) fun σ H Q ⟨hE, q⟩ => ⟨hE, fun v H1 x1 r1 => by
    have r1 : v = .ref p := r1
    subst r1
    obtain ⟨vs, e1, r⟩ := x1.own.at_ _ hp
    obtain ⟨v, l1, r2⟩ := fld_get r l
    exact ⟨p, C, dx, vs, v, rfl, e1, c, n, l1, q v H1 x1 r2⟩⟩
theorem hc_put {ωa ωb : Own} {H : Hp} {v : V} (O : OwnOk (ωa ++ (p, .obj C dx fs) :: ωb) H) (hl : plE e = true) (r : RE (dom (ωa ++ (p, OC.obj C dx fs) :: ωb)) H e v) : ∃ vs, H p = some (.ins C dx vs) ∧ vs.length = fs.length ∧ HC (dom (ωa ++ (p, OC.obj C dx fs) :: ωb)) (L2.upd H p (.ins C dx (putF f v vs))) p (.obj C dx (putE f e fs)) := by
  obtain ⟨vs, e1, q⟩ := O.at_ (p, .obj C dx fs) (by simp)
  exact ⟨vs, e1, fld_len q, _, L2.upd_same, (fld_put hl r q).map fun _ _ z => z.updIn (by simp [dom])⟩
/-- a.f = b -/
theorem dn_fld (ωa ωb : Own) (h0 : ω1 = ωa ++ (p, .obj C dx fs) :: ωb) (hv : DE X ω ρ b e ω1) (ho : DE X ω1 ρ a (.own p) ω1) (c : Cls X.K C) (n : NoAttr X.K C f) (hl : plE e = true) (hz : fs.length < 1000) (h1 : ω2 = ωa ++ (p, .obj C dx (putE f e fs)) :: ωb)
    (hs : swapsWith b (some (.Attribute a f p2)) pos.line X.env = pure false := by rfl) : DN X ω ρ (.Assign [.Attribute a f p2] b pos) ω2 ρ := by
  subst h0 h1
  refine ps_w (ps_fld ho hv hs) fun D σ H ⟨hE, q⟩ => ⟨hE, fun y H1 x1 r1 => ⟨hE.xt x1, fun x H2 x2 r2 => ?_⟩⟩
  have r2 : x = .ref p := r2
  subst r2
  obtain ⟨vs, e1, hlen, hc⟩ := hc_put (f := f) x2.own hl (x2.re r1)
  exact ⟨p, C, dx, vs, rfl, e1, c, n, by rw [hlen]; exact hz, q σ _ ((x1.trans x2).trans (Xt.put x2.own hc)) (((hE.xt x1).xt x2).put hc)⟩
/-! ### a new owned object, stored in a field -/
def tNw (ω : Own) (ρ : Rho) (oc : OC) : TE := fun σ H Q => EOk ω ρ σ H ∧ ∀ d H', H d = none → Keep (dom ω) H H' → EOk (ω ++ [(d, oc)]) ρ σ H' → Q (.ref d) H'
def tNo (ω : Own) (ρ : Rho) (Ω : Addr → Own) : TS := fun D σ H => EOk ω ρ σ H ∧ ∀ d σ' H', H d = none → Keep (dom ω) H H' → EOk (Ω d) ρ σ' H' → D.nx σ' H'
theorem nw_list : PE X (.List [] pos) (tNw ω ρ (.lst [])) :=
  pe_w (pe_lst pa_nil) fun σ H Q ⟨hE, q⟩ => ⟨Nat.zero_le _, fun d nd => q d _ nd (Keep.upd nd) (hE.snoc nd ⟨[], L2.upd_same, .nil⟩)⟩
theorem no_fld {oc : OC} {Ω : Addr → Own} (ωa ωb : Own) (h0 : ω = ωa ++ (p, .obj C dx fs) :: ωb) (hv : PE X b (tNw ω ρ oc)) (ho : ∀ d, DE X (ω ++ [(d, oc)]) ρ a (.own p) (ω ++ [(d, oc)])) (c : Cls X.K C) (n : NoAttr X.K C f) (hz : fs.length < 1000) (hΩ : ∀ d, Ω d = ωa ++ (p, .obj C dx (putE f (.own d) fs)) :: (ωb ++ [(d, oc)]))
    (hs : swapsWith b (some (.Attribute a f p2)) pos.line X.env = pure false := by rfl) : PS X (.Assign [.Attribute a f p2] b pos) (tNo ω ρ Ω) := by
  obtain rfl : Ω = fun d => ωa ++ (p, .obj C dx (putE f (.own d) fs)) :: (ωb ++ [(d, oc)]) := funext hΩ
  subst h0
  have ho' : PE X a (fun σ H Q => ∃ d : Addr, True ∧ tD ((ωa ++ (p, .obj C dx fs) :: ωb) ++ [(d, oc)]) ρ (.own p) ((ωa ++ (p, .obj C dx fs) :: ωb) ++ [(d, oc)]) σ H Q) := pe_ex (p := fun _ => True) (t := fun d => tD ((ωa ++ (p, .obj C dx fs) :: ωb) ++ [(d, oc)]) ρ (.own p) ((ωa ++ (p, .obj C dx fs) :: ωb) ++ [(d, oc)])) fun d _ => ho d
  refine ps_w (ps_fld ho' hv hs) fun D σ H ⟨hE, q⟩ => ⟨hE, fun d H1 fd k1 E1 => ⟨d, trivial, E1, fun x H2 x2 r2 => ?_⟩⟩
  have r2 : x = .ref p := r2
  subst r2
  have ea : (ωa ++ (p, OC.obj C dx fs) :: ωb) ++ [(d, oc)] = ωa ++ (p, .obj C dx fs) :: (ωb ++ [(d, oc)]) := by simp
  have E2 := E1.xt x2
  rw [ea] at x2 E2
  obtain ⟨vs, e1, hlen, hc⟩ := hc_put (f := f) (e := .own d) (v := .ref d) E2.own rfl rfl
  refine ⟨p, C, dx, vs, rfl, e1, c, n, by rw [hlen]; exact hz, q d σ _ fd ?_ (E2.put hc)⟩
  intro b' u nb hb
  have hp : p ∈ dom (ωa ++ (p, OC.obj C dx fs) :: ωb) := by simp [dom]
  have nbp : b' ≠ p := fun z => nb (by rw [z]; exact hp)
  have nd : b' ≠ d := ne_of_none hb fd
  rw [L2.upd_ne nbp]
  refine x2.keep b' u (fun z => ?_) (k1 b' u nb hb)
  have : b' ∈ dom ((ωa ++ (p, OC.obj C dx fs) :: ωb) ++ [(d, oc)]) := by rw [ea]; exact z
  rw [dom_app] at this
  rcases List.mem_append.mp this with z | z
  · exact nb z
  · exact nd (by simpa [dom] using z)
end
end ZM

set_option Elab.async false
set_option linter.all false
set_option maxRecDepth 100000
set_option maxHeartbeats 2000000
namespace ZM
open PySem PySem.Spec PyProof.Rows L2 DL CB
/-! ### methods -/
structure DMx (P : Program) (w : World) (K : PySem.W.Frag) (mg : Str → Option Value) (base : Heap) (k : Nat) (C : Addr) (m : Str) (R : List Ent → Own → Ent → Own → Prop) (RX : List Ent → Own → Addr → Own → Prop) : Prop where
  ex : ∃ (f : Addr) (fd : FuncData) (ps : List Str), FnOk P w K mg base (L2.CX P w) k f fd ps (xsp R RX) ∧ Meth K C m f ∧ Binds K fd ps []
theorem passE {X : Cx} {E : XK} (tk : Takes X (WE0 E)) : Passes (L2.CX X.prog X.w) X E := fun pins σ H s e s' I c => passAt tk σ pins H s e s' I c
abbrev hand0 (ov : Value) (m : Str) (pl : Sem Bool) (k : Value → List Value → Sem Value) : Sem Value := do
  let g ← holding [ov] (getMethod ov m pl)
  k g.1 g.2
section
variable {X : Cx} {a b c : Expr} {es : List Expr} {ω ω1 ω2 : Own} {ρ ρ1 : Rho} {pos p2 apos cpos : Pos} {e : Ent} {p C dx : Addr} {fs : List (Str × Ent)} {rs : List Ent} {m : Str} {k : Nat} {R : List Ent → Own → Ent → Own → Prop} {RX : List Ent → Own → Addr → Own → Prop} {pl : Sem Bool} {E : XK} {Cx : Addr}
theorem de_meth (F : DMx X.prog X.w X.K X.mg X.base k C m R RX) (hr : Room k X.A) (c : Cls X.K C) (ho : DE X ω ρ b (.own p) ω) (hp : (p, OC.obj C dx fs) ∈ ω) (ha : DA X ω ρ (a :: es) rs ω1) (hR : R (.own p :: rs) ω1 e ω2) (hm : fs.lookup m = none := by first | rfl | decide +kernel) (hd : dom ω2 = dom ω1 := by rfl)
    (hst : starEach (a :: es) X.env = (false, eval a X.env) :: starEach es X.env := by rfl) (hpl : (backTo pos (starEach es X.env)).any (·.1) = false := by rfl)
    (ht : eval (.Call (.Attribute b m apos) (a :: es) [] pos) X.env = (do let ov ← eval b X.env; standAt apos.atName; hand0 ov m pl fun f first => callWith pos f first (backTo pos (starEach (a :: es) X.env)) (backToKw pos (keywordEach [] X.env))) := by rfl) : DE X ω ρ (.Call (.Attribute b m apos) (a :: es) [] pos) e ω2 := by
  obtain ⟨f, fd, ps, F, hk, hb⟩ := F.ex
  refine pe_w (pe_meth (E := fun _ _ _ => False) ho c hk F hr hb .nil passF ha hst hpl ht) fun σ H Q ⟨hE, q⟩ => ⟨hE, fun x H1 x1 r1 => ?_⟩
  have r1 : x = .ref p := r1
  subst r1
  obtain ⟨vs0, e1, r⟩ := x1.own.at_ _ hp
  refine ⟨p, dx, vs0, rfl, e1, fld_none r hm, hE.xt x1, fun vs H2 x2 r2 => ?_⟩
  show xsp R RX (.ref p :: (vs ++ [])) H2 Q _
  rw [List.append_nil]
  exact .inl ⟨.own p :: rs, ω1, e, ω2, hR, x2.own, .cons rfl r2, fun v H3 k3 o3 r3 => q v H3 ((x1.trans x2).trans ⟨hd, o3, k3⟩) r3⟩
theorem dex_meth (F : DMx X.prog X.w X.K X.mg X.base k C m R RX) (tk : Takes X (WE0 E)) (hr : Room k X.A) (c : Cls X.K C) (ho : DE X ω ρ b (.own p) ω) (hp : (p, OC.obj C dx fs) ∈ ω) (ha : DA X ω ρ (a :: es) rs ω1) (hR : RX (.own p :: rs) ω1 Cx ω2) (hm : fs.lookup m = none := by first | rfl | decide +kernel)
    (hst : starEach (a :: es) X.env = (false, eval a X.env) :: starEach es X.env := by rfl) (hpl : (backTo pos (starEach es X.env)).any (·.1) = false := by rfl)
    (ht : eval (.Call (.Attribute b m apos) (a :: es) [] pos) X.env = (do let ov ← eval b X.env; standAt apos.atName; hand0 ov m pl fun f first => callWith pos f first (backTo pos (starEach (a :: es) X.env)) (backToKw pos (keywordEach [] X.env))) := by rfl) : PE X (.Call (.Attribute b m apos) (a :: es) [] pos) (tDX E ω ρ Cx ω2) := by
  obtain ⟨f, fd, ps, F, hk, hb⟩ := F.ex
  refine pe_w (pe_meth (E := E) ho c hk F hr hb .nil (passE tk) ha hst hpl ht) fun σ H Q ⟨hE, q⟩ => ⟨hE, fun x H1 x1 r1 => ?_⟩
  have r1 : x = .ref p := r1
  subst r1
  obtain ⟨vs0, e1, r⟩ := x1.own.at_ _ hp
  refine ⟨p, dx, vs0, rfl, e1, fld_none r hm, hE.xt x1, fun vs H2 x2 r2 => ?_⟩
  show xsp R RX (.ref p :: (vs ++ [])) H2 Q _
  rw [List.append_nil]
  have x12 := x1.trans x2
  exact .inr ⟨.own p :: rs, ω1, Cx, ω2, hR, x2.own, .cons rfl r2, fun H3 k3 o3 => q H3 (x12.keep.trans (by have := k3; rw [x12.dm] at this; exact this)) o3⟩
theorem de_meth0 (F : DMx X.prog X.w X.K X.mg X.base k C m R RX) (hr : Room k X.A) (c : Cls X.K C) (ho : DE X ω ρ b (.own p) ω) (hp : (p, OC.obj C dx fs) ∈ ω) (hR : R [.own p] ω e ω2) (hm : fs.lookup m = none := by first | rfl | decide +kernel) (hd : dom ω2 = dom ω := by rfl)
    (ht : eval (.Call (.Attribute b m apos) [] [] pos) X.env = (do let ov ← eval b X.env; standAt apos.atName; hand0 ov m pl fun f first => callWith pos f first (backTo pos (starEach [] X.env)) (backToKw pos (keywordEach [] X.env))) := by rfl) : DE X ω ρ (.Call (.Attribute b m apos) [] [] pos) e ω2 := by
  obtain ⟨f, fd, ps, F, hk, hb⟩ := F.ex
  refine pe_w (pe_meth0 (E := fun _ _ _ => False) ho c hk F hr hb .nil passF ht) fun σ H Q ⟨hE, q⟩ => ⟨hE, fun x H1 x1 r1 => ?_⟩
  have r1 : x = .ref p := r1
  subst r1
  obtain ⟨vs0, e1, r⟩ := x1.own.at_ _ hp
  exact ⟨p, dx, vs0, rfl, e1, fld_none r hm, .inl ⟨[.own p], ω, e, ω2, hR, x1.own, .cons rfl .nil, fun v H3 k3 o3 r3 => q v H3 (x1.trans ⟨hd, o3, k3⟩) r3⟩⟩
theorem dex_meth0 (F : DMx X.prog X.w X.K X.mg X.base k C m R RX) (tk : Takes X (WE0 E)) (hr : Room k X.A) (c : Cls X.K C) (ho : DE X ω ρ b (.own p) ω) (hp : (p, OC.obj C dx fs) ∈ ω) (hR : RX [.own p] ω Cx ω2) (hm : fs.lookup m = none := by first | rfl | decide +kernel)
    (ht : eval (.Call (.Attribute b m apos) [] [] pos) X.env = (do let ov ← eval b X.env; standAt apos.atName; hand0 ov m pl fun f first => callWith pos f first (backTo pos (starEach [] X.env)) (backToKw pos (keywordEach [] X.env))) := by rfl) : PE X (.Call (.Attribute b m apos) [] [] pos) (tDX E ω ρ Cx ω2) := by
  obtain ⟨f, fd, ps, F, hk, hb⟩ := F.ex
  refine pe_w (pe_meth0 (E := E) ho c hk F hr hb .nil (passE tk) ht) fun σ H Q ⟨hE, q⟩ => ⟨hE, fun x H1 x1 r1 => ?_⟩
  have r1 : x = .ref p := r1
  subst r1
  obtain ⟨vs0, e1, r⟩ := x1.own.at_ _ hp
  exact ⟨p, dx, vs0, rfl, e1, fld_none r hm, .inr ⟨[.own p], ω, Cx, ω2, hR, x1.own, .cons rfl .nil, fun H3 k3 o3 => q H3 (x1.keep.trans (by have := k3; rw [x1.dm] at this; exact this)) o3⟩⟩
/-- a property -/
theorem de_prop {f : Str} {pr g : Addr} {fd : FuncData} {ps : List Str} (hp : PropOf X.K C f pr g) (F : FnOk X.prog X.w X.K X.mg X.base CX0 k g fd ps (dsp R)) (hb : Binds X.K fd ps []) (hr : Room (k + 1) X.A) (c : Cls X.K C) (h : DE X ω ρ a (.own p) ω1) (hi : (p, OC.obj C dx fs) ∈ ω1) (hR : R [.own p] ω1 e ω1)
    (hab : attributeBase a f X.env (eval a X.env) = eval a X.env := by rfl) : DE X ω ρ (.Attribute a f pos) e ω1 :=
  pe_w (pe_prop h c hp F hr hb .nil pass0 hab) fun σ H Q ⟨hE, q⟩ => ⟨hE, fun x H1 x1 r1 => by
    have r1 : x = .ref p := r1
    subst r1
    obtain ⟨vs0, e1, r⟩ := x1.own.at_ _ hi
    exact ⟨p, dx, vs0, rfl, e1, [.own p], ω1, e, ω1, hR, x1.own, .cons rfl .nil, fun v H3 k3 o3 r3 => q v H3 (x1.trans ⟨rfl, o3, k3⟩) r3⟩⟩
end
section
variable {P : Program} {w : World} {K : PySem.W.Frag} {mg : Str → Option Value} {base : Heap} {x qual : Str} {st : Stmt} {f : Addr} {fd : FuncData} {N ps : List Str} {k : Nat} {C : Addr} {R : List Ent → Own → Ent → Own → Prop} {RX : List Ent → Own → Addr → Own → Prop}
theorem dmx_ret (F : Fun K x qual st f fd) (hm : Meth K C x f) (hb : Binds K fd ps []) (S : FnScope N ps (defScope st)) (len : ∀ es ω e ω', R es ω e ω' → es.length = ps.length) (lenX : ∀ es ω C ω', RX es ω C ω' → es.length = ps.length)
    (body : ∀ (cdv : Value) (A : Around) (outer : List Env) (s : Shared) (H : Hp) (E : XK), Room k (CxX P w K mg base N qual st f cdv A outer s H E).A → ∀ es ω e ω', R es ω e ω' → DR (CxX P w K mg base N qual st f cdv A outer s H E) ω (rho0 N es) (defBody st) e ω')
    (bodyX : ∀ (cdv : Value) (A : Around) (outer : List Env) (s : Shared) (H : Hp) (E : XK), Room k (CxX P w K mg base N qual st f cdv A outer s H E).A → Takes (CxX P w K mg base N qual st f cdv A outer s H E) (WE0 E) → ∀ es ω C ω', RX es ω C ω' → PSs (CxX P w K mg base N qual st f cdv A outer s H E) (defBody st) (tBX E ω (rho0 N es) C ω')) : DMx P w K mg base (k + 1) C x R RX := by
  refine ⟨f, fd, ps, F.okX S (fun vs H Q E h => ?_) (fun cdv A outer s H vs Q E hr h => ?_), hm, hb⟩
  · rcases h with ⟨es, ω, e, ω', r, o, rs, q⟩ | ⟨es, ω, C, ω', r, o, rs, q⟩
    · exact rs.length.symm.trans (len _ _ _ _ r)
    · exact rs.length.symm.trans (lenX _ _ _ _ r)
  · rcases h with ⟨es, ω, e, ω', r, o, rs, q⟩ | ⟨es, ω, C, ω', r, o, rs, q⟩
    · exact ⟨_, body cdv A outer s H E hr es ω e ω' r, EOk_start o rs, q⟩
    · exact ⟨_, bodyX cdv A outer s H E hr (takes_of rfl rfl rfl rfl) es ω C ω' r, EOk_start o rs, q⟩
theorem dmx_none (F : Fun K x qual st f fd) (hm : Meth K C x f) (hb : Binds K fd ps []) (S : FnScope N ps (defScope st)) (len : ∀ es ω e ω', R es ω e ω' → es.length = ps.length) (lenX : ∀ es ω C ω', RX es ω C ω' → es.length = ps.length) (hn : ∀ es ω e ω', R es ω e ω' → e = .dat .none)
    (body : ∀ (cdv : Value) (A : Around) (outer : List Env) (s : Shared) (H : Hp) (E : XK), Room k (CxX P w K mg base N qual st f cdv A outer s H E).A → ∀ es ω e ω', R es ω e ω' → ∃ ρ', DNs (CxX P w K mg base N qual st f cdv A outer s H E) ω (rho0 N es) (defBody st) ω' ρ')
    (bodyX : ∀ (cdv : Value) (A : Around) (outer : List Env) (s : Shared) (H : Hp) (E : XK), Room k (CxX P w K mg base N qual st f cdv A outer s H E).A → Takes (CxX P w K mg base N qual st f cdv A outer s H E) (WE0 E) → ∀ es ω C ω', RX es ω C ω' → PSs (CxX P w K mg base N qual st f cdv A outer s H E) (defBody st) (tBX E ω (rho0 N es) C ω')) : DMx P w K mg base (k + 1) C x R RX := by
  refine ⟨f, fd, ps, F.okX S (fun vs H Q E h => ?_) (fun cdv A outer s H vs Q E hr h => ?_), hm, hb⟩
  · rcases h with ⟨es, ω, e, ω', r, o, rs, q⟩ | ⟨es, ω, C, ω', r, o, rs, q⟩
    · exact rs.length.symm.trans (len _ _ _ _ r)
    · exact rs.length.symm.trans (lenX _ _ _ _ r)
  · rcases h with ⟨es, ω, e, ω', r, o, rs, q⟩ | ⟨es, ω, C, ω', r, o, rs, q⟩
    · obtain ⟨ρ', hb⟩ := body cdv A outer s H E hr es ω e ω' r
      have en := hn _ _ _ _ r
      subst en
      exact ⟨_, hb, EOk_start o rs, fun σ' H' x' E' => q .non H' x'.keep x'.own Rp.non⟩
    · exact ⟨_, bodyX cdv A outer s H E hr (takes_of rfl rfl rfl rfl) es ω C ω' r, EOk_start o rs, q⟩
end
end ZM

set_option Elab.async false
set_option linter.all false
set_option maxRecDepth 100000
set_option maxHeartbeats 2000000
namespace ZM
open PySem PySem.Spec PyProof.Rows L2 DL CB
/-! ### a dict with texts for keys, made by a comprehension -/
def kvR (kf : Nat → Str) (vf : Nat → Int) (n : Nat) : List (Key × V) := (List.range n).map fun k => ((Sum.inr (kf k) : Key), V.int (vf k))
theorem kvR_succ (kf : Nat → Str) (vf : Nat → Int) (n : Nat) : kvR kf vf (n + 1) = kvR kf vf n ++ [((Sum.inr (kf n) : Key), V.int (vf n))] := by
  unfold kvR
  rw [List.range_succ, List.map_append]
  rfl
theorem kvR_len (kf : Nat → Str) (vf : Nat → Int) (n : Nat) : (kvR kf vf n).length = n := by
  unfold kvR
  rw [List.length_map, List.length_range]
theorem put_new {kvs : List (Key × V)} {k : Key} {v : V} (h : ∀ p ∈ kvs, p.1 ≠ k) : putK kvs k v = kvs ++ [(k, v)] := by
  unfold putK
  rw [if_neg]
  intro z
  obtain ⟨p, hp, e⟩ := List.any_eq_true.mp z
  exact h p hp (of_decide_eq_true e)
section
variable {X : Cx} {tg kx vx iter a b c : Expr} {es : List Expr} {ω ω1 ω2 : Own} {ρ ρ1 : Rho} {pos p2 apos cpos : Pos} {e : Ent} {scope : Scope}
def tLK (n : Nat) (ω : Own) (ρb : Nat → Rho) (ef : Nat → Ent) : TE := fun σ H Q => ∃ p : Nat × Own, p.1 < n ∧ tD (ω ++ p.2) (ρb p.1) (ef p.1) (ω ++ p.2) σ H Q
theorem nw_dc {g : TG} {S : List Nat} (own : List (Str × Nat)) {xs : List Ent} (ρb : Nat → Rho) (kf : Nat → Str) (vf : Nat → Int) (hc : X.calm = true) (hN : X.N.Nodup) (hi : DI X tg ω ρ iter xs ω) (hz : xs.length ≤ 1000) (hS : ∀ i ∈ S, i ∈ own.map (·.2))
    (hg : ∀ s H C cl fp, PG (BlkC X scope s H C cl fp) tg g) (hb : ∀ (k : Nat) (x : Ent), xs[k]? = some x → Bnd X.K g S x (wipeR ρ (own.map (·.2))) (ρb k))
    (hk : ∀ s H C cl fp (k : Nat) (ωd : Own), k < xs.length → DE (BlkC X scope s H C cl fp) (ω ++ ωd) (ρb k) kx (.dat (.str (kf k))) (ω ++ ωd))
    (hv : ∀ s H C cl fp (k : Nat) (ωd : Own), k < xs.length → DE (BlkC X scope s H C cl fp) (ω ++ ωd) (ρb k) vx (DL.I (vf k)) (ω ++ ωd))
    (hinj : ∀ i j, i < j → j < xs.length → kf i ≠ kf j) (ok : blkC X.N X.env.scope scope own = true := by kernel_rfl) (hs : ∀ x, foldedSetIterable iter X.env x = pure x := by intro _; rfl) :
    PE X (.DictComp kx vx [⟨tg, iter, [], 0⟩] scope pos) (tNw ω ρ (.dk (kvR kf vf xs.length))) := by
  refine pe_w (pe_dc hc hN hi (blkOk_by ok) hg (tt := tLT xs.length (fun _ => ω) ρb (fun _ => true)) (tk := tLK xs.length ω ρb fun k => .dat (.str (kf k))) (tv := tLK xs.length ω ρb fun k => DL.I (vf k))
    (fun s H C cl fp => pts_ex (p := fun p : Nat × Own => p.1 < xs.length) (t := fun p => tT (ω ++ p.2) (ρb p.1) true (ω ++ p.2)) fun p hp => dts_nil)
    (fun s H C cl fp => pe_ex (p := fun p : Nat × Own => p.1 < xs.length) (t := fun p => tD (ω ++ p.2) (ρb p.1) (.dat (.str (kf p.1))) (ω ++ p.2)) fun p hp => hk s H C cl fp p.1 p.2 hp)
    (fun s H C cl fp => pe_ex (p := fun p : Nat × Own => p.1 < xs.length) (t := fun p => tD (ω ++ p.2) (ρb p.1) (DL.I (vf p.1)) (ω ++ p.2)) fun p hp => hv s H C cl fp p.1 p.2 hp) hs) fun σ H Q ⟨hE, q⟩ => ⟨hE, fun J H1 x1 wk D nD => ?_⟩
  have E1 : EOk ω ρ σ H1 := hE.xt x1
  have hfree : ∀ a ∈ dom ω ++ [D], a ∉ dom ω → H1 a = none := fun a ha n => by
    rcases List.mem_append.mp ha with z | z
    · exact absurd z n
    · have : a = D := by simpa using z
      rw [this]; exact nD
  have wk' := wk.w (dom ω ++ [D]) (fun _ h => List.mem_append_left _ h) hfree
  have ed : ∀ i, dom (ω ++ [(D, OC.dk (kvR kf vf i))]) = dom ω ++ [D] := fun i => by rw [dom_app]; rfl
  let Pv : Nat → Hp → Prop := fun i H2 => Keep (dom ω) H1 H2 ∧ EOk (ω ++ [(D, OC.dk (kvR kf vf i))]) (wipeR ρ (own.map (·.2))) (wipe σ (own.map (·.2))) H2
  have hG : ∀ i H2, Pv i H2 → Keep (dom ω ++ [D]) H1 H2 ∧ ∀ a ∈ dom ω ++ [D], H2 a ≠ none := fun i H2 hv => by
    refine ⟨fun b o nb hb => hv.1 b o (fun z => nb (List.mem_append_left _ z)) hb, fun a ha z => ?_⟩
    obtain ⟨o, eo⟩ := hv.2.own.some (by rw [ed]; exact ha)
    rw [z] at eo; cases eo
  refine ⟨fun i m H => m = xs.length - i ∧ i ≤ xs.length ∧ Pv i H, ⟨xs.length, by simp, Nat.zero_le _, .upd nD, (E1.wipe _).snoc nD L2.upd_same⟩, ?_⟩
  rintro i m H2 ⟨rfl, hi', hP⟩
  by_cases hlt : i < xs.length
  · refine .inr ⟨wk'.goes i H2 hlt (hG i H2 hP), Pv (i + 1), fun H' p' => ⟨xs.length - (i + 1), by omega, rfl, hlt, p'⟩, fun x H3 y => ?_⟩
    obtain ⟨en, he, hqt, hr⟩ := wk'.yields i H2 x H3 hlt (hG i H2 hP) y
    obtain ⟨kp, E2⟩ := hP
    have x3 : Xt (ω ++ [(D, OC.dk (kvR kf vf i))]) H2 (ω ++ [(D, OC.dk (kvR kf vf i))]) H3 :=
      ⟨rfl, E2.own.keep (by rw [ed]; exact hqt.1) (by rw [ed]; exact hqt.2), by rw [ed]; exact hqt.1⟩
    refine (hb i en he).go (ω ++ [(D, OC.dk (kvR kf vf i))]) x _ H3 _ (E2.xt x3) (by rw [ed]; exact hr) fun σ3 E3 hs3 hl3 => ⟨?_, ?_⟩
    · rw [wipe_eq hl3 hS hs3, wipe_wipe]
    · refine ⟨(i, [(D, OC.dk (kvR kf vf i))]), hlt, E3, fun H4 x4 => iteT ⟨(i, [(D, OC.dk (kvR kf vf i))]), hlt, E3.xt x4, fun v H5 x5 r5 => ⟨(i, [(D, OC.dk (kvR kf vf i))]), hlt, (E3.xt x4).xt x5, fun u H6 x6 r6 => ?_⟩⟩⟩
      have x36 := (x4.trans x5).trans x6
      have ek : v = .str (kf i) := RE.str r5
      have ev : u = .int (vf i) := RE.int r6
      subst ek ev
      have eD : H6 D = some (.dK (kvR kf vf i)) := x6.own.at_ (D, OC.dk (kvR kf vf i)) (by simp)
      refine ⟨kvR kf vf i, .inr (kf i), rfl, eD, small1000 (by rw [kvR_len]; omega), ?_, ?_⟩
      · intro b o nb hb'
        have nbD : b ≠ D := ne_of_none hb' nD
        have nb' : b ∉ dom (ω ++ [(D, OC.dk (kvR kf vf i))]) := by
          rw [ed]
          exact fun z => (List.mem_append.mp z).elim nb fun z => nbD (by simpa using z)
        rw [L2.upd_ne nbD]
        exact x36.keep b o nb' (x3.keep b o nb' (kp b o nb hb'))
      · have E6 : EOk (ω ++ [(D, OC.dk (kvR kf vf i))]) (wipeR ρ (own.map (·.2))) (wipe σ (own.map (·.2))) H6 := (E2.xt x3).xt x36
        have en : putK (kvR kf vf i) (.inr (kf i)) (.int (vf i)) = kvR kf vf (i + 1) := by
          rw [put_new (fun p hp z => ?_), kvR_succ]
          unfold kvR at hp
          obtain ⟨j, hj, rfl⟩ := List.mem_map.mp hp
          rw [List.mem_range] at hj
          exact hinj j i hj hlt (by simpa using z)
        rw [en]
        exact EOk.put (ωa := ω) (ωb := []) (p := D) (c := OC.dk (kvR kf vf i)) (c' := OC.dk (kvR kf vf (i + 1))) E6 L2.upd_same
  · have en : i = xs.length := by omega
    subst en
    refine .inl ⟨wk'.stops H2 (hG _ H2 hP), ?_⟩
    obtain ⟨kp, E2⟩ := hP
    refine q D H2 ?_ (x1.keep.trans kp) ⟨E2.own, hE.len, fun j ee h => ?_⟩
    · have nd := x1.own.fresh nD
      cases hD : H D with
      | none => rfl
      | some o =>
        have := x1.keep D o nd hD
        rw [nD] at this
        cases this
    · obtain ⟨v, h1, h2⟩ := E1.val j ee h
      exact ⟨v, h1, by rw [ed]; exact h2.hideMore nD kp⟩
/-! ### such a dict, asked -/
theorem call_lenK : CallR X (.builtin "len") (fun xs H Q => ∃ p kvs, xs = [.ref p] ∧ Rd H p (.dK kvs) ∧ Q (.int ((kvs.length : Nat) : Int)) H) := by
  intro pins s σ H xs us Q I r h
  obtain ⟨p, kvs, rfl, e, q⟩ := h
  obtain ⟨u, rfl, rx⟩ := vals1 r
  obtain rfl : u = .ref p := rx
  exact d_len I e fun t s' I' => ⟨.int ((kvs.length : Nat) : Int), H, I', ⟨t, rfl⟩, q⟩
variable {d : Addr} {kvs : List (Key × V)} {x : Str}
theorem de_lenK (hm : X.mg "len" = none) (h : DE X ω ρ a (.own d) ω1) (hd : (d, OC.dk kvs) ∈ ω1) (hg : Gl X "len" := by rfl) (he : starEach [a] X.env = (false, eval a X.env) :: starEach [] X.env := by rfl) (hpl : (backTo pos (starEach [] X.env)).any (·.1) = false := by rfl) : DE X ω ρ (.Call (.Name "len" p2) [a] [] pos) (DL.I (kvs.length : Nat)) ω1 :=
  pe_w (pe_callB call_lenK hg hm boot_len (da_cons h da_nil he) (by decide) (by decide) he hpl) fun σ H Q ⟨hE, q⟩ => ⟨hE, fun vs H1 x1 r1 => by
    obtain ⟨v, rfl, r⟩ := REs.one r1
    have r : v = .ref d := r
    subst r
    exact ⟨d, kvs, rfl, .inl (x1.own.at_ _ hd), q _ H1 x1 (.ofInt _)⟩⟩
theorem dt_inK (hu : X.A.units + 1 < cLine) (h : DE X ω ρ a (S x) ω1) (ho : DE X ω1 ρ b (.own d) ω2) (hd : (d, OC.dk kvs) ∈ ω2) (hm : behindInMarks .In b = false := by rfl) : DT X ω ρ (.Compare a [.In] [b] pos) (valV kvs (.inr x)).isSome ω2 :=
  pt_w (pt_cmp (pc_din hu h ho) hm) fun σ H Q ⟨hE, q⟩ => ⟨hE, fun v H1 x1 r1 => by
    have ev := r1.str
    subst ev
    refine ⟨hE.xt x1, fun w H2 x2 r2 => ?_⟩
    have r2 : w = .ref d := r2
    subst r2
    exact ⟨d, _, rfl, DGet.k (k := .inr x) (x2.own.at_ _ hd), _, rfl, q H2 (x1.trans x2)⟩⟩
theorem dt_notinK (hu : X.A.units + 1 < cLine) (h : DE X ω ρ a (S x) ω1) (ho : DE X ω1 ρ b (.own d) ω2) (hd : (d, OC.dk kvs) ∈ ω2) (hm : behindInMarks .NotIn b = false := by rfl) : DT X ω ρ (.Compare a [.NotIn] [b] pos) (!(valV kvs (.inr x)).isSome) ω2 :=
  pt_w (pt_cmp (pc_dnotin hu h ho) hm) fun σ H Q ⟨hE, q⟩ => ⟨hE, fun v H1 x1 r1 => by
    have ev := r1.str
    subst ev
    refine ⟨hE.xt x1, fun w H2 x2 r2 => ?_⟩
    have r2 : w = .ref d := r2
    subst r2
    exact ⟨d, _, rfl, DGet.k (k := .inr x) (x2.own.at_ _ hd), _, rfl, q H2 (x1.trans x2)⟩⟩
theorem de_kget {n : Int} (hu : X.A.units + 1 < cLine) (ho : DE X ω ρ a (.own d) ω1) (h : DE X ω1 ρ b (S x) ω2) (hd : (d, OC.dk kvs) ∈ ω2) (hv : valV kvs (.inr x) = some (.int n)) (hs : NoSl b := by exact fun _ _ => rfl) : DE X ω ρ (.Subscript a b pos) (DL.I n) ω2 :=
  pe_w (pe_dget hu ho h hs) fun σ H Q ⟨hE, q⟩ => ⟨hE, fun w H1 x1 r1 => by
    have r1 : w = .ref d := r1
    subst r1
    refine ⟨hE.xt x1, fun v H2 x2 r2 => ?_⟩
    have ev := r2.str
    subst ev
    refine ⟨d, .int n, rfl, ?_, q _ H2 (x1.trans x2) (.ofInt _)⟩
    have g := DGet.k (k := .inr x) (x2.own.at_ (d, OC.dk kvs) hd)
    rw [hv] at g
    exact g⟩
end
end ZM

set_option Elab.async false
set_option linter.all false
set_option maxRecDepth 100000
set_option maxHeartbeats 2000000
namespace ZM
open PySem PySem.Spec PyProof.Rows L2 DL CB
section
variable {X : Cx} {a b c : Expr} {es : List Expr} {ω ω1 ω2 : Own} {ρ ρ1 : Rho} {pos p2 apos cpos : Pos} {e : Ent} {d : Addr} {ds : List PyData}
/-! ### an owned list: as a test, pop -/
theorem dt_truthL (h : DE X ω ρ a (.own d) ω1) (hd : (d, OC.lst ds) ∈ ω1) (he : ∀ whole, isTrue a X.env whole = (do let v ← whole; standAt a.pos; holding [v] (truthy v)) := by intro _; rfl) : DT X ω ρ a (!ds.isEmpty) ω1 :=
  pt_w (pt_truth h he) fun σ H Q ⟨hE, q⟩ => ⟨hE, fun v H1 x1 r1 => by
    have r1 : v = .ref d := r1
    subst r1
    obtain ⟨xs, e1, r⟩ := x1.own.at_ (d, OC.lst ds) hd
    refine ⟨!xs.isEmpty, .inl ⟨xs, SqL.of e1, rfl⟩, ?_⟩
    have ee : xs.isEmpty = ds.isEmpty := by
      cases r with
      | nil => rfl
      | cons _ _ => rfl
    rw [ee]
    exact q H1 x1⟩
theorem all_snoc {H : Hp} {d : PyData} : ∀ {ds : List PyData} {xs : List V}, RpAll H xs (ds ++ [d]) → ∃ ys v, xs = ys ++ [v] ∧ RpAll H ys ds ∧ Rp H v d
  | [], _, h => by
    cases h with
    | cons r t => cases t; exact ⟨[], _, rfl, .nil, r⟩
  | _ :: ds, _, h => by
    cases h with
    | cons r t =>
      obtain ⟨ys, v, rfl, r2, r3⟩ := all_snoc t
      exact ⟨_ :: ys, v, rfl, .cons r r2, r3⟩
theorem de_pop {dd : PyData} (ωa ωb : Own) (h0 : ω1 = ωa ++ (d, .lst (ds ++ [dd])) :: ωb) (ho : DE X ω ρ a (.own d) ω1) (h1 : ω2 = ωa ++ (d, .lst ds) :: ωb)
    (hbase : attributeBase a "pop" X.env (eval a X.env) = eval a X.env := by rfl) (hline : (apos.endLine == cpos.line) = true := by rfl) : DE X ω ρ (.Call (.Attribute a "pop" apos) [] [] cpos) (.dat dd) ω2 := by
  subst h0 h1
  refine pe_w (pe_bm0 PySem.F.plainAttrs_list PySem.F.slot_list_pop PySem.F.type_list_pop mt_pop ho hbase hline) fun σ H Q ⟨hE, q⟩ => ⟨hE, fun v H1 x1 r1 => ?_⟩
  have r1 : v = .ref d := r1
  subst r1
  obtain ⟨xs, e1, r⟩ := x1.own.at_ (d, .lst (ds ++ [dd])) (by simp)
  obtain ⟨ys, v, rfl, r2, r3⟩ := all_snoc r
  refine ⟨.inl ⟨rfl, _, SqL.of e1⟩, d, _, v, rfl, rfl, e1, by simp, ?_⟩
  have hp : d ∈ dom (ωa ++ (d, OC.lst (ds ++ [dd])) :: ωb) := by simp [dom]
  have hc : HC (dom (ωa ++ (d, OC.lst (ds ++ [dd])) :: ωb)) (L2.upd H1 d (.lst ys)) d (.lst ds) := ⟨ys, L2.upd_same, by rw [hide_upd_in hp]; exact r2⟩
  have x2 := Xt.put x1.own hc
  rw [List.dropLast_concat]
  refine q v _ (x1.trans x2) ?_
  have ed : dom (ωa ++ (d, OC.lst ds) :: ωb) = dom (ωa ++ (d, OC.lst (ds ++ [dd])) :: ωb) := by simp [dom]
  rw [ed]
  show Rp (hide _ (L2.upd H1 d (.lst ys))) v dd
  rw [hide_upd_in hp]
  exact r3
/-! ### tuples -/
theorem all_nil {H : Hp} {xs : List V} {ds : List PyData} (r : RpAll H xs ds) : xs = [] ↔ ds = [] := by
  cases r with
  | nil => simp
  | cons _ _ => simp
theorem o_catA {d e : List PyData} (hz : d.length + e.length ≤ sizeLine) : Op2 X (binaryOp .Add) (.dat (.tuple d)) (.dat (.tuple e)) (.dat (.tuple (d ++ e))) :=
  ⟨_, op_catA, fun ω x y H Q o rx ry q => by
    have hx := rx
    have hy := ry
    obtain ⟨p, xs, rfl, n, e1, r⟩ := rx.tup
    obtain ⟨p', ys, rfl, n', e2, r'⟩ := ry.tup
    refine ⟨p, p', xs, ys, rfl, rfl, SqT.of e1, SqT.of e2, by rw [r.length, r'.length]; exact hz, fun z => ?_, fun _ z => ?_, fun _ _ t nt => ?_⟩
    · have z := (all_nil r).mp z
      subst z
      exact q _ H (.refl o) hy
    · have z := (all_nil r').mp z
      subst z
      rw [List.append_nil] at q
      exact q _ H (.refl o) hx
    · exact q _ _ (Xt.upd o nt) (.newT o nt (r.append r'))⟩
theorem o_repT1 {d : PyData} {k : Int} (hk : 2 ≤ k ∧ k ≤ 1000) : Op2 X (binaryOp .Mult) (.dat (.tuple [d])) (DL.I k) (.dat (.tuple (List.replicate k.toNat d))) :=
  ⟨_, op_repT, fun ω x y H Q o rx ry q => by
    obtain ⟨p, xs, rfl, n, e1, r⟩ := rx.tup
    cases ry.int
    cases r with
    | cons r t =>
      cases t
      refine ⟨p, k, _, rfl, rfl, SqT.of e1, by simp, hk.1, hk.2, by simp, fun t nt => ?_⟩
      refine q _ _ (Xt.upd o nt) (.newT o nt ?_)
      have key : ∀ n : Nat, RpAll (hide (dom ω) H) (List.replicate n [_]).flatten (List.replicate n d) := fun n => by
        induction n with
        | zero => exact .nil
        | succ n ih =>
          rw [List.replicate_succ, List.replicate_succ, List.flatten_cons]
          exact .cons r ih
      exact key _⟩
theorem cut_dropT {ds : List PyData} {i : Int} (ha : DE X ω ρ a (.dat (.tuple ds)) ω) (hb : DE X ω ρ b (DL.I i) ω) (h : 0 ≤ i) : DE X ω ρ (.Subscript a (.Slice (some b) none none p2) pos) (.dat (.tuple (ds.drop i.toNat))) ω := by
  rw [← cut_drop ds h]
  exact de_sliceT ha (dp_some hb) dp_none
/-! ### texts -/
theorem de_partition {x y : Str} (ha : DE X ω ρ a (S x) ω1) (hb : DE X ω1 ρ b (S y) ω2) (h0 : (y.length == 0) = false) (hz : x.length ≤ sizeLine)
    (hbase : attributeBase a "partition" X.env (eval a X.env) = eval a X.env := by rfl)
    (hfew : ((backTo cpos (starEach [b] X.env)).all (fun x => !x.1) && (backToKw cpos (keywordEach [] X.env)).all (fun x => x.1.isSome)
      && decide ([b].length + ([] : List Keyword).length + (if ([] : List Keyword).isEmpty then 0 else 1) < 30)) = true := by rfl)
    (hline : (apos.endLine == cpos.line) = true := by rfl) (hs : starEach [b] X.env = (false, eval b X.env) :: starEach [] X.env := by rfl) (hplain : (backTo cpos (starEach [] X.env)).any (·.1) = false := by rfl) :
    DE X ω ρ (.Call (.Attribute a "partition" apos) [b] [] cpos) (.dat (.tuple [.str (Txt.partition x y).1, .str (Txt.partition x y).2.1, .str (Txt.partition x y).2.2])) ω2 :=
  pe_w (pe_bm PySem.F.plainAttrs_str PySem.F.slot_str_partition PySem.F.type_str_partition mt_partition ha (pa_cons hb pa_nil hs) hbase hfew hline hs hplain) fun σ H Q ⟨hE, q⟩ => ⟨hE, fun v H1 x1 r1 => by
    have e1 := r1.str
    subst e1
    refine ⟨rfl, hE.xt x1, fun v H2 x2 r2 => ?_⟩
    have e2 := r2.str
    subst e2
    exact ⟨x, y, rfl, rfl, h0, hz, fun p np => q _ _ ((x1.trans x2).trans (Xt.upd x2.own np)) (.newT x2.own np (.cons (.str _) (.cons (.str _) (.cons (.str _) .nil))))⟩⟩
theorem empty_app (x : Str) : Str.empty ++ x = x := by
  rw [← SX.S_tl x, show Str.empty = SX.S [] from rfl, SX.S_cat, List.nil_append]
theorem app_len (x y : Str) : (x ++ y).length = x.length + y.length := by
  rw [← SX.S_tl x, ← SX.S_tl y, SX.S_cat, SX.S_len, SX.S_len, SX.S_len, List.length_append]
/-- f'{a}..{b}' of two numbers -/
theorem de_fsI {x : Str} {i j : Int} {k : Nat} {p3 p4 : Pos} (ha : DE X ω ρ a (DL.I i) ω) (hb : DE X ω ρ b (DL.I j) ω) (hi : i.natAbs.log2 < 1920) (hj : j.natAbs.log2 < 1920) (hz : ((toString i : String) : Str).length + x.length + ((toString j : String) : Str).length ≤ sizeLine) :
    DE X ω ρ (.JoinedStr [.FormattedValue a (-1) none p2, .Constant (.str x) k p3, .FormattedValue b (-1) none p4] pos) (S (((toString i : String) : Str) ++ x ++ ((toString j : String) : Str))) ω := by
  refine pe_w (pe_joined (.cons (pe_fmt ha) (.cons pe_str (.cons (pe_fmt hb) .nil)))) fun σ H Q ⟨hE, q⟩ => ⟨hE, fun v H1 x1 r1 => .inr ⟨i, r1.int, hi, _, rfl, ?_, ?_⟩⟩
  · rw [empty_app]
    omega
  · rw [empty_app]
    refine ⟨x, rfl, by rw [app_len]; omega, hE.xt x1, fun w H2 x2 r2 => .inr ⟨j, r2.int, hj, _, rfl, by rw [app_len, app_len]; omega, ?_⟩⟩
    exact q _ H2 (x1.trans x2) (Rp.str _)
theorem bnd_tri {K : PySem.W.Frag} {i j l : Nat} {d e f : PyData} : Bnd K (gTup K 3 (gCons (gName i) (gCons (gName j) (gCons (gName l) gNil)))) [i, j, l] (.dat (.tuple [d, e, f])) ρ (((ρ.set i (some (.dat d))).set j (some (.dat e))).set l (some (.dat f))) :=
  ⟨fun ω v σ H Q E r q => by
    obtain ⟨p, xs, rfl, n, ee, r⟩ := r.tup
    cases r with
    | cons r1 rr =>
      cases rr with
      | cons r2 rr =>
        cases rr with
        | cons r3 rr =>
          cases rr
          refine ⟨p, _, rfl, SqT.of ee, rfl, _, _, rfl, _, _, rfl, _, _, rfl, rfl, ?_⟩
          refine q _ (((E.set (e := .dat d) r1).set (e := .dat e) r2).set (e := .dat f) r3) (fun k hk => ?_) (by rw [List.length_set, List.length_set, List.length_set])
          rw [List.getElem?_set_ne fun z => hk (by simp [z]), List.getElem?_set_ne fun z => hk (by simp [z]), List.getElem?_set_ne fun z => hk (by simp [z])]⟩
end
end ZM

set_option Elab.async false
set_option linter.all false
set_option maxRecDepth 100000
set_option maxHeartbeats 2000000
namespace ZM
open PySem PySem.Spec PyProof.Rows L2 DL CB
/-! ### known.count(True), known.index(True) -/
def isT : Value → Bool
  | .bool b => b == true
  | _ => false
def rCntB (K : PySem.W.Frag) : V → List V → Hp → VK → Prop := fun x xs H Q => ∃ (p : Addr) (bs : List Bool), x = .ref p ∧ xs = [.bl true] ∧ SqL K H p (bs.map V.bl) ∧ Q (.int (bs.count true : Nat)) H
theorem isT_eq {A : Around} {s : Shared} : ∀ {us : List Value} {bs : List Bool}, Vals (bs.map V.bl) us → ∀ y ∈ us, SeqAt.EqAt A s y (.bool true) (isT y)
  | _, [], h => fun y hy => by cases h; cases hy
  | _, b :: bs, h => fun y hy => by
    rw [List.map_cons] at h
    cases h with
    | cons r t =>
      rcases List.mem_cons.mp hy with e | e
      · subst e
        obtain rfl : y = .bool b := r
        exact SeqAt.EqAt.bool_bool b true
      · exact isT_eq t y e
theorem isT_count : ∀ {us : List Value} {bs : List Bool}, Vals (bs.map V.bl) us → us.countP isT = bs.count true
  | _, [], h => by cases h; rfl
  | _, b :: bs, h => by
    rw [List.map_cons] at h
    cases h with
    | cons r t =>
      rename_i u us
      obtain rfl : u = .bool b := r
      rw [List.countP_cons, List.count_cons, isT_count t]
      rfl
theorem mt_lcountB {X : Cx} : MtR X "list.count" (rCntB X.K) := by
  intro pins s σ H x xs v us Q I rx rxs h
  obtain ⟨p, bs, rfl, rfl, hs, q⟩ := h
  cases rx
  obtain ⟨u, rfl, ru⟩ := rxs.one
  obtain rfl : u = .bool true := ru
  obtain ⟨its, rv, ⟨⟨_, dd, _, sl⟩, n, ho, hcl, hdn, hda⟩, hlen⟩ := I.list hs
  obtain rfl : _ = Value.type "list" := hcl
  obtain rfl : _ = Data.seq its.toArray n := hda
  have ec : (its.toArray.toList.countP isT : Nat) = bs.count true := isT_count rv
  have hm := SeqAt.list_countAt p its.toArray n dd sl (.bool true) isT
  refine call_meets PySem.F.slot_list_count ⟨_, ho, rfl⟩ PySem.F.entry_list_count (PySem.F.args_list_count_2 _ _) hm ⟨ho, fun y hy => isT_eq rv y (by simpa using hy), .int (bs.count true : Nat), H, I.tok _, ⟨s.toks, ?_⟩, q⟩
  rw [ec]
section
variable {X : Cx} {a b : Expr} {ω ω1 ω2 : Own} {ρ : Rho} {apos cpos : Pos}
theorem de_countB {bs : List Bool} (ha : DE X ω ρ a (.dat (.list (bs.map .bool))) ω1) (hb : DE X ω1 ρ b (B true) ω2)
    (hbase : attributeBase a "count" X.env (eval a X.env) = eval a X.env := by rfl)
    (hfew : ((backTo cpos (starEach [b] X.env)).all (fun x => !x.1) && (backToKw cpos (keywordEach [] X.env)).all (fun x => x.1.isSome)
      && decide ([b].length + ([] : List Keyword).length + (if ([] : List Keyword).isEmpty then 0 else 1) < 30)) = true := by rfl)
    (hline : (apos.endLine == cpos.line) = true := by rfl) (hs : starEach [b] X.env = (false, eval b X.env) :: starEach [] X.env := by rfl) (hplain : (backTo cpos (starEach [] X.env)).any (·.1) = false := by rfl) :
    DE X ω ρ (.Call (.Attribute a "count" apos) [b] [] cpos) (DL.I (bs.count true : Nat)) ω2 :=
  pe_w (pe_bm PySem.F.plainAttrs_list PySem.F.slot_list_count PySem.F.type_list_count mt_lcountB ha (pa_cons hb pa_nil hs) hbase hfew hline hs hplain) fun σ H Q ⟨hE, q⟩ => ⟨hE, fun x H1 x1 r1 => by
    obtain ⟨p, xs, rfl, n, e, r⟩ := r1.lst
    have ex := RpAll.bools r
    subst ex
    refine ⟨.inl ⟨rfl, _, SqL.of e⟩, hE.xt x1, fun v H2 x2 r2 => ?_⟩
    have ev : v = .bl true := r2.bool
    subst ev
    exact ⟨p, bs, rfl, rfl, SqL.of (x2.keep p _ n e), q _ H2 (x1.trans x2) (.ofInt _)⟩⟩
theorem flat_bools : ∀ bs : List Bool, (bs.map V.bl).all flatV = true
  | [] => rfl
  | _ :: bs => by show (true && (bs.map V.bl).all flatV) = true; rw [flat_bools bs]; rfl
theorem de_indexB {bs : List Bool} (j : Nat) (ha : DE X ω ρ a (.dat (.list (bs.map .bool))) ω1) (hb : DE X ω1 ρ b (B true) ω2) (hj : bs[j]? = some true) (hno : ∀ m, m < j → bs[m]? = some false)
    (hbase : attributeBase a "index" X.env (eval a X.env) = eval a X.env := by rfl)
    (hfew : ((backTo cpos (starEach [b] X.env)).all (fun x => !x.1) && (backToKw cpos (keywordEach [] X.env)).all (fun x => x.1.isSome)
      && decide ([b].length + ([] : List Keyword).length + (if ([] : List Keyword).isEmpty then 0 else 1) < 30)) = true := by rfl)
    (hline : (apos.endLine == cpos.line) = true := by rfl) (hs : starEach [b] X.env = (false, eval b X.env) :: starEach [] X.env := by rfl) (hplain : (backTo cpos (starEach [] X.env)).any (·.1) = false := by rfl) :
    DE X ω ρ (.Call (.Attribute a "index" apos) [b] [] cpos) (DL.I (j : Nat)) ω2 :=
  pe_w (pe_bm PySem.F.plainAttrs_list PySem.F.slot_list_index PySem.F.type_list_index mt_index ha (pa_cons hb pa_nil hs) hbase hfew hline hs hplain) fun σ H Q ⟨hE, q⟩ => ⟨hE, fun x H1 x1 r1 => by
    obtain ⟨p, xs, rfl, n, e, r⟩ := r1.lst
    have ex := RpAll.bools r
    subst ex
    refine ⟨.inl ⟨rfl, _, SqL.of e⟩, hE.xt x1, fun v H2 x2 r2 => ?_⟩
    have ev : v = .bl true := r2.bool
    subst ev
    refine ⟨p, bs.map V.bl, .bl true, j, .bl true, rfl, rfl, SqL.of (x2.keep p _ n e), rfl, flat_bools bs, by rw [List.getElem?_map, hj]; rfl, rfl, fun m z' hm hz => ?_, q _ H2 (x1.trans x2) (.ofInt _)⟩
    rw [List.getElem?_map, hno m hm] at hz
    cases hz
    rfl⟩
end
/-! ### what stays of an entry when more is owned -/
theorem RE.grow {O O' : List Addr} {H H' : Hp} (hO : ∀ a ∈ O', a ∉ O → H a = none) (k : Keep O H H') {e : Ent} {v : V} (r : RE O H e v) : RE O' H' e v := by
  have ho : ∀ {a : Addr} {o : HO}, a ∉ O → H a = some o → a ∉ O' := fun n h z => by rw [hO _ z n] at h; cases h
  cases e with
  | dat d =>
    refine Rp.mono (fun b o h => ?_) d v r
    obtain ⟨h1, h2⟩ := hide_some h
    rw [hide_out (ho h1 h2)]
    exact k b o h1 h2
  | dct kvs =>
    obtain ⟨a, e, n, q⟩ := r
    refine ⟨a, e, ?_, k.rd n q⟩
    rcases q with q | ⟨u, q⟩
    · exact ho n q
    · exact ho n q
  | dctA a kvs =>
    obtain ⟨e, n, o, q⟩ := r
    exact ⟨e, ho n q, o, k _ _ n q⟩
  | raw a => exact r
theorem xt_free {ω ω' : Own} {H H' : Hp} (x : Xt ω H ω' H') {d : Addr} (h : H' d = none) : H d = none := by
  cases e : H d with
  | none => rfl
  | some o =>
    by_cases z : d ∈ dom ω
    · obtain ⟨u, hu⟩ := x.own.some (a := d) (by rw [x.dm]; exact z)
      rw [h] at hu
      cases hu
    · have := x.keep d o z e
      rw [h] at this
      cases this
end ZM

set_option Elab.async false
set_option linter.all false
set_option maxRecDepth 100000
set_option maxHeartbeats 2000000
namespace ZM
open PySem PySem.Spec PyProof.Rows L2 DL CB
/-! ### try: a() .. except x as n: suite, that returns -/
theorem told_suite {X : Cx} {Ng : List Str} {x a ex n q word : Str} {sg : Scope} {g CS C : Addr} {cdg : Value} {p1 p2 p3 p4 p7 p8 : Pos} {s0 : Stmt} {suite rest : List Stmt} (nd : Ng.Nodup) (hN1 : Ng[1]? = some n) (hge : sg.names.lookup ex = some .globalImplicit) (hme : X.mg ex = some (.ref CS)) (hde : (ex == ("__debug__" : Str)) = false)
    (hln : ∀ (s : Shared) (H : Hp), (cxOf C8.CX0 X.prog X.w X.K X.mg X.base Ng x sg g cdg X.A X.stack s H C8.E0).env.kindOf n = some .local)
    (h0 : ∀ f : Addr, (L2.start Ng [V.ref f])[0]? = some (some (V.ref f))) (hex : PySem.W.exmOne X.K (.ref C) (.ref CS) = some true)
    (hsu : ∀ (s : Shared) (H : Hp) (a : Addr) (oe : Obj) (pn : List (Addr × Obj)), Zc (.ref C) none oe → (∃ vs, oe.data = .fields vs) →
      DR ((cxOf C8.CX0 X.prog X.w X.K X.mg X.base Ng x sg g cdg X.A X.stack s H C8.E0).nox.suite a ((a, oe) :: pn)) [] ((List.replicate Ng.length none).set 1 (some (.raw (.ref a)))) (s0 :: suite) (S word) []) :
    LamX.GivesTo X Ng x sg g cdg (.Try [.Expr (.Call (.Name a p1) [] [] p2) p3] [.ExceptHandler (some (.Name ex p4)) (some n) (s0 :: suite) p7] [] [] p8 :: rest) a q (TTw CS C word) := by
  intro f c' s H Q tl act hc h
  have hgl : Gl (cxOf C8.CX0 X.prog X.w X.K X.mg X.base Ng x sg g cdg X.A X.stack s H C8.E0).nox ex := hge
  refine ⟨_, pss_cons (ps_try_as (X := (cxOf C8.CX0 X.prog X.w X.K X.mg X.base Ng x sg g cdg X.A X.stack s H C8.E0).nox) (c := .ref CS) (i := 1)
      (tb := fun W D σ H => ∃ Ech : XK, (∀ cls d σ' H', Ech cls d H' → W cls d σ' H') ∧ σ[0]? = some (some (.ref f)) ∧ H c' = some (LamX.CodeO c' q) ∧ ∀ Q', tl Ech H Q')
      (ts := fun a cls d D σ H => cls = .ref C ∧ d = none ∧ (1 < σ.length → σ[1]? = some (some (.ref a))) ∧ ∀ H2, Keep [] H H2 → D.rt (.str word) H2)
      rfl rfl nd hN1 (hln s H) ⟨hgl, hde, .inl hme⟩ LamX.takes0 (fun W pn xe tk _ => ?_) (fun a oe cls d pn hz hf => ?_)) pss_never, ?_⟩
  · refine ⟨fun pins s' σ H' D I h' => ?_⟩
    obtain ⟨Ech, hW, h1, h2, h3⟩ := h'
    have hp := act W pn xe Ech p1 p2 tk hW
    have hq := pss_one (ps_expr (pos := p3) hp)
    exact hq.run pins s' σ H' D I ⟨h1, h2, h3 _⟩
  · refine ⟨fun pins s' σ H' D I h' => ?_⟩
    obtain ⟨e1, e2, h1, h2⟩ := h'
    subst e1 e2
    have hl : σ.length = Ng.length := I.len
    have hlt : 1 < Ng.length := (List.getElem?_eq_some_iff.mp hN1).1
    have hq := hsu s H a oe pn hz hf
    refine hq.run pins s' σ H' D I ⟨⟨⟨.nil, fun p hp => nomatch hp⟩, by rw [List.length_set, List.length_replicate, hl], fun i e hi => ?_⟩, fun v H2 k2 o2 r2 => ?_⟩
    · by_cases z : i = 1
      · subst z
        rw [List.getElem?_set_self (by rw [List.length_replicate]; exact hlt)] at hi
        cases hi
        exact ⟨_, h1 (by omega), rfl⟩
      · rw [List.getElem?_set_ne (by omega)] at hi
        rw [List.getElem?_replicate] at hi
        split at hi <;> cases hi
    · have ev : v = .str word := RE.str r2
      subst ev
      exact h2 H2 k2
  · refine ⟨fun cls d H' => cls = .ref C ∧ d = none ∧ ∀ H2, Keep [] H' H2 → Q (.str word) H2, fun cls d σ' H' ⟨e1, e2, e3⟩ => ⟨true, by rw [e1]; exact hex, fun _ a ha => ⟨e1, e2, fun hl => ?_, e3⟩, fun z => nomatch z⟩, h0 f, hc, h⟩
    rw [List.length_set] at hl
    exact List.getElem?_set_self hl
/-! ### the law's block with lambdas in it: tests, ifs, a loop -/
def tTT (T : List (Addr × Str)) (ω : Own) (ρ : Rho) (b : Bool) (ω' : Own) : TT := fun σ H Q => EOk ω ρ σ H ∧ LamX.Tabs T H ∧ ∀ H', EOk ω' ρ σ H' → LamX.Tabs T H' → Q b H'
def tX (T : List (Addr × Str)) (ω : Own) (ρ : Rho) (post : Own → Rho → Prop) : TS := fun D σ H => EOk ω ρ σ H ∧ LamX.Tabs T H ∧ ∀ ω' ρ' σ' H', post ω' ρ' → EOk ω' ρ' σ' H' → LamX.Tabs T H' → D.nx σ' H'
section
variable {X : Cx} {a b c : Expr} {es : List Expr} {ω ω1 ω2 : Own} {ρ ρ1 ρ' : Rho} {T : List (Addr × Str)} {s : Stmt} {ss body els : List Stmt} {pos p2 p3 : Pos} {word : Str} {k : Bool} {post : Own → Rho → Prop}
theorem tt_of (h : DT X ω ρ c k ω1) : PT X c (tTT T ω ρ k ω1) := pt_w h fun σ H Q ⟨hE, hT, q⟩ => ⟨hE, fun H1 x1 => q H1 (hE.xt x1) (tabs_keep hT hE.own x1.keep)⟩
theorem tt_told {j : Nat} (h : PE X a (tTl T ω ρ word ω1)) (hm : behindInMarks .NotEq (.Constant (.str word) j p2) = false := by first | exact nomark _ | with_unfolding_all rfl) : PT X (.Compare a [.NotEq] [.Constant (.str word) j p2] p3) (tTT T ω ρ false ω1) := by
  obtain ⟨r, h1, h3⟩ := (o_neSF (X := X) (x := word) rfl).ex
  refine pt_w (pt_cmpR h1 h (de_str (ω := ω1) (ρ := ρ) (x := word) (j := j) (pos := p2)) hm) fun σ H Q ⟨hE, hT, q⟩ => ⟨hE, hT, fun H1 E1 T1 => ⟨E1, fun v H2 x2 r2 => ?_⟩⟩
  refine h3 ω1 (.str word) v H2 _ x2.own (Rp.str _) r2 fun v3 H3 x3 r3 => ⟨false, RE.bool r3, ?_⟩
  exact q H3 ((E1.xt x2).xt x3) (tabs_keep (tabs_keep T1 E1.own x2.keep) x2.own x3.keep)
theorem tw_or (h : PT X a (tTT T ω ρ false ω1)) (h2 : PW X (.BoolOp .Or (b :: es) pos) (tTT T ω1 ρ k ω2)) : PW X (.BoolOp .Or (a :: b :: es) pos) (tTT T ω ρ k ω2) :=
  pw_w (pw_or h h2) fun σ H Q ⟨hE, hT, q⟩ => ⟨hE, hT, fun H1 E1 T1 => iteF ⟨E1, T1, q⟩⟩
theorem df_iff (h : PT X c (tTT T ω ρ false ω1)) (h2 : PSs X ss (tDF T ω1 ρ)) : PSs X (.If c body [] pos :: ss) (tDF T ω ρ) :=
  pss_w (pss_cons (ps_if h pss_never pss_nil) h2) fun D σ H ⟨hE, hT, q⟩ => ⟨hE, hT, fun H1 E1 T1 => iteF ⟨E1, T1, q⟩⟩
theorem df_consX (h : PS X s (tX T ω ρ post)) (h2 : ∀ ω' ρ', post ω' ρ' → PSs X ss (tDF T ω' ρ')) : PSs X (s :: ss) (tDF T ω ρ) := by
  have hall : PSs X ss (fun D σ H => ∃ p : Own × Rho, post p.1 p.2 ∧ tDF T p.1 p.2 D σ H) := pss_ex (p := fun p : Own × Rho => post p.1 p.2) (t := fun p => tDF T p.1 p.2) fun p hp => h2 p.1 p.2 hp
  exact pss_w (pss_cons h hall) fun D σ H ⟨hE, hT, q⟩ => ⟨hE, hT, fun ω' ρ' σ' H' hp E' T' => ⟨(ω', ρ'), hp, E', T', q⟩⟩
theorem tx_cons (h : DN X ω ρ s ω1 ρ1) (h2 : PSs X ss (tX T ω1 ρ1 post)) : PSs X (s :: ss) (tX T ω ρ post) :=
  pss_w (pss_cons h h2) fun D σ H ⟨hE, hT, q⟩ => ⟨hE, fun σ' H1 x1 E1 => ⟨E1, tabs_keep hT hE.own x1.keep, q⟩⟩
theorem tx_nil (hp : post ω ρ') (l : Le ρ' ρ) : PSs X [] (tX T ω ρ post) := pss_w pss_nil fun D σ H ⟨hE, hT, q⟩ => q ω ρ' σ H hp (hE.le l) hT
theorem tx_iff (h : PT X c (tTT T ω ρ false ω1)) (h2 : PSs X ss (tX T ω1 ρ post)) : PSs X (.If c body [] pos :: ss) (tX T ω ρ post) :=
  pss_w (pss_cons (ps_if h pss_never pss_nil) h2) fun D σ H ⟨hE, hT, q⟩ => ⟨hE, hT, fun H1 E1 T1 => iteF ⟨E1, T1, q⟩⟩
theorem tx_if (h : DT X ω ρ c k ω1) (h1 : k = true → PSs X body (tX T ω1 ρ post)) (h2 : k = false → PSs X els (tX T ω1 ρ post)) : PSs X [.If c body els pos] (tX T ω ρ post) := by
  cases k with
  | true => exact pss_w (pss_one (ps_if h (h1 rfl) pss_never)) fun D σ H ⟨hE, hT, q⟩ => ⟨hE, fun H1 x1 => iteT ⟨hE.xt x1, tabs_keep hT hE.own x1.keep, q⟩⟩
  | false => exact pss_w (pss_one (ps_if h pss_never (h2 rfl))) fun D σ H ⟨hE, hT, q⟩ => ⟨hE, fun H1 x1 => iteF ⟨hE.xt x1, tabs_keep hT hE.own x1.keep, q⟩⟩
/-- for x in range(n): .. -/
theorem px_for {m : Int} {x : Str} {p4 : Pos} (i : Nat) (I : Nat → Own → Rho → Prop) (hp : PassesOwn (model X.prog X.w) X.A X.env X.xe) (hc : X.calm = true) (hN : X.N.Nodup) (hm : X.mg "range" = none) (h : DE X ω ρ a (DL.I m) ω1) (hn : 0 ≤ m ∧ m < 1000) (h0 : I 0 ω1 ρ)
    (hb : ∀ (j : Nat) (ω : Own) (ρ : Rho), j < m.toNat → I j ω ρ → PSs X body (tX T ω (ρ.set i (some (DL.I (j : Nat)))) (I (j + 1))))
    (hi : X.N[i]? = some x := by rfl) (hx : Loc X.env.scope x := by first | exact Or.inl rfl | exact Or.inr rfl) (hf : X.fn x = true ∨ X.env.scope.names.lookup x = some .local := by first | exact .inl rfl | exact .inr rfl | assumption)
    (hg : Gl X "range" := by rfl) (hs : starEach [a] X.env = [(false, eval a X.env)] := by rfl) (na : starEach [a] X.env = (false, eval a X.env) :: starEach [] X.env := by rfl) (hs' : ∀ v, foldedSetIterable (.Call (.Name "range" p3) [a] [] p2) X.env v = pure v := by intro _; rfl) :
    PS X (.For (.Name x p4) (.Call (.Name "range" p3) [a] [] p2) body [] pos) (tX T ω ρ (I m.toNat)) := by
  have hbody : PSs X body (fun D σ H => ∃ p : Nat × Own × Rho, (p.1 < m.toNat ∧ I p.1 p.2.1 p.2.2) ∧ tX T p.2.1 (p.2.2.set i (some (DL.I (p.1 : Nat)))) (I (p.1 + 1)) D σ H) :=
    pss_ex (p := fun p : Nat × Own × Rho => p.1 < m.toNat ∧ I p.1 p.2.1 p.2.2) (t := fun p => tX T p.2.1 (p.2.2.set i (some (DL.I (p.1 : Nat)))) (I (p.1 + 1))) fun p hp => hb p.1 p.2.1 p.2.2 hp.1 hp.2
  refine ps_w (ps_for hp hc (pi_range1 hg hm (pa_cons h pa_nil na) hs) (pg_name hN hi hx hf) hbody hs') fun D σ H ⟨hE, hT, q⟩ => ⟨hE, fun v H1 x1 r1 => ⟨m, by rw [r1.int], by omega, by omega, ?_⟩⟩
  have T1 := tabs_keep hT hE.own x1.keep
  refine for_it (g := gName i) (tb := fun D σ H => ∃ p : Nat × Own × Rho, (p.1 < m.toNat ∧ I p.1 p.2.1 p.2.2) ∧ tX T p.2.1 (p.2.2.set i (some (DL.I (p.1 : Nat)))) (I (p.1 + 1)) D σ H) (w := (walk_range (lo := 0) (n := m.toNat)).mono (G' := fun _ => True) (fun _ _ => trivial) fun _ _ _ _ _ _ y => y) (fun j σ2 H2 => ∃ ω2 ρ2, I j ω2 ρ2 ∧ EOk ω2 ρ2 σ2 H2 ∧ LamX.Tabs T H2) ⟨ω1, ρ, h0, hE.xt x1, T1⟩ (fun _ _ _ _ _ => trivial) (fun j u σ2 H2 H3 hj ⟨ω2, ρ2, hI, E2, T2⟩ y => ?_) fun σ2 H2 ⟨ω2, ρ2, hI, E2, T2⟩ => q ω2 ρ2 σ2 H2 hI E2 T2
  obtain ⟨rfl, rfl⟩ := y
  have ej : (0 : Int) + (j : Nat) = (j : Nat) := by omega
  refine ⟨(j, ω2, ρ2), ⟨hj, hI⟩, ?_, T2, fun ω3 ρ3 σ3 H3 hI3 E3 T3 => ⟨ω3, ρ3, hI3, E3, T3⟩⟩
  show EOk ω2 (List.set ρ2 i (some (DL.I (j : Nat)))) (List.set σ2 i (some (V.int ((0 : Int) + (j : Nat))))) H3
  rw [ej]
  exact E2.set (e := DL.I (j : Nat)) (.ofInt _)
end
end ZM

set_option Elab.async false
set_option linter.all false
set_option maxRecDepth 100000
namespace G0
/-! ## ratios -/
abbrev Rt := Int × Int
def gcdI (t b : Int) : Int := ((Nat.gcd t.natAbs b.natAbs : Nat) : Int)
def red (t b : Int) : Rt := (t / gcdI t b, b / gcdI t b)
theorem gcdI_pos {t b : Int} (h : 0 < b) : 0 < gcdI t b := by
  have : 0 < Nat.gcd t.natAbs b.natAbs := Nat.gcd_pos_of_pos_right _ (by omega)
  unfold gcdI; omega
theorem gcdI_l (t b : Int) : gcdI t b ∣ t := Int.natAbs_dvd_natAbs.mp (show t.natAbs.gcd b.natAbs ∣ t.natAbs from Nat.gcd_dvd_left _ _)
theorem gcdI_r (t b : Int) : gcdI t b ∣ b := Int.natAbs_dvd_natAbs.mp (show t.natAbs.gcd b.natAbs ∣ b.natAbs from Nat.gcd_dvd_right _ _)
theorem red_l (t b : Int) : (red t b).1 * gcdI t b = t := Int.ediv_mul_cancel (gcdI_l t b)
theorem red_r (t b : Int) : (red t b).2 * gcdI t b = b := Int.ediv_mul_cancel (gcdI_r t b)
theorem red_pos {t b : Int} (h : 0 < b) : 0 < (red t b).2 := by
  have h1 := red_r t b
  have h2 := gcdI_pos (t := t) h
  rcases Int.lt_trichotomy (red t b).2 0 with z | z | z
  · have := Int.mul_neg_of_neg_of_pos z h2; omega
  · rw [z] at h1; omega
  · exact z
theorem red_cross (t b : Int) : (red t b).1 * b = t * (red t b).2 := by
  have h1 := red_l t b
  have h2 := red_r t b
  calc (red t b).1 * b = (red t b).1 * ((red t b).2 * gcdI t b) := by rw [h2]
    _ = ((red t b).1 * gcdI t b) * (red t b).2 := by rw [Int.mul_comm (red t b).2, Int.mul_assoc]
    _ = t * (red t b).2 := by rw [h1]
theorem red_cop {t b : Int} (h : 0 < b) : gcdI (red t b).1 (red t b).2 = 1 := by
  have h1 := red_l t b
  have h2 := red_r t b
  have hg := gcdI_pos (t := t) h
  have e : gcdI t b = gcdI (red t b).1 (red t b).2 * gcdI t b := by
    have : ∀ p q g : Int, 0 < g → gcdI (p * g) (q * g) = gcdI p q * g := fun p q g hg => by
      unfold gcdI
      rw [Int.natAbs_mul, Int.natAbs_mul, Nat.gcd_mul_right]
      have : ((g.natAbs : Nat) : Int) = g := by omega
      rw [Int.natCast_mul, this]
    have q := this (red t b).1 (red t b).2 (gcdI t b) hg
    rw [h1, h2] at q
    exact q
  have e2 : (gcdI (red t b).1 (red t b).2 - 1) * gcdI t b = 0 := by rw [Int.sub_mul, ← e]; omega
  rcases Int.mul_eq_zero.mp e2 with z | z <;> omega
theorem red_dvd (t b : Int) : (red t b).2 ∣ b := ⟨gcdI t b, (red_r t b).symm⟩
theorem red_le {t b : Int} (h : 0 < b) : (red t b).1.natAbs ≤ t.natAbs := by
  have h1 := red_l t b
  have hg := gcdI_pos (t := t) h
  have : t.natAbs = (red t b).1.natAbs * (gcdI t b).natAbs := by rw [← Int.natAbs_mul, h1]
  rw [this]
  exact Nat.le_mul_of_pos_right _ (by omega)
theorem cop_dvd {p q r : Int} (h : gcdI p q = 1) (d : q ∣ p * r) : q ∣ r := by
  have h' : Nat.Coprime q.natAbs p.natAbs := by
    unfold gcdI at h
    show Nat.gcd q.natAbs p.natAbs = 1
    rw [Nat.gcd_comm]; omega
  have d' : q.natAbs ∣ p.natAbs * r.natAbs := by rw [← Int.natAbs_mul]; exact Int.natAbs_dvd_natAbs.mpr d
  exact Int.natAbs_dvd_natAbs.mp (h'.dvd_of_dvd_mul_left d')
theorem red_eq {t b t' b' : Int} (h : 0 < b) (h' : 0 < b') (e : t * b' = t' * b) : red t b = red t' b' := by
  have c1 := red_cop (t := t) h
  have c2 := red_cop (t := t') h'
  have p1 := red_pos (t := t) h
  have p2 := red_pos (t := t') h'
  have g1 := gcdI_pos (t := t) h
  have g2 := gcdI_pos (t := t') h'
  have l1 := red_l t b
  have l2 := red_l t' b'
  have r1 := red_r t b
  have r2 := red_r t' b'
  have key : (red t b).1 * (red t' b').2 = (red t' b').1 * (red t b).2 := by
    have : ((red t b).1 * (red t' b').2 - (red t' b').1 * (red t b).2) * (gcdI t b * gcdI t' b') = 0 := by
      have a1 : (red t b).1 * (red t' b').2 * (gcdI t b * gcdI t' b') = t * b' := by
        calc (red t b).1 * (red t' b').2 * (gcdI t b * gcdI t' b') = ((red t b).1 * gcdI t b) * ((red t' b').2 * gcdI t' b') := by ac_rfl
          _ = t * b' := by rw [l1, r2]
      have a2 : (red t' b').1 * (red t b).2 * (gcdI t b * gcdI t' b') = t' * b := by
        calc (red t' b').1 * (red t b).2 * (gcdI t b * gcdI t' b') = ((red t' b').1 * gcdI t' b') * ((red t b).2 * gcdI t b) := by ac_rfl
          _ = t' * b := by rw [l2, r1]
      rw [Int.sub_mul, a1, a2, e]; omega
    rcases Int.mul_eq_zero.mp this with z | z
    · omega
    · rcases Int.mul_eq_zero.mp z with y | y <;> omega
  have d1 : (red t b).2 ∣ (red t' b').2 := cop_dvd c1 ⟨(red t' b').1, by rw [key, Int.mul_comm]⟩
  have d2 : (red t' b').2 ∣ (red t b).2 := cop_dvd c2 ⟨(red t b).1, by rw [← key, Int.mul_comm]⟩
  have eb : (red t b).2 = (red t' b').2 := Int.dvd_antisymm (by omega) (by omega) d1 d2
  have et : (red t b).1 = (red t' b').1 := by
    rw [eb] at key
    exact Int.eq_of_mul_eq_mul_right (by omega) key
  exact Prod.ext et eb
theorem red_self {r : Rt} (h : 0 < r.2) (c : gcdI r.1 r.2 = 1) : red r.1 r.2 = r := by
  unfold red
  rw [c, Int.ediv_one, Int.ediv_one]
/-! ### the law's sum -/
def sumTL : List Rt → Int × Int → Int × Int
  | [], a => a
  | r :: rs, a => sumTL rs (a.1 * r.2 + r.1 * a.2, a.2 * r.2)
def lsumL (rs : List Rt) : Rt := red (sumTL rs (0, 1)).1 (sumTL rs (0, 1)).2
theorem sumTL_pos : ∀ (rs : List Rt) (a : Int × Int), (∀ r ∈ rs, 0 < r.2) → 0 < a.2 → 0 < (sumTL rs a).2
  | [], _, _, h => h
  | r :: rs, a, hr, h => sumTL_pos rs _ (fun x hx => hr x (List.mem_cons_of_mem _ hx)) (Int.mul_pos h (hr r List.mem_cons_self))
abbrev wt1 (u : Rt × Int) : Rt := (u.1.1 * u.2, u.1.2)
def sumU (us : List (Rt × Int)) (B : Int) : Int := ((us.filter fun u => !decide (u.2 = 0)).map fun u => u.2 * u.1.1 * (B / u.1.2)).sum
theorem sum_cross {B : Int} : ∀ (us : List (Rt × Int)) (t p : Int), (∀ u ∈ us, 0 < u.1.2 ∧ (u.2 = 0 ∨ u.1.2 ∣ B)) →
    (sumTL (us.map wt1) (t, p)).1 * p * B = (t * B + p * sumU us B) * (sumTL (us.map wt1) (t, p)).2
  | [], t, p, _ => by
    show t * p * B = (t * B + p * 0) * p
    rw [Int.mul_zero, Int.add_zero]; ac_rfl
  | u :: us, t, p, h => by
    obtain ⟨h1, h2⟩ := h u List.mem_cons_self
    have ih := sum_cross (B := B) us (t * u.1.2 + u.1.1 * u.2 * p) (p * u.1.2) (fun x hx => h x (List.mem_cons_of_mem _ hx))
    show (sumTL (us.map wt1) (t * u.1.2 + u.1.1 * u.2 * p, p * u.1.2)).1 * p * B = _ * (sumTL (us.map wt1) (t * u.1.2 + u.1.1 * u.2 * p, p * u.1.2)).2
    generalize (sumTL (us.map wt1) (t * u.1.2 + u.1.1 * u.2 * p, p * u.1.2)).1 = T at ih ⊢
    generalize (sumTL (us.map wt1) (t * u.1.2 + u.1.1 * u.2 * p, p * u.1.2)).2 = P at ih ⊢
    have es : u.1.2 * (p * sumU (u :: us) B) = p * u.1.2 * sumU us B + p * (u.1.1 * u.2) * B := by
      by_cases z : u.2 = 0
      · have e : sumU (u :: us) B = sumU us B := by
          unfold sumU
          rw [List.filter_cons_of_neg (by simp [z])]
        rw [e, z, Int.mul_zero, Int.mul_zero, Int.zero_mul, Int.add_zero]
        ac_rfl
      · have e : sumU (u :: us) B = u.2 * u.1.1 * (B / u.1.2) + sumU us B := by
          unfold sumU
          rw [List.filter_cons_of_pos (by simp [z])]
          rfl
        have hd : u.1.2 * (B / u.1.2) = B := Int.mul_ediv_cancel' (h2.resolve_left z)
        rw [e]
        calc u.1.2 * (p * (u.2 * u.1.1 * (B / u.1.2) + sumU us B)) = p * u.1.2 * sumU us B + p * (u.1.1 * u.2) * (u.1.2 * (B / u.1.2)) := by
              rw [Int.mul_add, Int.mul_add]
              have a1 : u.1.2 * (p * (u.2 * u.1.1 * (B / u.1.2))) = p * (u.1.1 * u.2) * (u.1.2 * (B / u.1.2)) := by ac_rfl
              have a2 : u.1.2 * (p * sumU us B) = p * u.1.2 * sumU us B := by ac_rfl
              rw [a1, a2, Int.add_comm]
          _ = _ := by rw [hd]
    refine Int.eq_of_mul_eq_mul_left (Int.ne_of_gt h1) ?_
    calc u.1.2 * (T * p * B) = T * (p * u.1.2) * B := by ac_rfl
      _ = ((t * u.1.2 + u.1.1 * u.2 * p) * B + p * u.1.2 * sumU us B) * P := ih
      _ = (u.1.2 * (t * B) + u.1.2 * (p * sumU (u :: us) B)) * P := by
        rw [es, Int.add_mul (t * u.1.2)]
        have a1 : t * u.1.2 * B = u.1.2 * (t * B) := by ac_rfl
        have a2 : u.1.1 * u.2 * p * B = p * (u.1.1 * u.2) * B := by ac_rfl
        rw [a1, a2]
        congr 1
        omega
      _ = u.1.2 * ((t * B + p * sumU (u :: us) B) * P) := by rw [← Int.mul_add, Int.mul_assoc]
theorem lsum_red {B : Int} {us : List (Rt × Int)} (hB : 0 < B) (h : ∀ u ∈ us, 0 < u.1.2 ∧ (u.2 = 0 ∨ u.1.2 ∣ B)) : lsumL (us.map wt1) = red (sumU us B) B := by
  have k := sum_cross us 0 1 h
  rw [Int.zero_mul, Int.zero_add, Int.one_mul, Int.mul_one] at k
  refine red_eq (sumTL_pos _ _ (fun r hr => ?_) (by decide)) hB k
  obtain ⟨u, hu, rfl⟩ := List.mem_map.mp hr
  exact (h u hu).1
/-! ### the program's sum -/
def lcmL (us : List (Rt × Int)) : Nat := us.foldl (fun b u => Nat.lcm b u.1.2.natAbs) 1
theorem lcm_fold_dvd : ∀ (us : List (Rt × Int)) (b : Nat), b ∣ us.foldl (fun b u => Nat.lcm b u.1.2.natAbs) b
  | [], b => Nat.dvd_refl _
  | u :: us, b => Nat.dvd_trans (Nat.dvd_lcm_left _ _) (lcm_fold_dvd us _)
theorem lcm_fold_mem : ∀ (us : List (Rt × Int)) (b : Nat), ∀ u ∈ us, u.1.2.natAbs ∣ us.foldl (fun b u => Nat.lcm b u.1.2.natAbs) b
  | [], _, _, h => nomatch h
  | v :: us, b, u, h => by
    rcases List.mem_cons.mp h with z | z
    · subst z
      exact Nat.dvd_trans (Nat.dvd_lcm_right b _) (lcm_fold_dvd us _)
    · exact lcm_fold_mem us _ u z
theorem lcm_fold_le : ∀ (us : List (Rt × Int)) (b D : Nat), b ∣ D → (∀ u ∈ us, u.1.2.natAbs ∣ D) → us.foldl (fun b u => Nat.lcm b u.1.2.natAbs) b ∣ D
  | [], _, _, h, _ => h
  | u :: us, b, D, h, hu => lcm_fold_le us _ D (Nat.lcm_dvd h (hu u List.mem_cons_self)) fun x hx => hu x (List.mem_cons_of_mem _ hx)
theorem lcmL_pos {us : List (Rt × Int)} {D : Nat} (hD : 0 < D) (h : ∀ u ∈ us, u.1.2.natAbs ∣ D) : 0 < lcmL us := Nat.pos_of_dvd_of_pos (lcm_fold_le us 1 D (Nat.one_dvd _) h) hD
def usedL (rs : List Rt) (ws : List Int) : List (Rt × Int) := (rs.zip ws).filter fun u => !decide (u.2 = 0)
def wtopL (us : List (Rt × Int)) (B : Int) : Int := (us.map fun u => u.2 * u.1.1 * (B / u.1.2)).sum
def wsumL (rs : List Rt) (ws : List Int) : Rt := red (wtopL (usedL rs ws) (lcmL (usedL rs ws))) (lcmL (usedL rs ws))
structure RatOk (r : Rt) : Prop where
  p : 0 < r.2
  d : r.2 ∣ 48
  l : r.1.natAbs ≤ 5000
  c : gcdI r.1 r.2 = 1
theorem RatOk.le {r : Rt} (h : RatOk r) : r.2 ≤ 48 := Int.le_of_dvd (by decide) h.d
theorem used_nd {rs : List Rt} {ws : List Int} (h : ∀ r ∈ rs, RatOk r) : ∀ u ∈ usedL rs ws, RatOk u.1 := fun u hu => h _ (List.of_mem_zip (a := u.1) (b := u.2) (List.mem_filter.mp hu).1).1
theorem lcm48 {rs : List Rt} {ws : List Int} (h : ∀ r ∈ rs, RatOk r) : lcmL (usedL rs ws) ∣ 48 := lcm_fold_le _ 1 48 (by decide) fun u hu => Int.natAbs_dvd_natAbs.mpr (used_nd h u hu).d
theorem lcm_pos {rs : List Rt} {ws : List Int} (h : ∀ r ∈ rs, RatOk r) : 0 < lcmL (usedL rs ws) := Nat.pos_of_dvd_of_pos (lcm48 h) (by decide)
theorem wsum_lsum {rs : List Rt} {ws : List Int} (h : ∀ r ∈ rs, RatOk r) : wsumL rs ws = lsumL ((rs.zip ws).map wt1) := by
  rw [lsum_red (B := (lcmL (usedL rs ws) : Nat)) (by have := lcm_pos (ws := ws) h; omega)]
  · rfl
  · intro u hu
    have hr := h _ (List.of_mem_zip (a := u.1) (b := u.2) hu).1
    refine ⟨hr.p, ?_⟩
    by_cases z : u.2 = 0
    · exact .inl z
    · exact .inr (Int.natAbs_dvd_natAbs.mp (lcm_fold_mem _ 1 u (List.mem_filter.mpr ⟨hu, by simp [z]⟩)))
/-- the sum of the shares at two games -/
theorem sumTL_add : ∀ (rs : List Rt) (a b : List Int) (s t p : Int), a.length = rs.length → b.length = rs.length →
    (sumTL ((rs.zip (a.zipWith (· + ·) b)).map wt1) (s + t, p)).1 = (sumTL ((rs.zip a).map wt1) (s, p)).1 + (sumTL ((rs.zip b).map wt1) (t, p)).1 ∧
    (sumTL ((rs.zip (a.zipWith (· + ·) b)).map wt1) (s + t, p)).2 = (sumTL ((rs.zip a).map wt1) (s, p)).2 ∧ (sumTL ((rs.zip b).map wt1) (t, p)).2 = (sumTL ((rs.zip a).map wt1) (s, p)).2
  | [], _, _, s, t, p, _, _ => ⟨rfl, rfl, rfl⟩
  | r :: rs, x :: a, y :: b, s, t, p, ha, hb => by
    have ih := sumTL_add rs a b (s * r.2 + r.1 * x * p) (t * r.2 + r.1 * y * p) (p * r.2) (by simpa using ha) (by simpa using hb)
    have e : (s + t) * r.2 + r.1 * (x + y) * p = (s * r.2 + r.1 * x * p) + (t * r.2 + r.1 * y * p) := by
      rw [Int.add_mul, Int.mul_add, Int.add_mul]; omega
    show (sumTL ((rs.zip (a.zipWith (· + ·) b)).map wt1) ((s + t) * r.2 + r.1 * (x + y) * p, p * r.2)).1 = _ ∧ (sumTL ((rs.zip (a.zipWith (· + ·) b)).map wt1) ((s + t) * r.2 + r.1 * (x + y) * p, p * r.2)).2 = _ ∧ _
    rw [e]
    exact ih
theorem shares_add {rs : List Rt} {a b : List Int} (h : ∀ r ∈ rs, RatOk r) (ha : a.length = rs.length) (hb : b.length = rs.length) :
    wsumL rs (a.zipWith (· + ·) b) = lsumL [wsumL rs a, wsumL rs b] := by
  obtain ⟨h1, h2, h3⟩ := sumTL_add rs a b 0 0 1 ha hb
  have hp : 0 < (sumTL ((rs.zip a).map wt1) (0, 1)).2 := sumTL_pos _ _ (fun r hr => by
    obtain ⟨u, hu, rfl⟩ := List.mem_map.mp hr
    exact (h _ (List.of_mem_zip (a := u.1) (b := u.2) hu).1).p) (by decide)
  rw [wsum_lsum h, wsum_lsum h, wsum_lsum h]
  unfold lsumL
  rw [show (0 : Int) + 0 = 0 from rfl] at h1 h2
  rw [h1, h2, h3]
  generalize (sumTL ((rs.zip a).map wt1) (0, 1)).1 = T1
  generalize (sumTL ((rs.zip b).map wt1) (0, 1)).1 = T2
  generalize (sumTL ((rs.zip a).map wt1) (0, 1)).2 = P at hp
  have p1 := red_pos (t := T1) hp
  have p2 := red_pos (t := T2) hp
  have c1 := red_cross T1 P
  have c2 := red_cross T2 P
  show red (T1 + T2) P = red ((0 * (red T1 P).2 + (red T1 P).1 * 1) * (red T2 P).2 + (red T2 P).1 * (1 * (red T1 P).2)) (1 * (red T1 P).2 * (red T2 P).2)
  rw [Int.zero_mul, Int.zero_add, Int.mul_one, Int.one_mul]
  refine red_eq hp (Int.mul_pos p1 p2) ?_
  generalize (red T1 P).1 = x1 at *
  generalize (red T1 P).2 = y1 at *
  generalize (red T2 P).1 = x2 at *
  generalize (red T2 P).2 = y2 at *
  calc (T1 + T2) * (y1 * y2) = (T1 * y1) * y2 + (T2 * y2) * y1 := by rw [Int.add_mul]; congr 1 <;> ac_rfl
    _ = (x1 * P) * y2 + (x2 * P) * y1 := by rw [c1, c2]
    _ = (x1 * y2 + x2 * y1) * P := by rw [Int.add_mul]; congr 1 <;> ac_rfl
end G0

set_option Elab.async false
set_option linter.all false
set_option maxRecDepth 100000
namespace G0
/-! ## ratios with denominators that divide 48 -/
structure RatW (r : Rt) : Prop where
  p : 0 < r.2
  d : r.2 ∣ 48
theorem RatOk.w {r : Rt} (h : RatOk r) : RatW r := ⟨h.p, h.d⟩
theorem RatW.le {r : Rt} (h : RatW r) : r.2 ≤ 48 := Int.le_of_dvd (by decide) h.d
theorem used_ndW {rs : List Rt} {ws : List Int} (h : ∀ r ∈ rs, RatW r) : ∀ u ∈ usedL rs ws, RatW u.1 := fun u hu => h _ (List.of_mem_zip (a := u.1) (b := u.2) (List.mem_filter.mp hu).1).1
theorem lcm48W {rs : List Rt} {ws : List Int} (h : ∀ r ∈ rs, RatW r) : lcmL (usedL rs ws) ∣ 48 := lcm_fold_le _ 1 48 (by decide) fun u hu => Int.natAbs_dvd_natAbs.mpr (used_ndW h u hu).d
theorem lcm_posW {rs : List Rt} {ws : List Int} (h : ∀ r ∈ rs, RatW r) : 0 < lcmL (usedL rs ws) := Nat.pos_of_dvd_of_pos (lcm48W h) (by decide)
theorem wsum_lsumW {rs : List Rt} {ws : List Int} (h : ∀ r ∈ rs, RatW r) : wsumL rs ws = lsumL ((rs.zip ws).map wt1) := by
  rw [lsum_red (B := (lcmL (usedL rs ws) : Nat)) (by have := lcm_posW (ws := ws) h; omega)]
  · rfl
  · intro u hu
    have hr := h _ (List.of_mem_zip (a := u.1) (b := u.2) hu).1
    refine ⟨hr.p, ?_⟩
    by_cases z : u.2 = 0
    · exact .inl z
    · exact .inr (Int.natAbs_dvd_natAbs.mp (lcm_fold_mem _ 1 u (List.mem_filter.mpr ⟨hu, by simp [z]⟩)))
def v48 (r : Rt) : Int := r.1 * (48 / r.2)
def s48 : List Rt → List Int → Int
  | r :: rs, w :: ws => w * v48 r + s48 rs ws
  | _, _ => 0
theorem sumU_48 : ∀ (rs : List Rt) (ws : List Int), sumU (rs.zip ws) 48 = s48 rs ws
  | [], _ => rfl
  | _ :: _, [] => rfl
  | r :: rs, w :: ws => by
    have ih := sumU_48 rs ws
    unfold sumU at ih ⊢
    show (((((r, w) :: rs.zip ws).filter fun u => !decide (u.2 = 0)).map fun u => u.2 * u.1.1 * (48 / u.1.2))).sum = w * v48 r + s48 rs ws
    by_cases z : w = 0
    · subst z
      rw [List.filter_cons_of_neg (by simp), ih, Int.zero_mul, Int.zero_add]
    · rw [List.filter_cons_of_pos (by simp [z]), List.map_cons, List.sum_cons, ih]
      unfold v48
      rw [← Int.mul_assoc]
theorem wsum48 {rs : List Rt} {ws : List Int} (h : ∀ r ∈ rs, RatW r) : wsumL rs ws = red (s48 rs ws) 48 := by
  rw [wsum_lsumW h, lsum_red (B := 48) (by decide) (fun u hu => ?_), sumU_48]
  have hr := h _ (List.of_mem_zip (a := u.1) (b := u.2) hu).1
  exact ⟨hr.p, .inr hr.d⟩
theorem red_inj {a b : Int} (h : red a 48 = red b 48) : a = b := by
  have h1 := red_cross a 48
  have h2 := red_cross b 48
  have p := red_pos (t := a) (b := 48) (by decide)
  rw [← h] at h2
  rw [h1] at h2
  exact Int.eq_of_mul_eq_mul_right (Int.ne_of_gt p) h2
theorem red_one (t : Int) : red (48 * t) 48 = (t, 1) := by
  rw [red_eq (t' := t) (b' := 1) (by decide) (by decide) (by omega)]
  refine red_self (r := (t, 1)) (show (0 : Int) < 1 by decide) ?_
  show ((Nat.gcd t.natAbs 1 : Nat) : Int) = 1
  rw [Nat.gcd_one_right]; rfl
theorem red_iff {a b : Int} : red a 48 = red b 48 ↔ a = b := ⟨red_inj, fun h => by rw [h]⟩
theorem red_int {a t : Int} : red a 48 = (t, 1) ↔ a = 48 * t := by
  rw [← red_one t]
  exact red_iff
theorem red_w (a : Int) : RatW (red a 48) := ⟨red_pos (by decide), red_dvd a 48⟩
theorem v48_red (a : Int) : v48 (red a 48) = a := by
  have h1 := red_cross a 48
  have p := red_pos (t := a) (b := 48) (by decide)
  have d := red_dvd a 48
  have hq : (red a 48).2 * (48 / (red a 48).2) = 48 := Int.mul_ediv_cancel' d
  unfold v48
  refine Int.eq_of_mul_eq_mul_right (Int.ne_of_gt p) ?_
  calc (red a 48).1 * (48 / (red a 48).2) * (red a 48).2 = (red a 48).1 * ((red a 48).2 * (48 / (red a 48).2)) := by ac_rfl
    _ = a * (red a 48).2 := by rw [hq, h1]
theorem s48_neg : ∀ (rs : List Rt) (ws : List Int), s48 rs (ws.map fun x => -x) = -s48 rs ws
  | [], _ => rfl
  | _ :: _, [] => rfl
  | r :: rs, w :: ws => by
    show -w * v48 r + s48 rs (ws.map fun x => -x) = -(w * v48 r + s48 rs ws)
    rw [s48_neg rs ws, Int.neg_add, Int.neg_mul]
theorem s48_map_add {α : Type} : ∀ (rs : List Rt) (l : List α) (f g : α → Int), s48 rs (l.map fun x => f x + g x) = s48 rs (l.map f) + s48 rs (l.map g)
  | [], _, _, _ => rfl
  | _ :: _, [], _, _ => rfl
  | r :: rs, x :: l, f, g => by
    show (f x + g x) * v48 r + s48 rs (l.map fun x => f x + g x) = f x * v48 r + s48 rs (l.map f) + (g x * v48 r + s48 rs (l.map g))
    rw [s48_map_add rs l f g, Int.add_mul]
    omega
theorem s48_ones : ∀ (xs : List Int), s48 (xs.map fun a => red a 48) (List.replicate xs.length 1) = xs.sum
  | [] => rfl
  | x :: xs => by
    show 1 * v48 (red x 48) + s48 (xs.map fun a => red a 48) (List.replicate xs.length 1) = x + xs.sum
    rw [s48_ones xs, v48_red, Int.one_mul]
/-- ratios of 48ths, summed by the law -/
theorem lsum_48 (xs : List Int) : lsumL (xs.map fun a => red a 48) = red xs.sum 48 := by
  have h := wsum_lsumW (rs := xs.map fun a => red a 48) (ws := List.replicate xs.length 1) (fun r hr => by
    obtain ⟨a, _, rfl⟩ := List.mem_map.mp hr
    exact red_w a)
  have e : (((xs.map fun a => red a 48).zip (List.replicate xs.length 1)).map wt1) = xs.map fun a => red a 48 := by
    apply List.ext_getElem
    · rw [List.length_map, List.length_zip, List.length_map, List.length_replicate, Nat.min_self]
    · intro i h1 h2
      rw [List.getElem_map, List.getElem_zip, List.getElem_replicate]
      show (_ * 1, _) = _
      rw [Int.mul_one]
  rw [e] at h
  rw [← h, wsum48 (fun r hr => by
    obtain ⟨a, _, rfl⟩ := List.mem_map.mp hr
    exact red_w a), s48_ones]
end G0

set_option Elab.async false
set_option linter.all false
set_option maxRecDepth 100000
set_option maxHeartbeats 2000000
namespace G0
open PySem PySem.Spec PyProof.Rows L2 DL CB ZM
/-! ## the program's defs -/
def topS (i : Nat) : Stmt := PySem.Challenge.pw_worthshares_k09_whole_desks.main.body.getD i (.Pass ⟨0, 0, 0, 0⟩)
/-- the names that the module leaves to the built-ins -/
structure Bare (mg : Str → Option Value) : Prop where
  isinst : mg "isinstance" = none
  int : mg "int" = none
  bool : mg "bool" = none
  str : mg "str" = none
  tuple : mg "tuple" = none
  list : mg "list" = none
  dict : mg "dict" = none
  len : mg "len" = none
  range : mg "range" = none
  all : mg "all" = none
  sum : mg "sum" = none
  sorted : mg "sorted" = none
  zip : mg "zip" = none
  enum : mg "enumerate" = none
abbrev Ns (n : Nat) : Prop := n ∈ [2, 3, 4]
/-- the groups of n people, in their order -/
def gsN (n k : Nat) : List (List Int) := (List.range k).flatMap fun j => cbI n (j + 1)
abbrev gs (n : Nat) : List (List Int) := gsN n n
theorem gsN_succ (n k : Nat) : gsN n (k + 1) = gsN n k ++ cbI n (k + 1) := by
  unfold gsN
  rw [List.range_succ, List.flatMap_append]
  simp
theorem gsN_len {n : Nat} (h : Ns n) {k : Nat} (hk : k ≤ n) : (gsN n k).length ≤ 15 := by
  have key : ∀ n ∈ [2, 3, 4], ∀ k ∈ [0, 1, 2, 3, 4], k ≤ n → (gsN n k).length ≤ 15 := by decide
  refine key n h k ?_ hk
  have key2 : ∀ n ∈ [2, 3, 4], n ≤ 4 := by decide
  have := key2 n h
  simp only [List.mem_cons, List.not_mem_nil, or_false]
  omega
theorem Ns.le {n : Nat} (h : Ns n) : 2 ≤ n ∧ n ≤ 4 := by
  simp only [Ns, List.mem_cons, List.not_mem_nil, or_false] at h
  omega
theorem small_at {n k : Nat} (h : Ns n) (hk : k < n) : Small n (k + 1) := by
  have := h.le
  exact ⟨h, by simp only [List.mem_cons, List.not_mem_nil, or_false]; omega, hk⟩
theorem rgI_len (a : Int) (n : Nat) : (rgI a n).length = n := by unfold rgI; rw [List.length_map, List.length_range]
theorem rgI_at {a : Int} {n k : Nat} {x : Ent} (h : ((rgI a n).map DL.I)[k]? = some x) : k < n ∧ x = DL.I (a + (k : Int)) := by
  unfold rgI at h
  rw [List.map_map, List.getElem?_map] at h
  by_cases hk : k < n
  · rw [List.getElem?_range hk] at h
    cases h
    exact ⟨hk, rfl⟩
  · rw [List.getElem?_eq_none (by rw [List.length_range]; omega)] at h
    cases h
abbrev gsD (l : List (List Int)) : List PyData := l.map tupI
section
variable {P : Program} {w : World} {K : PySem.W.Frag} {mg : Str → Option Value} {base : Heap} {f : Addr} {fd : FuncData}
/-! ### is_integer -/
abbrev s_isint : Stmt := topS 18
theorem sc_isint : FnScope ["value", "low", "high"] ["value", "low", "high"] (defScope s_isint) := ⟨rfl, rfl, rfl, by decide +kernel, rfl, by decide +kernel, by decide +kernel⟩
def isInt (d : PyData) (lo hi : Int) : Bool := match d with | .int n => decide (lo ≤ n) && decide (n ≤ hi) | _ => false
def R_isint : List Ent → Own → Ent → Own → Prop := fun es ω e ω' => ∃ v lo hi, es = [DL.I v, DL.I lo, DL.I hi] ∧ e = B (decide (lo ≤ v) && decide (v ≤ hi)) ∧ ω' = ω
theorem ok_isint (F : Fun K "is_integer" "is_integer" s_isint f fd) (hm : mg "is_integer" = some (.ref f)) (b : Bare mg) : DFn P w K mg base 1 "is_integer" R_isint := by
  refine dfn_ret F hm (F.binds (ps := ["value", "low", "high"]) fun _ _ _ _ _ _ us hl => match us, hl with | [_, _, _], _ => rfl) sc_isint ?_ ?_
  · rintro es ω e ω' ⟨v, lo, hi, rfl, _⟩; rfl
  · rintro cdv A outer s H E hr es _ e ω ⟨v, lo, hi, rfl, rfl, rfl⟩
    refine dr_ret (de_and (k := true) (l := decide (lo ≤ v) && decide (v ≤ hi)) (de_callB (c_isi (T := "int") rfl) b.isinst boot_isinstance (da_cons (de_var 0) (da_cons (de_ty b.int boot_int) da_nil))) fun _ => ?_)
    refine de_and (k := true) (l := decide (lo ≤ v) && decide (v ≤ hi)) (de_not (k := false) (pe_not (de_callB (c_isi (T := "bool") rfl) b.isinst boot_isinstance (da_cons (de_var 0) (da_cons (de_ty b.bool boot_bool) da_nil))))) fun _ => ?_
    exact de_one (de_chain o_le o_le (de_var 1) (de_var 0) (de_var 2))
/-! ### all_groups -/
abbrev s_all : Stmt := topS 27
theorem sc_all : FnScope ["many", "found", "size"] ["many"] (defScope s_all) := ⟨rfl, rfl, rfl, by decide +kernel, rfl, by decide +kernel, by decide +kernel⟩
def R_all : List Ent → Own → Ent → Own → Prop := fun es ω e ω' => ∃ n : Nat, es = [DL.I n] ∧ Ns n ∧ e = .dat (.tuple (gsD (gs n))) ∧ ω' = ω
theorem ok_all (F : Fun K "all_groups" "all_groups" s_all f fd) (hm : mg "all_groups" = some (.ref f)) (b : Bare mg) (mc : mg "combinations" = some (.type "itertools.combinations")) : DFn P w K mg base 1 "all_groups" R_all := by
  refine dfn_ret F hm (F.binds (ps := ["many"]) fun _ _ _ _ _ _ us hl => match us, hl with | [_], _ => rfl) sc_all ?_ ?_
  · rintro es ω e ω' ⟨n, rfl, _⟩; rfl
  · rintro cdv A outer s H E hr es _ e ω ⟨n, rfl, hn, rfl, rfl⟩
    have hn4 := hn.le
    have e1 : ((n : Int) + 1 - 1).toNat = n := by omega
    refine dr_newL 1 sc_all.nd fun p => dr_cons (dn_for (S := [2]) (xs := (rgI 1 ((n : Int) + 1 - 1).toNat).map DL.I) PassesOwn.never rfl (di_range2 b.range de_int (de_op o_add (de_var 0) de_int) (by omega))
      (fun k => ω ++ [(p, .lst (gsD (gsN n k)))]) (fun _ => [some (DL.I n), some (.own p), none]) rfl rfl (pg_name (i := 2) sc_all.nd rfl (.inl rfl)) fun k x hx => ?_) ?_
    · obtain ⟨hk, rfl⟩ := rgI_at hx
      rw [e1] at hk
      have e2 : ((n : Int)).toNat = n := rfl
      have e3 : (1 + (k : Int)).toNat = k + 1 := by omega
      refine ⟨_, bnd_name, dns_le (dns_one (dn_ext 1 (x := "found") (ds := gsD (gsN n k)) (es := (cbI (n : Int).toNat (1 + (k : Int)).toNat).map tupI) ω [] rfl sc_all.nd rfl (de_listCb rfl b.list b.range mc (de_var 0) (de_var 2) (by omega) (by omega) (by rw [e2, e3]; exact small_at hn hk)) ?_ ?_)) (LeL.le (.same (.same (.drop .nil))))⟩
      · have := gsN_len hn (k := k + 1) (by omega)
        rw [gsN_succ, List.length_append] at this
        rw [e2, e3, List.length_map, List.length_map]
        omega
      · rw [e2, e3, gsN_succ]
        unfold gsD
        rw [List.map_append]
    · have hl : ((rgI 1 ((n : Int) + 1 - 1).toNat).map DL.I).length = n := by rw [List.length_map, rgI_len, e1]
      rw [hl]
      exact dr_release (ρ' := [some (DL.I n), some (.dat (.list (gsD (gs n)))), none]) (dr_ret (de_callT c_tupleL b.tuple boot_tuple (da_cons (de_var 1) da_nil))) (.same (.view (.same .nil)))
end
end G0

set_option Elab.async false
set_option linter.all false
set_option maxRecDepth 100000
set_option maxHeartbeats 2000000
namespace G0
open PySem PySem.Spec PyProof.Rows L2 DL CB ZM
theorem filter_tt {α : Type} (l : List α) : l.filter (fun _ => true) = l := List.filter_eq_self.mpr fun _ _ => rfl
section
variable {X : Cx} {tg elt iter : Expr} {ω : Own} {ρ : Rho} {pos : Pos} {scope : Scope} {α : Type}
/-- a comprehension without a test -/
theorem de_mapA {g : TG} {S : List Nat} (own : List (Str × Nat)) {as : List α} {enc : α → Ent} (ρb : α → Rho) (f : α → PyData) (hc : X.calm = true) (hN : X.N.Nodup) (hi : DI X tg ω ρ iter (as.map enc) ω) (hg : ∀ s H C cl fp, PG (BlkC X scope s H C cl fp) tg g)
    (hb : ∀ x ∈ as, Bnd X.K g S (enc x) (wipeR ρ (own.map (·.2))) (ρb x))
    (he : ∀ s H C cl fp (ωd : Own) (x : α), x ∈ as → DE (BlkC X scope s H C cl fp) (ω ++ ωd) (ρb x) elt (.dat (f x)) (ω ++ ωd)) (hz : as.length ≤ 1000 := by decide) (ok : blkC X.N X.env.scope scope own = true := by kernel_rfl) (hS : ∀ i ∈ S, i ∈ own.map (·.2) := by decide)
    (hs : ∀ x, foldedSetIterable iter X.env x = pure x := by intro _; rfl) :
    DE X ω ρ (.ListComp elt [⟨tg, iter, [], 0⟩] scope pos) (.dat (.list (as.map f))) ω := by
  have key := de_map (ifs := []) (elt := elt) (scope := scope) (pos := pos) own ρb (fun _ => true) f hc hN hi hg hb (fun _ _ _ _ _ ωd x hx => dts_nil) (fun s H C cl fp ωd x hx _ => he s H C cl fp ωd x hx) hz ok hS hs
  rw [filter_tt] at key
  exact key
end
theorem tupI_map (ns : List Int) : (tupI ns) = .tuple (ns.map .int) := rfl
theorem dats_ints (ns : List Int) : (ns.map PyData.int).map Ent.dat = ns.map DL.I := by rw [List.map_map]; rfl
section
variable {P : Program} {w : World} {K : PySem.W.Frag} {mg : Str → Option Value} {base : Heap} {f : Addr} {fd : FuncData}
/-! ### check_many, head_count -/
abbrev s_chkmany : Stmt := topS 19
theorem sc_chkmany : FnScope ["many"] ["many"] (defScope s_chkmany) := ⟨rfl, rfl, rfl, by decide +kernel, rfl, by decide +kernel, by decide +kernel⟩
def R_chkmany : List Ent → Own → Ent → Own → Prop := fun es ω e ω' => ∃ n : Nat, es = [DL.I n] ∧ Ns n ∧ e = .dat .none ∧ ω' = ω
theorem ok_chkmany (F : Fun K "check_many" "check_many" s_chkmany f fd) (hm : mg "check_many" = some (.ref f)) (b : Bare mg) {t u : Tok} (c1 : mg "FEWEST_PEOPLE" = some (.int 2 t)) (c2 : mg "MOST_PEOPLE" = some (.int 4 u)) (I1 : DFn P w K mg base 1 "is_integer" R_isint) :
    DFn P w K mg base 2 "check_many" R_chkmany := by
  refine dfn_none F hm (F.binds (ps := ["many"]) fun _ _ _ _ _ _ us hl => match us, hl with | [_], _ => rfl) sc_chkmany ?_ ?_ ?_
  · rintro es ω e ω' ⟨n, rfl, _⟩; rfl
  · rintro es ω e ω' ⟨n, _, _, rfl, _⟩; rfl
  · rintro cdv A outer s H E hr es _ e ω ⟨n, rfl, hn, rfl, rfl⟩
    have := hn.le
    refine ⟨_, dns_one (dn_ifF (dt_not (k := true) (dt_val (de_call I1 hr (da_cons (de_var 0) (da_cons (de_globI c1) (da_cons (de_globI c2) da_nil))) ⟨n, 2, 4, rfl, ?_, rfl⟩))))⟩
    rw [decide_eq_true (show (2 : Int) ≤ n by omega), decide_eq_true (show (n : Int) ≤ 4 by omega)]
    rfl
abbrev s_head : Stmt := topS 20
theorem sc_head : FnScope ["game"] ["game"] (defScope s_head) := ⟨rfl, rfl, rfl, by decide +kernel, rfl, by decide +kernel, by decide +kernel⟩
abbrev tabP : List (Int × Int) := [(3, 2), (7, 3), (15, 4)]
/-- ws is a game of n people, so far as its length goes -/
structure GLen (n : Nat) (ws : List Int) : Prop where
  hn : Ns n
  l : ws.length = (gs n).length
theorem tab_len {n : Nat} (h : Ns n) : tabAt tabP ((gs n).length : Nat) = some (n : Int) := by
  have key : ∀ n ∈ [2, 3, 4], tabAt tabP ((gs n).length : Nat) = some (n : Int) := by decide
  exact key n h
theorem GLen.z {n : Nat} {ws : List Int} (h : GLen n ws) : ws.length ≤ 15 := by rw [h.l]; exact gsN_len h.hn (Nat.le_refl _)
def R_head : List Ent → Own → Ent → Own → Prop := fun es ω e ω' => ∃ (n : Nat) (ws : List Int), es = [.dat (tupI ws)] ∧ GLen n ws ∧ e = DL.I n ∧ ω' = ω
theorem ok_head (F : Fun K "head_count" "head_count" s_head f fd) (hm : mg "head_count" = some (.ref f)) (b : Bare mg) {d : Addr} (c1 : mg "PEOPLE_BY_ITEMS" = some (.ref d)) (k : KI K d tabP) : DFn P w K mg base 1 "head_count" R_head := by
  refine dfn_ret F hm (F.binds (ps := ["game"]) fun _ _ _ _ _ _ us hl => match us, hl with | [_], _ => rfl) sc_head ?_ ?_
  · rintro es ω e ω' ⟨n, ws, rfl, _⟩; rfl
  · rintro cdv A outer s H E hr es _ e ω ⟨n, ws, rfl, g, rfl, rfl⟩
    refine dr_ret (de_ixK (n := ((ws.map PyData.int).length : Nat)) k ?_ (de_globR c1) (de_callB c_lenT b.len boot_len (da_cons (de_var 0) da_nil)))
    rw [List.length_map, g.l]
    exact tab_len g.hn
/-! ### check_game, check_person -/
abbrev s_chkgame : Stmt := topS 21
theorem sc_chkgame : FnScope ["game", "index", "value"] ["game"] (defScope s_chkgame) := ⟨rfl, rfl, rfl, by decide +kernel, rfl, by decide +kernel, by decide +kernel⟩
structure Game (n : Nat) (ws : List Int) : Prop where
  len : GLen n ws
  le : ∀ x ∈ ws, -1000 ≤ x ∧ x ≤ 1000
def R_chkgame : List Ent → Own → Ent → Own → Prop := fun es ω e ω' => ∃ (n : Nat) (ws : List Int), es = [.dat (tupI ws)] ∧ Game n ws ∧ e = .dat .none ∧ ω' = ω
theorem enD_at {ds : List PyData} {k : Nat} {x : Ent} (h : ((enD ds).map Ent.dat)[k]? = some x) : ∃ d, ds[k]? = some d ∧ x = .dat (.tuple [.int (k : Nat), d]) := by
  have hk : k < ds.length := by
    have := (List.getElem?_eq_some_iff.mp h).1
    rw [List.length_map, List.length_map, List.length_zipIdx] at this
    exact this
  have e := enD_get (List.getElem?_eq_getElem hk)
  rw [e] at h
  cases h
  exact ⟨_, List.getElem?_eq_getElem hk, rfl⟩
theorem ok_chkgame (F : Fun K "check_game" "check_game" s_chkgame f fd) (hm : mg "check_game" = some (.ref f)) (b : Bare mg) {d : Addr} (c1 : mg "PEOPLE_BY_ITEMS" = some (.ref d)) (k : KI K d tabP) {t : Tok} (c2 : mg "WORTH_LIMIT" = some (.int 1000 t)) (I1 : DFn P w K mg base 1 "is_integer" R_isint) : DFn P w K mg base 2 "check_game" R_chkgame := by
  refine dfn_none F hm (F.binds (ps := ["game"]) fun _ _ _ _ _ _ us hl => match us, hl with | [_], _ => rfl) sc_chkgame ?_ ?_ ?_
  · rintro es ω e ω' ⟨n, ws, rfl, _⟩; rfl
  · rintro es ω e ω' ⟨n, ws, _, _, rfl, _⟩; rfl
  · rintro cdv A outer s H E hr es _ e ω ⟨n, ws, rfl, g, rfl, rfl⟩
    refine ⟨_, dns_cons (dn_ifF (dt_w (dw_or (k := false) (dt_not (k := true) (dt_val (de_callB (c_isi (T := "tuple") rfl) b.isinst boot_isinstance (da_cons (de_var 0) (da_cons (de_ty b.tuple boot_tuple) da_nil))))) fun _ =>
      dw_or1 (k := false) (dt_cmp (e1 := DL.I ((ws.map PyData.int).length : Nat)) (e2 := .raw (.ref d)) ?_ (de_callB c_lenT b.len boot_len (da_cons (de_var 0) da_nil)) (de_globR c1))))) (dns_one (dn_for (S := [1, 2]) PassesOwn.never rfl (di_enum false (ds := ws.map PyData.int) rfl b.enum (de_var 0)) (fun _ => ω) (fun _ => [some (.dat (tupI ws)), none, none]) rfl rfl (pg_tup rfl (pgs_cons (pg_name (i := 1) sc_chkgame.nd rfl (.inl rfl)) (pgs_cons (pg_name (i := 2) sc_chkgame.nd rfl (.inl rfl)) pgs_nil))) fun j x hx => ?_))⟩
    · have h := o_notInK (X := CxF P w K mg base ["game", "index", "value"] "check_game" s_chkgame f cdv A outer s H E) k (n := ((ws.map PyData.int).length : Nat))
      rw [List.length_map, g.len.l, tab_len g.len.hn] at h
      rw [List.length_map, g.len.l]
      exact h
    · obtain ⟨y, hy, rfl⟩ := enD_at hx
      rw [List.getElem?_map] at hy
      cases e : ws[j]? with
      | none => rw [e] at hy; cases hy
      | some v =>
        rw [e] at hy
        cases hy
        have hv := g.le v (List.mem_of_getElem? e)
        refine ⟨_, bnd_pair, dns_le (dns_one (dn_ifF (dt_not (k := true) (dt_val (de_call I1 hr (da_cons (de_var 2) (da_cons (de_neg (de_globI c2)) (da_cons (de_globI c2) da_nil))) ⟨v, -1000, 1000, rfl, ?_, rfl⟩))))) (LeL.le (.same (.drop (.drop .nil))))⟩
        rw [decide_eq_true hv.1, decide_eq_true hv.2]
        rfl
end
end G0

set_option Elab.async false
set_option linter.all false
set_option maxRecDepth 100000
set_option maxHeartbeats 2000000
namespace G0
open PySem PySem.Spec PyProof.Rows L2 DL CB ZM
section
variable {X : Cx} {tg a : Expr} {ω ω1 : Own} {ρ : Rho} {α : Type}
theorem di_tupI {g : List Int} (h : DE X ω ρ a (.dat (tupI g)) ω1) : DI X tg ω ρ a (g.map DL.I) ω1 := by
  have := di_tup (tg := tg) h
  rw [dats_ints] at this
  exact this
theorem di_lstI {g : List Int} (h : DE X ω ρ a (.dat (lstI g)) ω1) : DI X tg ω ρ a (g.map DL.I) ω1 := by
  have := di_list (tg := tg) h
  rw [dats_ints] at this
  exact this
abbrev GE (g : List Int) : Ent := .dat (tupI g)
theorem dats_grps (l : List (List Int)) : (gsD l).map Ent.dat = l.map GE := by unfold gsD; rw [List.map_map]; rfl
theorem di_tupG {l : List (List Int)} (h : DE X ω ρ a (.dat (.tuple (gsD l))) ω1) : DI X tg ω ρ a (l.map GE) ω1 := by
  have := di_tup (tg := tg) h
  rw [dats_grps] at this
  exact this
theorem di_lstG {l : List (List Int)} (h : DE X ω ρ a (.dat (.list (gsD l))) ω1) : DI X tg ω ρ a (l.map GE) ω1 := by
  have := di_list (tg := tg) h
  rw [dats_grps] at this
  exact this
theorem c_allM (hc : X.calm = true) {l : List α} {c : α → Bool} {k : Bool} (h : l.all c = k) : CallD X (.builtin "all") [.dat (.list (l.map fun x => .bool (c x)))] (B k) := by
  have e : (l.map fun x => PyData.bool (c x)) = (l.map c).map .bool := by rw [List.map_map]; rfl
  have e2 : (l.map c).all id = l.all c := by rw [List.all_map]; rfl
  have q := c_all (X := X) hc (ns := l.map c)
  rw [e2, h] at q
  rw [e]
  exact q
end
theorem cut1 (ds : List PyData) : DL.cutD ds (some 1) none = ds.drop 1 := by
  unfold DL.cutD
  rw [show HT.sIx ds.length 0 (some 1) = min 1 ds.length from HT.sIx_nat ds.length 0 1, HT.sIx_none]
  cases ds with
  | nil => rfl
  | cons x r =>
    rw [show min 1 (x :: r).length = 1 by rw [List.length_cons]; omega]
    show (List.take ((x :: r).length - 1) r) = r
    rw [List.length_cons, Nat.add_sub_cancel]
    exact List.take_length
section
variable {X : Cx} {a b : Expr} {ω ω1 : Own} {ρ : Rho} {pos p2 tpos : Pos} {elts : List Expr} {kk : Nat}
theorem di_zipI (k c : Bool) {g h : List Int} (hc : X.calm = true) (hm : X.mg "zip" = none) (ha : DA X ω ρ [a, b] [.dat (sq k (g.map .int)), .dat (sq c (h.map .int))] ω1) (hg : Gl X "zip" := by rfl)
    (hs : starEach [a, b] X.env = (false, eval a X.env) :: starEach [b] X.env := by rfl) (hpl : (backTo pos (starEach [b] X.env)).any (·.1) = false := by rfl) :
    DI X (.Tuple elts kk tpos) ω ρ (.Call (.Name "zip" p2) [a, b] [] pos) ((g.zip h).map fun p => .dat (.tuple [.int p.1, .int p.2])) ω1 := by
  have q := di_zip (elts := elts) (kk := kk) (tpos := tpos) (pos := pos) (p2 := p2) k c hc hm ha hg hs hpl
  rw [List.zip_map, List.map_map] at q
  exact q
theorem di_zipG (k c : Bool) {l : List (List Int)} {h : List Int} (hc : X.calm = true) (hm : X.mg "zip" = none) (ha : DA X ω ρ [a, b] [.dat (sq k (gsD l)), .dat (sq c (h.map .int))] ω1) (hg : Gl X "zip" := by rfl)
    (hs : starEach [a, b] X.env = (false, eval a X.env) :: starEach [b] X.env := by rfl) (hpl : (backTo pos (starEach [b] X.env)).any (·.1) = false := by rfl) :
    DI X (.Tuple elts kk tpos) ω ρ (.Call (.Name "zip" p2) [a, b] [] pos) ((l.zip h).map fun p => .dat (.tuple [tupI p.1, .int p.2])) ω1 := by
  have q := di_zip (elts := elts) (kk := kk) (tpos := tpos) (pos := pos) (p2 := p2) k c hc hm ha hg hs hpl
  unfold gsD at q
  rw [List.zip_map, List.map_map] at q
  exact q
/-- t[1:] -/
theorem de_tail {g : List Int} {i : Int} (hi : i = 1) {e : Expr} (ha : DE X ω ρ a (.dat (tupI g)) ω) (h : DE X ω ρ e (DL.I i) ω) : DE X ω ρ (.Subscript a (.Slice (some e) none none p2) pos) (.dat (tupI (g.drop 1))) ω := by
  subst hi
  have q := de_sliceT (p2 := p2) (pos := pos) ha (dp_some h) dp_none
  rw [cut1, ← List.map_drop] at q
  exact q
end
section
variable {P : Program} {w : World} {K : PySem.W.Frag} {mg : Str → Option Value} {base : Heap} {f : Addr} {fd : FuncData}
/-! ### check_person, is_group, check_group -/
def R_chkper : List Ent → Own → Ent → Own → Prop := fun es ω e ω' => ∃ p m : Int, es = [DL.I p, DL.I m] ∧ (0 ≤ p ∧ p < m) ∧ e = .dat .none ∧ ω' = ω
def ups (g : List Int) : List Bool := (g.zip (g.drop 1)).map fun p => decide (p.1 < p.2)
/-- g is a group of m people, or nobody -/
structure Grp (m : Int) (g : List Int) : Prop where
  p : ∀ x ∈ g, 0 ≤ x ∧ x < m
  u : (ups g).all id = true
  z : g.length ≤ 4
def R_isgrp : List Ent → Own → Ent → Own → Prop := fun es ω e ω' => ∃ (g : List Int) (m : Int), es = [.dat (tupI g), DL.I m] ∧ Grp m g ∧ e = B true ∧ ω' = ω
end
end G0

set_option Elab.async false
set_option linter.all false
set_option maxRecDepth 100000
set_option maxHeartbeats 2000000
namespace G0
open PySem PySem.Spec PyProof.Rows L2 DL CB ZM
/-! ## tables -/
def look (t : List (List Int × Int)) (g : List Int) : Int := (lookD t g).getD 0
theorem look_mem {t : List (List Int × Int)} {g : List Int} (h : g ∈ t.map (·.1)) : lookD t g = some (look t g) := by
  unfold look lookD
  obtain ⟨p, hp, e⟩ := List.mem_map.mp h
  have : (t.find? fun p => decide (p.1 = g)).isSome = true := by
    rw [List.find?_isSome]
    exact ⟨p, hp, decide_eq_true e⟩
  obtain ⟨q, hq⟩ := Option.isSome_iff_exists.mp this
  rw [hq]
  rfl
theorem putD_new {t : List (List Int × Int)} {g : List Int} {n : Int} (h : g ∉ t.map (·.1)) : putD t g n = t ++ [(g, n)] := by
  unfold putD
  have : (t.any fun p => decide (p.1 = g)) = false := by
    rw [List.any_eq_false]
    intro p hp z
    exact h (List.mem_map.mpr ⟨p, hp, of_decide_eq_true z⟩)
  simp [this]
theorem putAll_fresh : ∀ (kvs acc : List (List Int × Int)), ((acc ++ kvs).map (·.1)).Nodup → putAllD acc kvs = acc ++ kvs
  | [], acc, _ => by rw [List.append_nil]; rfl
  | p :: kvs, acc, h => by
    have h1 : p.1 ∉ acc.map (·.1) := fun z => by
      rw [List.map_append, List.map_cons] at h
      exact (List.nodup_append.mp h).2.2 p.1 z p.1 (by simp) rfl
    show putAllD (putD acc p.1 p.2) kvs = _
    rw [putD_new h1, putAll_fresh kvs _ (by rw [List.append_assoc]; exact h), List.append_assoc]
    rfl
theorem keys_zip {l : List (List Int)} {ws : List Int} (h : ws.length = l.length) : (l.zip ws).map (·.1) = l := List.map_fst_zip (Nat.le_of_eq h.symm)
theorem gs_nodup {n : Nat} (h : Ns n) : ([] :: gs n).Nodup := by
  have key : ∀ n ∈ [2, 3, 4], ([] :: gs n).Nodup := by decide
  exact key n h
def wt (n : Nat) (ws : List Int) : List (List Int × Int) := putAllD [([], 0)] ((gs n).zip ws)
theorem wt_eq {n : Nat} {ws : List Int} (h : GLen n ws) : wt n ws = ([], 0) :: (gs n).zip ws := by
  unfold wt
  refine putAll_fresh _ _ ?_
  show ([] :: ((gs n).zip ws).map (·.1)).Nodup
  rw [keys_zip h.l]
  exact gs_nodup h.hn
theorem wt_keys {n : Nat} {ws : List Int} (h : GLen n ws) : (wt n ws).map (·.1) = [] :: gs n := by
  rw [wt_eq h]
  show [] :: ((gs n).zip ws).map (·.1) = _
  rw [keys_zip h.l]
theorem wt_at {n : Nat} {ws : List Int} (h : GLen n ws) {g : List Int} (hg : g ∈ [] :: gs n) : lookD (wt n ws) g = some (look (wt n ws) g) := look_mem (by rw [wt_keys h]; exact hg)
/-! ## the program's functions, as lists -/
def othersL (n : Nat) (g : List Int) : List Int := (rgI 0 n).filter fun p => !decide (p ∈ g)
def joinedL : List Int → Int → List Int
  | [], p => [p]
  | x :: r, p => if p ≤ x then p :: x :: r else x :: joinedL r p
theorem joined_perm (p : Int) : ∀ g : List Int, (joinedL g p).Perm (g ++ [p])
  | [] => .refl _
  | x :: r => by
    unfold joinedL
    by_cases h : p ≤ x
    · rw [if_pos h]
      exact (List.perm_append_comm (l₁ := [p]) (l₂ := x :: r))
    · rw [if_neg h]
      exact (joined_perm p r).cons x
abbrev Up (l : List Int) : Prop := l.Pairwise (· ≤ ·)
theorem joined_sort {g : List Int} {p : Int} (h : Up (joinedL g p)) : sortI (g ++ [p]) = joinedL g p := (sortI_eq (joined_perm p g) h).symm
def liesL (a g : List Int) : Bool := a.all fun p => decide (p ∈ g)
def amongL (l : List Int) (n : Nat) : List (List Int) := [] :: (gs n).filter fun g => liesL g l
theorem others_in {n : Nat} (h : Ns n) : ∀ g ∈ gs n, othersL n g ∈ [] :: gs n := by
  have key : ∀ n ∈ [2, 3, 4], ∀ g ∈ gs n, othersL n g ∈ [] :: gs n := by decide
  exact key n h
theorem among_in {n : Nat} (h : Ns n) : ∀ p ∈ rgI 0 n, ∀ g ∈ amongL (othersL n [p]) n, joinedL g p ∈ [] :: gs n ∧ g ∈ [] :: gs n ∧ Up (joinedL g p) := by
  have key : ∀ n ∈ [2, 3, 4], ∀ p ∈ rgI 0 n, ∀ g ∈ amongL (othersL n [p]) n, joinedL g p ∈ [] :: gs n ∧ g ∈ [] :: gs n ∧ Up (joinedL g p) := by decide
  exact key n h
theorem grp_len {n : Nat} (h : Ns n) : ∀ g ∈ [] :: gs n, g.length ≤ 4 := by
  have key : ∀ n ∈ [2, 3, 4], ∀ g ∈ [] :: gs n, g.length ≤ 4 := by decide
  exact key n h
section
variable {P : Program} {w : World} {K : PySem.W.Frag} {mg : Str → Option Value} {base : Heap} {f : Addr} {fd : FuncData}
/-! ### check_group -/
def R_chkgrp : List Ent → Own → Ent → Own → Prop := fun es ω e ω' => ∃ (g : List Int) (m : Int), es = [.dat (tupI g), DL.I m] ∧ Grp m g ∧ e = .dat .none ∧ ω' = ω
/-! ### others, joined, lies_within, groups_among -/
abbrev s_others : Stmt := topS 28
theorem sc_others : FnScope ["many", "group", "person"] ["many", "group"] (defScope s_others) := ⟨rfl, rfl, rfl, by decide +kernel, rfl, by decide +kernel, by decide +kernel⟩
def R_others : List Ent → Own → Ent → Own → Prop := fun es ω e ω' => ∃ (n : Nat) (g : List Int), es = [DL.I n, .dat (tupI g)] ∧ Ns n ∧ e = .dat (tupI (othersL n g)) ∧ ω' = ω
theorem ok_others (F : Fun K "others" "others" s_others f fd) (hm : mg "others" = some (.ref f)) (b : Bare mg) : DFn P w K mg base 1 "others" R_others := by
  refine dfn_ret F hm (F.binds (ps := ["many", "group"]) fun _ _ _ _ _ _ us hl => match us, hl with | [_, _], _ => rfl) sc_others ?_ ?_
  · rintro es ω e ω' ⟨n, g, rfl, _⟩; rfl
  · rintro cdv A outer s H E hr es _ e ω ⟨n, g, rfl, hn, rfl, rfl⟩
    have := hn.le
    refine dr_ret (de_callT c_tupleL b.tuple boot_tuple (da_cons ?_ da_nil))
    exact de_map [("person", 2)] (as := rgI 0 n) (enc := DL.I) _ (fun x => !decide (x ∈ g)) (fun x => .int x) rfl sc_others.nd (di_range1 (n := (n : Int)) b.range (de_var 0) (by omega)) (fun _ _ _ _ _ => pg_name (i := 2) sc_others.nd rfl (Or.inl rfl)) (fun x hx => bnd_name)
      (fun _ _ _ _ _ ωd x hx => dts_one (dt_cmp o_notInT (de_var 2) (de_var 1))) (fun _ _ _ _ _ ωd x hx h => de_var 2) (by rw [rgI_len]; omega)
def R_joined : List Ent → Own → Ent → Own → Prop := fun es ω e ω' => ∃ (g : List Int) (p : Int), es = [.dat (tupI g), DL.I p] ∧ (g.length ≤ 100 ∧ Up (joinedL g p)) ∧ e = .dat (tupI (joinedL g p)) ∧ ω' = ω
def R_lies : List Ent → Own → Ent → Own → Prop := fun es ω e ω' => ∃ (a g : List Int), es = [.dat (tupI a), .dat (tupI g)] ∧ a.length ≤ 100 ∧ e = B (liesL a g) ∧ ω' = ω
def R_among : List Ent → Own → Ent → Own → Prop := fun es ω e ω' => ∃ (l : List Int) (n : Nat), es = [.dat (tupI l), DL.I n] ∧ Ns n ∧ e = .dat (.list (gsD (amongL l n))) ∧ ω' = ω
end
end G0

set_option Elab.async false
set_option linter.all false
set_option maxRecDepth 100000
set_option maxHeartbeats 2000000
namespace G0
open PySem PySem.Spec PyProof.Rows L2 DL CB ZM
theorem putD_len (t : List (List Int × Int)) (g : List Int) (n : Int) : (putD t g n).length ≤ t.length + 1 := by
  unfold putD
  split
  · rw [List.length_map]; omega
  · rw [List.length_append]; exact Nat.le_refl _
theorem putAll_snoc (acc kvs : List (List Int × Int)) (p : List Int × Int) : putAllD acc (kvs ++ [p]) = putD (putAllD acc kvs) p.1 p.2 := by
  unfold putAllD
  rw [List.foldl_append]
  rfl
theorem putAll_len : ∀ (kvs acc : List (List Int × Int)), (putAllD acc kvs).length ≤ acc.length + kvs.length
  | [], acc => Nat.le_refl _
  | p :: kvs, acc => by
    have h1 := putAll_len kvs (putD acc p.1 p.2)
    have h2 := putD_len acc p.1 p.2
    show (putAllD (putD acc p.1 p.2) kvs).length ≤ _
    rw [List.length_cons]
    omega
theorem take_snoc {α : Type} {l : List α} {k : Nat} {x : α} (h : l[k]? = some x) : l.take (k + 1) = l.take k ++ [x] := by
  rw [List.take_add_one, h]
  rfl
theorem zipG_at {l : List (List Int)} {ws : List Int} {k : Nat} {x : Ent} (h : ((l.zip ws).map fun p => Ent.dat (.tuple [tupI p.1, .int p.2]))[k]? = some x) : ∃ p, (l.zip ws)[k]? = some p ∧ x = .dat (.tuple [tupI p.1, .int p.2]) := by
  rw [List.getElem?_map] at h
  cases e : (l.zip ws)[k]? with
  | none => rw [e] at h; cases h
  | some p => rw [e] at h; cases h; exact ⟨p, rfl, rfl⟩
section
variable {P : Program} {w : World} {K : PySem.W.Frag} {mg : Str → Option Value} {base : Heap} {f : Addr} {fd : FuncData}
/-! ### worth_table -/
def R_wt : List Ent → Own → Ent → Own → Prop := fun es ω e ω' => ∃ (n : Nat) (ws : List Int), es = [.dat (tupI ws)] ∧ GLen n ws ∧ e = .dct (wt n ws) ∧ ω' = ω
/-! ### turned_worths, added_worths -/
def lst (ws : List Int) : Int := ws.getLastD 0
theorem last_atI {ws : List Int} (h : 1 ≤ ws.length) : L2.atI (ws.map PyData.int) (-1) = some (.int (lst ws)) := by
  unfold L2.atI L2.ixN
  rw [if_neg (by decide), if_pos (by rw [List.length_map]; omega), List.length_map]
  have e : (-1 + (ws.length : Int)).toNat = ws.length - 1 := by omega
  show (ws.map PyData.int)[(_ : Nat)]? = _
  rw [e, List.getElem?_map, ← List.getLast?_eq_getElem?]
  unfold lst
  cases h2 : ws.getLast? with
  | none =>
    have := List.getLast?_eq_none_iff.mp h2
    subst this
    exact absurd h (by decide)
  | some x => rw [List.getLastD_eq_getLast?, h2]; rfl
def turnedL (n : Nat) (ws : List Int) : List Int := (gs n).map fun g => lst ws - look (wt n ws) (othersL n g)
def addedL (n : Nat) (ws : List Int) (p : Int) : List Int := (amongL (othersL n [p]) n).map fun g => look (wt n ws) (joinedL g p) - look (wt n ws) g
def R_turnw : List Ent → Own → Ent → Own → Prop := fun es ω e ω' => ∃ (n : Nat) (ws : List Int), es = [.dat (tupI ws)] ∧ GLen n ws ∧ e = .dat (tupI (turnedL n ws)) ∧ ω' = ω
theorem GLen.pos {n : Nat} {ws : List Int} (h : GLen n ws) : 1 ≤ ws.length := by
  have key : ∀ n ∈ [2, 3, 4], 1 ≤ (gs n).length := by decide
  rw [h.l]
  exact key n h.hn
def R_addw : List Ent → Own → Ent → Own → Prop := fun es ω e ω' => ∃ (n : Nat) (ws : List Int) (p : Int), es = [.dat (tupI ws), DL.I p] ∧ (GLen n ws ∧ p ∈ rgI 0 n) ∧ e = .dat (tupI (addedL n ws p)) ∧ ω' = ω
theorem among_len {n : Nat} (h : Ns n) (l : List Int) : (amongL l n).length ≤ 16 := by
  unfold amongL
  rw [List.length_cons]
  have := List.length_filter_le (fun g => liesL g l) (gs n)
  have h2 : (gs n).length ≤ 15 := gsN_len h (Nat.le_refl n)
  omega
end
end G0

set_option Elab.async false
set_option linter.all false
set_option maxRecDepth 100000
set_option maxHeartbeats 2000000
namespace G0
open PySem PySem.Spec PyProof.Rows L2 DL CB ZM
theorem grp_of {n : Nat} (h : Ns n) : ∀ g ∈ [] :: gs n, Grp n g := by
  have key : ∀ n ∈ [2, 3, 4], ∀ g ∈ [] :: gs n, (∀ x ∈ g, 0 ≤ x ∧ x < (n : Int)) ∧ (ups g).all id = true ∧ g.length ≤ 4 := by decide
  intro g hg
  obtain ⟨a, b, c⟩ := key n h g hg
  exact ⟨a, b, c⟩
/-! ### dividends, as a list -/
def divStep (t : List (List Int × Int)) (p : List Int × Int) : List (List Int × Int) := putD t p.1 (p.2 - ((t.filter fun q => liesL q.1 p.1).map fun q => look t q.1).sum)
def divK (n : Nat) (ws : List Int) (k : Nat) : List (List Int × Int) := (((gs n).zip ws).take k).foldl divStep []
def divL (n : Nat) (ws : List Int) : List Int := (((gs n).zip ws).foldl divStep []).map (·.2)
theorem divK_succ {n : Nat} {ws : List Int} {k : Nat} {p : List Int × Int} (h : ((gs n).zip ws)[k]? = some p) : divK n ws (k + 1) = divStep (divK n ws k) p := by
  unfold divK
  rw [take_snoc h, List.foldl_append]
  rfl
theorem fold_len : ∀ (l t : List (List Int × Int)), (l.foldl divStep t).length ≤ t.length + l.length
  | [], t => Nat.le_refl _
  | p :: l, t => by
    have h1 := fold_len l (divStep t p)
    have h2 : (divStep t p).length ≤ t.length + 1 := putD_len _ _ _
    show (l.foldl divStep (divStep t p)).length ≤ _
    rw [List.length_cons]
    omega
theorem putD_keys {t : List (List Int × Int)} {g h : List Int} {n : Int} (z : h ∈ (putD t g n).map (·.1)) : h ∈ t.map (·.1) ∨ h = g := by
  unfold putD at z
  split at z
  · rw [List.map_map] at z
    obtain ⟨p, hp, e⟩ := List.mem_map.mp z
    left
    refine List.mem_map.mpr ⟨p, hp, ?_⟩
    rw [← e]
    show p.1 = (if p.1 = g then (p.1, n) else p).1
    split <;> rfl
  · rw [List.map_append] at z
    rcases List.mem_append.mp z with z | z
    · exact .inl z
    · exact .inr (by simpa using z)
theorem fold_keys : ∀ (l t : List (List Int × Int)) (h : List Int), h ∈ (l.foldl divStep t).map (·.1) → h ∈ t.map (·.1) ∨ h ∈ l.map (·.1)
  | [], t, h, z => .inl z
  | p :: l, t, h, z => by
    rcases fold_keys l (divStep t p) h z with y | y
    · rcases putD_keys y with q | q
      · exact .inl q
      · exact .inr (by rw [q]; simp)
    · exact .inr (List.mem_cons_of_mem _ y)
theorem dr_dropR {X : Cx} {ω ω' : Own} {ρ : Rho} {ss : List Stmt} {e : Ent} {p : Addr} {c : OC} (h : DR X ω ρ ss e (ω' ++ [(p, c)])) : DR X ω ρ ss e ω' :=
  pss_w h fun D σ H ⟨hE, q⟩ => ⟨hE, fun v H' kk oo rr => q v H' kk oo.pre (rr.sub fun a ha => by rw [dom_app]; exact List.mem_append_left _ ha)⟩
section
variable {P : Program} {w : World} {K : PySem.W.Frag} {mg : Str → Option Value} {base : Heap} {f : Addr} {fd : FuncData}
def R_people : List Ent → Own → Ent → Own → Prop := fun es ω e ω' => ∃ (n : Nat) (ws : List Int), es = [.dat (tupI ws)] ∧ Game n ws ∧ e = DL.I n ∧ ω' = ω
def R_worth : List Ent → Own → Ent → Own → Prop := fun es ω e ω' => ∃ (n : Nat) (ws : List Int) (h : List Int), es = [.dat (tupI ws), .dat (tupI h)] ∧ (Game n ws ∧ h ∈ [] :: gs n) ∧ e = DL.I (look (wt n ws) h) ∧ ω' = ω
def R_turned : List Ent → Own → Ent → Own → Prop := fun es ω e ω' => ∃ (n : Nat) (ws : List Int), es = [.dat (tupI ws)] ∧ Game n ws ∧ e = .dat (tupI (turnedL n ws)) ∧ ω' = ω
def R_added : List Ent → Own → Ent → Own → Prop := fun es ω e ω' => ∃ (n : Nat) (ws : List Int) (p : Int), es = [.dat (tupI ws), DL.I p] ∧ (Game n ws ∧ p ∈ rgI 0 n) ∧ e = .dat (tupI (addedL n ws p)) ∧ ω' = ω
theorem rgI_mem {n : Nat} {p : Int} (h : p ∈ rgI 0 n) : 0 ≤ p ∧ p < (n : Int) := by
  unfold rgI at h
  obtain ⟨k, hk, e⟩ := List.mem_map.mp h
  have := List.mem_range.mp hk
  omega
def R_div : List Ent → Own → Ent → Own → Prop := fun es ω e ω' => ∃ (n : Nat) (ws : List Int), es = [.dat (tupI ws)] ∧ Game n ws ∧ e = .dat (tupI (divL n ws)) ∧ ω' = ω
end
end G0

set_option Elab.async false
set_option linter.all false
set_option maxRecDepth 100000
set_option maxHeartbeats 2000000
namespace G0
open PySem PySem.Spec PyProof.Rows L2 DL CB ZM
/-! ## the law's defs -/
/-- the place in the script, the mixed number, what is left of a great cell -/
structure St3 where
  k : Int
  s : Int
  r : Int
abbrev St3.oc (t : St3) (K : PySem.W.Frag) (scr : Addr) (ns : List Int) : OC := .row K scr ns t.k t.s t.r
def takenV (ns : List Int) (t : St3) (m : Int) : Int :=
  if 0 < t.r then t.r % m
  else if (ns.length : Int) < t.k + 1 then ((t.s * 48271 + 11) % 2147483647 / 7) % m
  else (ns.getD t.k.toNat 0) % m
def takenS (ns : List Int) (t : St3) (m : Int) : St3 :=
  if 0 < t.r then ⟨t.k, t.s, t.r / m⟩
  else if (ns.length : Int) < t.k + 1 then ⟨t.k + 1, (t.s * 48271 + 11) % 2147483647, t.r⟩
  else ⟨t.k + 1, (t.s * 48271 + ns.getD t.k.toNat 0 + 11) % 2147483647, if (10 : Int) ^ 18 ≤ ns.getD t.k.toNat 0 then ns.getD t.k.toNat 0 / m else t.r⟩
theorem takenV_range {ns : List Int} {t : St3} {m : Int} (h : 0 < m) : 0 ≤ takenV ns t m ∧ takenV ns t m < m := by
  unfold takenV
  split
  · exact ⟨Int.emod_nonneg _ (Int.ne_of_gt h), Int.emod_lt_of_pos _ h⟩
  · split
    · exact ⟨Int.emod_nonneg _ (Int.ne_of_gt h), Int.emod_lt_of_pos _ h⟩
    · exact ⟨Int.emod_nonneg _ (Int.ne_of_gt h), Int.emod_lt_of_pos _ h⟩
theorem takenS_k {ns : List Int} {t : St3} {m : Int} (h : 0 ≤ t.k) : 0 ≤ (takenS ns t m).k := by
  unfold takenS
  split
  · exact h
  · split
    · show 0 ≤ t.k + 1; omega
    · show 0 ≤ t.k + 1; omega
section
variable {X : Cx} {i j : Int}
theorem o_gtT (h : j < i) : Op2 X (compareOp .Gt) (DL.I i) (DL.I j) (B true) := by have q := o_gt (X := X) (i := i) (j := j); rw [decide_eq_true h] at q; exact q
theorem o_gtF (h : ¬ j < i) : Op2 X (compareOp .Gt) (DL.I i) (DL.I j) (B false) := by have q := o_gt (X := X) (i := i) (j := j); rw [decide_eq_false h] at q; exact q
theorem o_geT (h : j ≤ i) : Op2 X (compareOp .GtE) (DL.I i) (DL.I j) (B true) := by have q := o_ge (X := X) (i := i) (j := j); rw [decide_eq_true h] at q; exact q
theorem o_geF (h : ¬ j ≤ i) : Op2 X (compareOp .GtE) (DL.I i) (DL.I j) (B false) := by have q := o_ge (X := X) (i := i) (j := j); rw [decide_eq_false h] at q; exact q
end
theorem atI_nat {α : Type} {l : List α} {i : Int} {x : α} (h0 : 0 ≤ i) (h : l[i.toNat]? = some x) : L2.atI l i = some x := by
  have hl := (List.getElem?_eq_some_iff.mp h).1
  unfold L2.atI L2.ixN
  rw [if_pos h0, if_pos (by omega)]
  exact h
section
variable {P : Program} {w : World} {K : PySem.W.Frag} {mg : Str → Option Value} {base : Heap} {f : Addr} {fd : FuncData}
abbrev s_taken : Stmt := topS 55
theorem sc_taken : FnScope ["row", "many", "found", "cell"] ["row", "many"] (defScope s_taken) := ⟨rfl, rfl, rfl, by decide +kernel, rfl, by decide +kernel, by decide +kernel⟩
def R_taken (K : PySem.W.Frag) : List Ent → Own → Ent → Own → Prop := fun es ω e ω' => ∃ (p scr : Addr) (ns : List Int) (t : St3) (m : Int) (ωa ωb : Own), es = [.own p, DL.I m] ∧ (0 < m ∧ m < 1000 ∧ 0 ≤ t.k) ∧ ω = ωa ++ (p, t.oc K scr ns) :: ωb ∧ e = DL.I (takenV ns t m) ∧ ω' = ωa ++ (p, (takenS ns t m).oc K scr ns) :: ωb
theorem ok_taken (F : Fun K "_law_taken" "_law_taken" s_taken f fd) (hm : mg "_law_taken" = some (.ref f)) (b : Bare mg) : DFn P w K mg base 1 "_law_taken" (R_taken K) := by
  refine dfn_ret F hm (F.binds (ps := ["row", "many"]) fun _ _ _ _ _ _ us hl => match us, hl with | [_, _], _ => rfl) sc_taken ?_ ?_
  · rintro es ω e ω' ⟨p, scr, ns, t, m, ωa, ωb, rfl, _⟩; rfl
  · rintro cdv A outer s H E hr es ω e ω' ⟨p, scr, ns, t, m, ωa, ωb, rfl, ⟨m0, m1, k0⟩, rfl, rfl, rfl⟩
    obtain ⟨k, s, r⟩ := t
    have k0 : 0 ≤ k := k0
    have hin : ∀ {c : OC}, (p, c) ∈ ωa ++ (p, c) :: ωb := by intro c; simp
    have cd : CDiv r m := ⟨m0, by omega⟩
    by_cases h1 : 0 < r
    · have eV : takenV ns ⟨k, s, r⟩ m = r % m := if_pos h1
      have eS : takenS ns ⟨k, s, r⟩ m = ⟨k, s, r / m⟩ := if_pos h1
      rw [eV, eS]
      refine dr_ifT (ω1 := ωa ++ (p, OC.row K scr ns k s r) :: ωb) (dt_cmp (o_gtT h1) (de_rowI (n := r) (de_var 0) de_int hin rfl) de_int) ?_
      refine dr_cons (dn_set 2 sc_taken.nd (de_op (o_mod m0) (de_callT c_int b.int boot_int (da_cons (de_rowI (n := r) (de_var 0) de_int hin rfl) da_nil)) (de_var 1))) ?_
      exact dr_cons (dn_rowSet (ns := ns) (k := k) (s := s) (r := r) (k' := k) (s' := s) (r' := r / m) (n := r / m) (m := 3) ωa ωb rfl (de_op (o_fdiv cd) (de_rowI (n := r) (de_var 0) de_int hin rfl) (de_var 1)) (de_var 0) de_int rfl rfl rfl) (dr_ret (de_var 2))
    · refine dr_ifF (ω1 := ωa ++ (p, OC.row K scr ns k s r) :: ωb) (dt_cmp (o_gtF h1) (de_rowI (n := r) (de_var 0) de_int hin rfl) de_int) ?_
      refine dr_cons (dn_rowSet (ns := ns) (k := k) (s := s) (r := r) (k' := k + 1) (s' := s) (r' := r) (n := k + 1) (m := 1) ωa ωb rfl (de_op o_add (de_rowI (n := k) (de_var 0) de_int hin rfl) de_int) (de_var 0) de_int rfl rfl rfl) ?_
      by_cases h2 : (ns.length : Int) < k + 1
      · have eV : takenV ns ⟨k, s, r⟩ m = ((s * 48271 + 11) % 2147483647 / 7) % m := (if_neg h1).trans (if_pos h2)
        have eS : takenS ns ⟨k, s, r⟩ m = ⟨k + 1, (s * 48271 + 11) % 2147483647, r⟩ := (if_neg h1).trans (if_pos h2)
        rw [eV, eS]
        refine dr_ifT (ω1 := ωa ++ (p, OC.row K scr ns (k + 1) s r) :: ωb) (dt_cmp (o_gtT h2) (de_rowI (n := k + 1) (de_var 0) de_int hin rfl) (de_rowLen (de_rowS (ns := ns) (k := k + 1) (s := s) (r := r) (de_var 0) de_int hin rfl) (ns := ns) (k := k + 1) (s := s) (r := r) (p := p) hin b.len)) ?_
        refine dr_cons (dn_rowSet (ns := ns) (k := k + 1) (s := s) (r := r) (k' := k + 1) (s' := (s * 48271 + 11) % 2147483647) (r' := r) (n := (s * 48271 + 11) % 2147483647) (m := 2) ωa ωb rfl
          (de_op (o_mod (by decide)) (de_callT c_int b.int boot_int (da_cons (de_op o_add (de_op (o_mul (.inr (by decide))) (de_rowI (n := s) (de_var 0) de_int hin rfl) de_int) de_int) da_nil)) de_int) (de_var 0) de_int rfl rfl rfl) ?_
        exact dr_ret (de_op (o_mod m0) (de_callT c_int b.int boot_int (da_cons (de_op (o_fdiv ⟨by decide, by decide⟩) (de_rowI (n := (s * 48271 + 11) % 2147483647) (de_var 0) de_int hin rfl) de_int) da_nil)) (de_var 1))
      · have eV : takenV ns ⟨k, s, r⟩ m = (ns.getD k.toNat 0) % m := (if_neg h1).trans (if_neg h2)
        have eS : takenS ns ⟨k, s, r⟩ m = ⟨k + 1, (s * 48271 + ns.getD k.toNat 0 + 11) % 2147483647, if (10 : Int) ^ 18 ≤ ns.getD k.toNat 0 then ns.getD k.toNat 0 / m else r⟩ := (if_neg h1).trans (if_neg h2)
        rw [eV, eS]
        have hk : ns[k.toNat]? = some (ns.getD k.toNat 0) := by
          have : k.toNat < ns.length := by omega
          rw [List.getElem?_eq_getElem this, List.getD_eq_getElem?_getD, List.getElem?_eq_getElem this]
          rfl
        generalize ns.getD k.toNat 0 = c at hk ⊢
        have hc : L2.atI ns (k + 1 - 1) = some c := atI_nat (by omega) (by rw [show k + 1 - 1 = k by omega]; exact hk)
        refine dr_ifF (ω1 := ωa ++ (p, OC.row K scr ns (k + 1) s r) :: ωb) (dt_cmp (o_gtF h2) (de_rowI (n := k + 1) (de_var 0) de_int hin rfl) (de_rowLen (de_rowS (ns := ns) (k := k + 1) (s := s) (r := r) (de_var 0) de_int hin rfl) (ns := ns) (k := k + 1) (s := s) (r := r) (p := p) hin b.len)) ?_
        refine dr_cons (dn_set 3 sc_taken.nd (de_rowCell (ns := ns) (k := k + 1) (s := s) (r := r) (p := p) (de_rowS (ns := ns) (k := k + 1) (s := s) (r := r) (de_var 0) de_int hin rfl) (de_op o_sub (de_rowI (n := k + 1) (de_var 0) de_int hin rfl) de_int) hin hc)) ?_
        refine dr_cons (dn_rowSet (ns := ns) (k := k + 1) (s := s) (r := r) (k' := k + 1) (s' := (s * 48271 + c + 11) % 2147483647) (r' := r) (n := (s * 48271 + c + 11) % 2147483647) (m := 2) ωa ωb rfl
          (de_op (o_mod (by decide)) (de_callT c_int b.int boot_int (da_cons (de_op o_add (de_op o_add (de_op (o_mul (.inr (by decide))) (de_rowI (n := s) (de_var 0) de_int hin rfl) de_int) (de_var 3)) de_int) da_nil)) de_int) (de_var 0) de_int rfl rfl rfl) ?_
        have cd : CDiv c m := ⟨m0, by omega⟩
        by_cases h3 : (10 : Int) ^ 18 ≤ c
        · rw [if_pos h3]
          refine dr_cons (dn_ifT (dt_cmp (o_geT (j := (10 : Int) ^ (18 : Int).toNat) h3) (de_var 3) (de_op (o_pow ⟨by decide, by decide, by decide⟩) de_int de_int)) (dns_one (dn_rowSet (ns := ns) (k := k + 1) (s := (s * 48271 + c + 11) % 2147483647) (r := r) (k' := k + 1) (s' := (s * 48271 + c + 11) % 2147483647) (r' := c / m) (n := c / m) (m := 3) ωa ωb rfl
            (de_op (o_fdiv cd) (de_var 3) (de_var 1)) (de_var 0) de_int rfl rfl rfl))) ?_
          exact dr_ret (de_op (o_mod m0) (de_callT c_int b.int boot_int (da_cons (de_var 3) da_nil)) (de_var 1))
        · rw [if_neg h3]
          refine dr_cons (dn_ifF (dt_cmp (o_geF (j := (10 : Int) ^ (18 : Int).toNat) h3) (de_var 3) (de_op (o_pow ⟨by decide, by decide, by decide⟩) de_int de_int))) ?_
          exact dr_ret (de_op (o_mod m0) (de_callT c_int b.int boot_int (da_cons (de_var 3) da_nil)) (de_var 1))
end
end G0

set_option Elab.async false
set_option linter.all false
set_option maxRecDepth 100000
set_option maxHeartbeats 2000000
namespace G0
open PySem PySem.Spec PyProof.Rows L2 DL CB ZM
section
variable {P : Program} {w : World} {K : PySem.W.Frag} {mg : Str → Option Value} {base : Heap} {f : Addr} {fd : FuncData}
/-! ### _law_pick -/
abbrev s_pick : Stmt := topS 56
theorem sc_pick : FnScope ["row", "kinds"] ["row", "kinds"] (defScope s_pick) := ⟨rfl, rfl, rfl, by decide +kernel, rfl, by decide +kernel, by decide +kernel⟩
def R_pick (K : PySem.W.Frag) : List Ent → Own → Ent → Own → Prop := fun es ω e ω' => ∃ (p scr : Addr) (ns : List Int) (t : St3) (ds : List PyData) (ωa ωb : Own), es = [.own p, .dat (.list ds)] ∧ (1 ≤ ds.length ∧ ds.length < 1000 ∧ 0 ≤ t.k) ∧ ω = ωa ++ (p, t.oc K scr ns) :: ωb ∧ e = .dat (ds.getD (takenV ns t ds.length).toNat .none) ∧ ω' = ωa ++ (p, (takenS ns t ds.length).oc K scr ns) :: ωb
theorem dom_put {ωa ωb : Own} {p : Addr} {c c' : OC} : dom (ωa ++ (p, c') :: ωb) = dom (ωa ++ (p, c) :: ωb) := by simp [dom]
theorem ok_pick (F : Fun K "_law_pick" "_law_pick" s_pick f fd) (hm : mg "_law_pick" = some (.ref f)) (b : Bare mg) (I1 : DFn P w K mg base 1 "_law_taken" (R_taken K)) : DFn P w K mg base 2 "_law_pick" (R_pick K) := by
  refine dfn_ret F hm (F.binds (ps := ["row", "kinds"]) fun _ _ _ _ _ _ us hl => match us, hl with | [_, _], _ => rfl) sc_pick ?_ ?_
  · rintro es ω e ω' ⟨p, scr, ns, t, ds, ωa, ωb, rfl, _⟩; rfl
  · rintro cdv A outer s H E hr es ω e ω' ⟨p, scr, ns, t, ds, ωa, ωb, rfl, ⟨h1, h2, k0⟩, rfl, rfl, rfl⟩
    have hv := takenV_range (ns := ns) (t := t) (m := (ds.length : Nat)) (by omega)
    refine dr_ret (de_ixL (i := takenV ns t (ds.length : Nat)) (de_var 1) (de_call I1 hr (da_cons (de_var 0) (da_cons (de_callB c_lenL b.len boot_len (da_cons (de_var 1) da_nil)) da_nil)) ⟨p, scr, ns, t, (ds.length : Nat), ωa, ωb, rfl, ⟨by omega, by omega, k0⟩, rfl, rfl, rfl⟩ dom_put) (atI_nat hv.1 ?_))
    have : (takenV ns t (ds.length : Nat)).toNat < ds.length := by omega
    rw [List.getElem?_eq_getElem this, List.getD_eq_getElem?_getD, List.getElem?_eq_getElem this]
    rfl
end
end G0

set_option Elab.async false
set_option linter.all false
set_option maxRecDepth 100000
set_option maxHeartbeats 2000000
namespace G0
open PySem PySem.Spec PyProof.Rows L2 DL CB ZM
section
variable {X : Cx} {i j : Int}
theorem o_isNoneI : Op2 X (compareOp .Is) (DL.I i) (.dat .none) (B false) :=
  ⟨_, op_isN, fun ω x y H Q o rx ry q => by
    cases rx.int
    cases ry
    exact ⟨rfl, q _ H (.refl o) (.ofBool _)⟩⟩
theorem o_neIF (h : i = j) : Op2 X (compareOp .NotEq) (DL.I i) (DL.I j) (B false) := by have q := o_neI (X := X) (i := i) (j := j); rw [decide_eq_true h] at q; exact q
theorem o_neIT (h : i ≠ j) : Op2 X (compareOp .NotEq) (DL.I i) (DL.I j) (B true) := by have q := o_neI (X := X) (i := i) (j := j); rw [decide_eq_false h] at q; exact q
theorem o_eqIT (h : i = j) : Op2 X (compareOp .Eq) (DL.I i) (DL.I j) (B true) := by have q := o_eqI (X := X) (i := i) (j := j); rw [decide_eq_true h] at q; exact q
theorem o_eqNil (hu : X.A.units + 64 < cLine) {ds : List PyData} (h : ds = []) : Op2 X (compareOp .Eq) (.dat (.list ds)) (.dat (.list [])) (B true) := by
  subst h
  exact o_eqD hu (d := .list []) (e := .list []) rfl rfl
end
section
variable {P : Program} {w : World} {K : PySem.W.Frag} {mg : Str → Option Value} {base : Heap} {f : Addr} {fd : FuncData}
/-! ### _law_alike of a value and itself -/
def Pl : Nat → PyData → Prop
  | 0, d => ∃ i, d = .int i
  | n + 1, d => (∃ i, d = .int i) ∨ ∃ ds, d = .tuple ds ∧ ds.length ≤ 100 ∧ ∀ x ∈ ds, Pl n x
abbrev s_alike : Stmt := topS 57
theorem sc_alike : FnScope ["found", "due", "k"] ["found", "due"] (defScope s_alike) := ⟨rfl, rfl, rfl, by decide +kernel, rfl, by decide +kernel, by decide +kernel⟩
def R_alike (n : Nat) : List Ent → Own → Ent → Own → Prop := fun es ω e ω' => ∃ d, es = [.dat d, .dat d] ∧ Pl n d ∧ e = B true ∧ ω' = ω
theorem Pl.int {n : Nat} (i : Int) : Pl n (.int i) := by
  cases n with
  | zero => exact ⟨i, rfl⟩
  | succ n => exact .inl ⟨i, rfl⟩
theorem Pl.tupI {n : Nat} {g : List Int} (h : g.length ≤ 100) : Pl (n + 1) (tupI g) := by
  refine .inr ⟨_, rfl, by rw [List.length_map]; exact h, fun x hx => ?_⟩
  obtain ⟨i, _, rfl⟩ := List.mem_map.mp hx
  exact .int i
theorem Pl.grps {n : Nat} {l : List (List Int)} (h : l.length ≤ 100) (h2 : ∀ g ∈ l, g.length ≤ 100) : Pl (n + 2) (.tuple (gsD l)) := by
  refine .inr ⟨_, rfl, by unfold gsD; rw [List.length_map]; exact h, fun x hx => ?_⟩
  obtain ⟨g, hg, rfl⟩ := List.mem_map.mp hx
  exact Pl.tupI (h2 g hg)
theorem ok_alike (F : Fun K "_law_alike" "_law_alike" s_alike f fd) (hm : mg "_law_alike" = some (.ref f)) (b : Bare mg) : ∀ n : Nat, DFn P w K mg base (n + 1) "_law_alike" (R_alike n) := by
  intro n
  induction n with
  | zero =>
    refine dfn_ret F hm (F.binds (ps := ["found", "due"]) fun _ _ _ _ _ _ us hl => match us, hl with | [_, _], _ => rfl) sc_alike ?_ ?_
    · rintro es ω e ω' ⟨d, rfl, _⟩; rfl
    · rintro cdv A outer s H E hr es _ e ω ⟨d, rfl, ⟨i, rfl⟩, rfl, rfl⟩
      refine dr_ifF (ω1 := ω) (dt_val (de_isi2 (d := .int i) (k := false) (l := false) b.isinst (de_var 1) b.tuple boot_tuple b.list boot_list rfl rfl)) ?_
      refine dr_ifF (ω1 := ω) (dt_w (dw_or (k := false) (l := false) (dt_cmp o_isNoneI (de_var 1) de_non) fun _ => dw_or1 (dt_val (de_callB (c_isi (T := "str") rfl) b.isinst boot_isinstance (da_cons (de_var 1) (da_cons (de_ty b.str boot_str) da_nil)))))) ?_
      refine dr_ret (de_and (k := true) (l := true) (de_callB (c_isi (T := "int") rfl) b.isinst boot_isinstance (da_cons (de_var 0) (da_cons (de_ty b.int boot_int) da_nil))) fun _ => de_and (k := true) (l := true) (de_cmp (o_eqB (k := false) (l := false)) (de_callB (c_isi (T := "bool") rfl) b.isinst boot_isinstance (da_cons (de_var 0) (da_cons (de_ty b.bool boot_bool) da_nil)))
        (de_callB (c_isi (T := "bool") rfl) b.isinst boot_isinstance (da_cons (de_var 1) (da_cons (de_ty b.bool boot_bool) da_nil)))) fun _ => de_one (de_cmp (o_eqIT rfl) (de_var 0) (de_var 1)))
  | succ n ih =>
    refine dfn_ret F hm (F.binds (ps := ["found", "due"]) fun _ _ _ _ _ _ us hl => match us, hl with | [_, _], _ => rfl) sc_alike ?_ ?_
    · rintro es ω e ω' ⟨d, rfl, _⟩; rfl
    · rintro cdv A outer s H E hr es _ e ω ⟨d, rfl, ⟨i, rfl⟩ | ⟨ds, rfl, hz, hp⟩, rfl, rfl⟩
      · refine dr_ifF (ω1 := ω) (dt_val (de_isi2 (d := .int i) (k := false) (l := false) b.isinst (de_var 1) b.tuple boot_tuple b.list boot_list rfl rfl)) ?_
        refine dr_ifF (ω1 := ω) (dt_w (dw_or (k := false) (l := false) (dt_cmp o_isNoneI (de_var 1) de_non) fun _ => dw_or1 (dt_val (de_callB (c_isi (T := "str") rfl) b.isinst boot_isinstance (da_cons (de_var 1) (da_cons (de_ty b.str boot_str) da_nil)))))) ?_
        refine dr_ret (de_and (k := true) (l := true) (de_callB (c_isi (T := "int") rfl) b.isinst boot_isinstance (da_cons (de_var 0) (da_cons (de_ty b.int boot_int) da_nil))) fun _ => de_and (k := true) (l := true) (de_cmp (o_eqB (k := false) (l := false)) (de_callB (c_isi (T := "bool") rfl) b.isinst boot_isinstance (da_cons (de_var 0) (da_cons (de_ty b.bool boot_bool) da_nil)))
          (de_callB (c_isi (T := "bool") rfl) b.isinst boot_isinstance (da_cons (de_var 1) (da_cons (de_ty b.bool boot_bool) da_nil)))) fun _ => de_one (de_cmp (o_eqIT rfl) (de_var 0) (de_var 1)))
      · have hu := hr.units
        refine dr_ifT (ω1 := ω) (dt_val (de_isi2 (d := .tuple ds) (k := true) (l := false) b.isinst (de_var 1) b.tuple boot_tuple b.list boot_list rfl rfl)) ?_
        refine dr_ifF (ω1 := ω) (dt_w (dw_or (k := false) (l := false) (dt_not (k := true) (dt_val (de_isi2 (d := .tuple ds) (k := true) (l := false) b.isinst (de_var 0) b.tuple boot_tuple b.list boot_list rfl rfl))) fun _ => dw_or1 (dt_cmp (k := false) (o_neB (k := false) (l := false)) (de_callB (c_isi (T := "list") rfl) b.isinst boot_isinstance (da_cons (de_var 0) (da_cons (de_ty b.list boot_list) da_nil)))
          (de_callB (c_isi (T := "list") rfl) b.isinst boot_isinstance (da_cons (de_var 1) (da_cons (de_ty b.list boot_list) da_nil)))))) ?_
        refine dr_ifF (ω1 := ω) (dt_cmp (o_neIF rfl) (de_callB c_lenT b.len boot_len (da_cons (de_var 0) da_nil)) (de_callB c_lenT b.len boot_len (da_cons (de_var 1) da_nil))) ?_
        refine dr_ret (de_cmp (o_eqNil hu ?_) (de_map [("k", 2)] (as := rgI 0 ds.length) (enc := DL.I) _ (fun _ => false) (fun x => .int x) rfl sc_alike.nd (di_range1 (n := (ds.length : Nat)) b.range (de_callB c_lenT b.len boot_len (da_cons (de_var 1) da_nil)) (by omega)) (fun _ _ _ _ _ => pg_name (i := 2) sc_alike.nd rfl (Or.inl rfl)) (fun x hx => bnd_name)
          (fun _ _ _ _ _ ωd x hx => ?_) (fun _ _ _ _ _ ωd x hx h => de_var 2) (by rw [rgI_len]; omega)) (de_lst (ds := []) da_nil (by decide)))
        · rw [List.filter_eq_nil_iff.mpr fun _ _ z => Bool.noConfusion z]
          rfl
        · have hb := rgI_mem hx
          have hlt : x.toNat < ds.length := by omega
          have ha : L2.atI ds x = some ds[x.toNat] := atI_nat hb.1 (List.getElem?_eq_getElem hlt)
          exact dts_one (dt_not (k := true) (dt_val (de_call ih hr (da_cons (de_ixT (de_var 0) (de_var 2) ha) (da_cons (de_ixT (de_var 1) (de_var 2) ha) da_nil)) ⟨_, rfl, hp _ (List.getElem_mem hlt), rfl, rfl⟩)))
end
end G0

set_option Elab.async false
set_option linter.all false
set_option maxRecDepth 100000
set_option maxHeartbeats 2000000
namespace G0
open PySem PySem.Spec PyProof.Rows L2 DL CB ZM
section
variable {X : Cx}
theorem o_catA {d e : List PyData} (hz : d.length + e.length ≤ sizeLine) : Op2 X (binaryOp .Add) (.dat (.tuple d)) (.dat (.tuple e)) (.dat (.tuple (d ++ e))) :=
  ⟨_, op_catA, fun ω x y H Q o rx ry q => by
    obtain ⟨p, xs, rfl, n, e1, r⟩ := rx.tup
    obtain ⟨p', ys, rfl, n', e2, r'⟩ := ry.tup
    refine ⟨p, p', xs, ys, rfl, rfl, SqT.of e1, SqT.of e2, by rw [r.length, r'.length]; exact hz, fun z => ?_, fun _ z => ?_, fun _ _ t nt => q _ _ (Xt.upd o nt) (.newT o nt (r.append r'))⟩
    · subst z
      cases r
      exact q _ H (.refl o) ry
    · subst z
      cases r'
      rw [List.append_nil] at q
      exact q _ H (.refl o) rx⟩
theorem o_neTI (hu : X.A.units + 64 < cLine) {g h : List Int} {k : Bool} (e : PyData.eqv (tupI g) (tupI h) = !k) (hg : SeqAt.shaped (tupI g) = true) (hh : SeqAt.shaped (tupI h) = true) : Op2 X (compareOp .NotEq) (.dat (tupI g)) (.dat (tupI h)) (B k) := by
  have q := o_neD hu (d := tupI g) (e := tupI h) hg hh
  rw [e, Bool.not_not] at q
  exact q
end
theorem lay_ints : ∀ g : List Int, PyData.canLayAll0 (g.map .int) = true ∧ PyData.depthAll (g.map .int) = 0
  | [] => ⟨rfl, rfl⟩
  | x :: r => by
    obtain ⟨h1, h2⟩ := lay_ints r
    refine ⟨?_, ?_⟩
    · show (true && PyData.canLayAll0 (r.map .int)) = true
      rw [h1]; rfl
    · show max 0 (PyData.depthAll (r.map .int)) = 0
      rw [h2]; rfl
theorem shaped_tupI (g : List Int) : SeqAt.shaped (tupI g) = true := by
  obtain ⟨h1, h2⟩ := lay_ints g
  unfold SeqAt.shaped
  have e1 : PyData.canLay0 (tupI g) = true := h1
  have e2 : PyData.depth (tupI g) ≤ 64 := by
    show (PyData.depthAll (g.map .int)) + 1 ≤ 64
    rw [h2]; decide
  rw [e1, decide_eq_true e2]
  rfl
theorem eqv_tupI (g : List Int) : PyData.eqv (tupI g) (tupI g) = true := SeqAt.eqv_refl _ (lay_ints g).1
section
variable {X : Cx} {tg a : Expr} {ω ω1 : Own} {ρ : Rho} {pos : Pos} {body : List Stmt}
theorem dn_forN (n : Nat) {g : TG} {S : List Nat} {xs : List Ent} (hl : xs.length = n) (hp : PassesOwn (model X.prog X.w) X.A X.env X.xe) (hc : X.calm = true) (hi : DI X tg ω ρ a xs ω1) (Ω : Nat → Own) (P : Nat → Rho) (h0 : Ω 0 = ω1) (h1 : P 0 = ρ) (hg : PG X tg g)
    (hb : ∀ (k : Nat) (x : Ent), xs[k]? = some x → ∃ ρb, Bnd X.K g S x (P k) ρb ∧ DNs X (Ω k) ρb body (Ω (k + 1)) (P (k + 1))) (hs : ∀ x, foldedSetIterable a X.env x = pure x := by intro _; rfl) :
    DN X ω ρ (.For tg a body [] pos) (Ω n) (P n) := by
  subst hl
  exact dn_for hp hc hi Ω P h0 h1 hg hb hs
end
/-! ### the law's groups, as lists -/
def startI (g : List Int) : Int := if g = [] then 0 else g.getLastD 0 + 1
def growL (m : Int) (g : List Int) : List (List Int) := (rgI (startI g) (m - startI g).toNat).map fun p => g ++ [p]
def nextL (m : Int) (l : List (List Int)) : List (List Int) := l.flatMap (growL m)
def layL (m : Int) : Nat → List (List Int)
  | 0 => [[]]
  | t + 1 => nextL m (layL m t)
def lgsN (m : Int) (k : Nat) : List (List Int) := (List.range k).flatMap fun j => layL m (j + 1)
theorem lgs_eq {n : Nat} (h : Ns n) : lgsN n n = gs n := by
  have key : ∀ n ∈ [2, 3, 4], lgsN (n : Nat) n = gs n := by decide
  exact key n h
theorem lgsN_succ (m : Int) (k : Nat) : lgsN m (k + 1) = lgsN m k ++ layL m (k + 1) := by
  unfold lgsN
  rw [List.range_succ, List.flatMap_append]
  simp
/-- sizes, for two to four people -/
theorem lay_size {n : Nat} (h : Ns n) : ∀ t ≤ n, (layL n t).length ≤ 6 ∧ ∀ g ∈ layL n t, g.length ≤ 4 ∧ (∀ x ∈ g, 0 ≤ x ∧ x < (n : Int)) := by
  have key : ∀ n ∈ [2, 3, 4], ∀ t ∈ [0, 1, 2, 3, 4], t ≤ n → (layL (n : Nat) t).length ≤ 6 ∧ ∀ g ∈ layL (n : Nat) t, g.length ≤ 4 ∧ (∀ x ∈ g, 0 ≤ x ∧ x < (n : Int)) := by decide
  intro t ht
  have := h.le
  exact key n h t (by simp only [List.mem_cons, List.not_mem_nil, or_false]; omega) ht
theorem lgsN_len {n : Nat} (h : Ns n) {k : Nat} (hk : k ≤ n) : (lgsN n k).length ≤ 15 := by
  have key : ∀ n ∈ [2, 3, 4], ∀ k ∈ [0, 1, 2, 3, 4], k ≤ n → (lgsN (n : Nat) k).length ≤ 15 := by decide
  have := h.le
  exact key n h k (by simp only [List.mem_cons, List.not_mem_nil, or_false]; omega) hk
theorem flat_take {α β : Type} (f : α → List β) {l : List α} {k : Nat} {x : α} (h : l[k]? = some x) : (l.take (k + 1)).flatMap f = (l.take k).flatMap f ++ f x := by
  rw [take_snoc h, List.flatMap_append]
  simp
section
variable {P : Program} {w : World} {K : PySem.W.Frag} {mg : Str → Option Value} {base : Heap} {f : Addr} {fd : FuncData}
/-! ### _law_with, _law_less -/
abbrev s_with : Stmt := topS 59
theorem sc_with : FnScope ["group", "person", "one"] ["group", "person"] (defScope s_with) := ⟨rfl, rfl, rfl, by decide +kernel, rfl, by decide +kernel, by decide +kernel⟩
def lessL (g : List Int) (p : Int) : List Int := g.filter fun x => !decide (x = p)
def withL (g : List Int) (p : Int) : List Int := joinedL (lessL g p) p
def R_with : List Ent → Own → Ent → Own → Prop := fun es ω e ω' => ∃ (g : List Int) (p : Int), es = [.dat (tupI g), DL.I p] ∧ (g.length ≤ 100 ∧ Up (withL g p)) ∧ e = .dat (tupI (withL g p)) ∧ ω' = ω
theorem ok_with (F : Fun K "_law_with" "_law_with" s_with f fd) (hm : mg "_law_with" = some (.ref f)) (b : Bare mg) : DFn P w K mg base 1 "_law_with" R_with := by
  refine dfn_ret F hm (F.binds (ps := ["group", "person"]) fun _ _ _ _ _ _ us hl => match us, hl with | [_, _], _ => rfl) sc_with ?_ ?_
  · rintro es ω e ω' ⟨g, p, rfl, _⟩; rfl
  · rintro cdv A outer s H E hr es _ e ω ⟨g, p, rfl, ⟨hg, hu⟩, rfl, rfl⟩
    unfold withL at hu ⊢
    rw [← joined_sort hu]
    have hl : (lessL g p).length ≤ 100 := Nat.le_trans (List.length_filter_le _ _) hg
    refine dr_ret (de_callT c_tupleL b.tuple boot_tuple (da_cons (de_callB c_sortedI b.sorted (by rfl) (da_cons ?_ da_nil)) da_nil))
    have e1 : Ent.dat (lstI (lessL g p ++ [p])) = .dat (.list ((lessL g p).map .int ++ [.int p])) := by
      show Ent.dat (.list ((lessL g p ++ [p]).map .int)) = _
      rw [List.map_append]; rfl
    rw [e1]
    refine de_op (o_cat ?_) (de_map [("one", 2)] (as := g) (enc := DL.I) _ (fun x => !decide (x = p)) (fun x => .int x) rfl sc_with.nd (di_tupI (de_var 0)) (fun _ _ _ _ _ => pg_name (i := 2) sc_with.nd rfl (Or.inl rfl)) (fun x hx => bnd_name)
      (fun _ _ _ _ _ ωd x hx => dts_one (dt_cmp o_neI (de_var 2) (de_var 1))) (fun _ _ _ _ _ ωd x hx h => de_var 2) (by omega)) (de_lst (ds := [.int p]) (da_cons (de_var 1) da_nil) (show 1 ≤ sizeLine by decide))
    refine Nat.le_of_lt (small1000 ?_)
    show ((lessL g p).map PyData.int).length + 1 ≤ 1000
    rw [List.length_map]
    omega
abbrev s_less : Stmt := topS 60
theorem sc_less : FnScope ["group", "person", "one"] ["group", "person"] (defScope s_less) := ⟨rfl, rfl, rfl, by decide +kernel, rfl, by decide +kernel, by decide +kernel⟩
def R_less : List Ent → Own → Ent → Own → Prop := fun es ω e ω' => ∃ (g : List Int) (p : Int), es = [.dat (tupI g), DL.I p] ∧ g.length ≤ 100 ∧ e = .dat (tupI (lessL g p)) ∧ ω' = ω
theorem ok_less (F : Fun K "_law_less" "_law_less" s_less f fd) (hm : mg "_law_less" = some (.ref f)) (b : Bare mg) : DFn P w K mg base 1 "_law_less" R_less := by
  refine dfn_ret F hm (F.binds (ps := ["group", "person"]) fun _ _ _ _ _ _ us hl => match us, hl with | [_, _], _ => rfl) sc_less ?_ ?_
  · rintro es ω e ω' ⟨g, p, rfl, _⟩; rfl
  · rintro cdv A outer s H E hr es _ e ω ⟨g, p, rfl, hg, rfl, rfl⟩
    refine dr_ret (de_callT c_tupleL b.tuple boot_tuple (da_cons ?_ da_nil))
    exact de_map [("one", 2)] (as := g) (enc := DL.I) _ (fun x => !decide (x = p)) (fun x => .int x) rfl sc_less.nd (di_tupI (de_var 0)) (fun _ _ _ _ _ => pg_name (i := 2) sc_less.nd rfl (Or.inl rfl)) (fun x hx => bnd_name)
      (fun _ _ _ _ _ ωd x hx => dts_one (dt_cmp o_neI (de_var 2) (de_var 1))) (fun _ _ _ _ _ ωd x hx h => de_var 2) (by omega)
/-! ### _law_groups -/
abbrev s_lgs : Stmt := topS 58
theorem sc_lgs : FnScope ["many", "found", "size", "layer", "turn", "longer", "one", "person"] ["many"] (defScope s_lgs) := ⟨rfl, rfl, rfl, by decide +kernel, rfl, by decide +kernel, by decide +kernel⟩
def R_lgs : List Ent → Own → Ent → Own → Prop := fun es ω e ω' => ∃ n : Nat, es = [DL.I n] ∧ Ns n ∧ e = .dat (.list (gsD (gs n))) ∧ ω' = ω
theorem start_le {n : Nat} {g : List Int} (h : ∀ x ∈ g, 0 ≤ x ∧ x < (n : Int)) : 0 ≤ startI g ∧ startI g ≤ (n : Int) := by
  unfold startI
  split
  · omega
  · rename_i hg
    have hm : g.getLastD 0 ∈ g := by
      rw [List.getLastD_eq_getLast?, List.getLast?_eq_getLast hg]
      exact List.getLast_mem hg
    have := h _ hm
    omega
theorem flat_take_le {α β : Type} (f : α → List β) (l : List α) (j : Nat) : ((l.take j).flatMap f).length ≤ (l.flatMap f).length := by
  have e : l.flatMap f = (l.take j).flatMap f ++ (l.drop j).flatMap f := by rw [← List.flatMap_append, List.take_append_drop]
  rw [e, List.length_append]
  omega
theorem grow_eq (m : Int) (g : List Int) : gsD (growL m g) = (rgI (startI g) (m - startI g).toNat).map fun p => .tuple (g.map .int ++ [.int p]) := by
  unfold gsD growL
  rw [List.map_map]
  refine List.map_congr_left fun p _ => ?_
  show tupI (g ++ [p]) = _
  rw [tupI_map, List.map_append]
  rfl
theorem ok_lgs (F : Fun K "_law_groups" "_law_groups" s_lgs f fd) (hm : mg "_law_groups" = some (.ref f)) (b : Bare mg) : DFn P w K mg base 1 "_law_groups" R_lgs := by
  refine dfn_ret F hm (F.binds (ps := ["many"]) fun _ _ _ _ _ _ us hl => match us, hl with | [_], _ => rfl) sc_lgs ?_ ?_
  · rintro es ω e ω' ⟨n, rfl, _⟩; rfl
  · rintro cdv A outer s H E hr es _ e ω ⟨n, rfl, hn, rfl, rfl⟩
    have hn4 := hn.le
    have hu := hr.units
    have e1 : ((n : Int) + 1 - 1).toNat = n := by omega
    refine dr_cons (dn_set 1 sc_lgs.nd (de_lst (ds := []) da_nil (by decide))) (dr_cons (dn_for (S := [2]) (xs := (rgI 1 ((n : Int) + 1 - 1).toNat).map DL.I) PassesOwn.never rfl (di_range2 b.range de_int (de_op o_add (de_var 0) de_int) (by omega))
      (fun _ => ω) (fun k => [some (DL.I n), some (.dat (.list (gsD (lgsN n k)))), none, none, none, none, none, none]) rfl rfl (pg_name (i := 2) sc_lgs.nd rfl (.inl rfl)) fun k x hx => ?_) ?_)
    · obtain ⟨hk, rfl⟩ := rgI_at hx
      rw [e1] at hk
      have e3 : (1 + (k : Int)).toNat = k + 1 := by omega
      have hlay := lay_size hn
      have hfl : (lgsN n (k + 1)).length ≤ 15 := lgsN_len hn (by omega)
      refine ⟨_, bnd_name, dns_cons (dn_set 3 sc_lgs.nd (de_lst (ds := [tupI []]) (da_cons (de_tup (ds := []) da_nil (by decide)) da_nil) (show 1 ≤ sizeLine by decide))) (dns_cons (dn_forN (k + 1) (S := [4]) (xs := (rgI 0 (1 + (k : Int)).toNat).map DL.I) (by rw [List.length_map, rgI_len, e3]) PassesOwn.never rfl (di_range1 (n := 1 + (k : Int)) b.range (de_var 2) (by omega))
        (fun _ => ω) (fun t => [some (DL.I n), some (.dat (.list (gsD (lgsN n k)))), some (DL.I (1 + (k : Int))), some (.dat (.list (gsD (layL n t)))), none, none, none, none]) rfl rfl (pg_name (i := 4) sc_lgs.nd rfl (.inl rfl)) fun t x hx => ?_) (dns_le (dns_one (dn_set 1 sc_lgs.nd (de_op (o_cat ?_) (de_var 1) (de_var 3)))) ?_))⟩
      · obtain ⟨ht, rfl⟩ := rgI_at hx
        rw [e3] at ht
        have hl1 := hlay t (by omega)
        have hl2 := hlay (t + 1) (by omega)
        refine ⟨_, bnd_name, dns_cons (dn_set 5 sc_lgs.nd (de_lst (ds := []) da_nil (by decide))) (dns_cons (dn_forN (layL n t).length (S := [6]) (xs := (layL n t).map GE) (by rw [List.length_map]) PassesOwn.never rfl (di_lstG (de_var 3))
          (fun _ => ω) (fun j => [some (DL.I n), some (.dat (.list (gsD (lgsN n k)))), some (DL.I (1 + (k : Int))), some (.dat (.list (gsD (layL n t)))), some (DL.I (0 + (t : Int))), some (.dat (.list (gsD (((layL n t).take j).flatMap (growL n))))), none, none]) rfl rfl (pg_name (i := 6) sc_lgs.nd rfl (.inr rfl)) fun j x hx => ?_) (dns_le (dns_one (dn_set 3 sc_lgs.nd (de_var 5))) ?_))⟩
        · rw [List.getElem?_map] at hx
          cases e5 : (layL n t)[j]? with
          | none => rw [e5] at hx; cases hx
          | some g =>
            rw [e5] at hx
            cases hx
            have hg := hl1.2 g (List.mem_of_getElem? e5)
            have hs := start_le hg.2
            have hsz := Nat.le_trans (flat_take_le (growL (n : Int)) (layL n t) (j + 1)) hl2.1
            rw [flat_take _ e5, List.length_append] at hsz
            have hgr : (growL (n : Int) g).length = (rgI (startI g) ((n : Int) - startI g).toNat).length := List.length_map ..
            refine ⟨_, bnd_name, dns_le (dns_one (dn_set 5 sc_lgs.nd (de_op (o_cat ?_) (de_var 5) (de_mapA [("person", 7)] (as := rgI (startI g) ((n : Int) - startI g).toNat) (enc := DL.I) _ (fun p => .tuple (g.map .int ++ [.int p])) rfl sc_lgs.nd
              (di_range2 b.range ?_ (de_var 0) (by omega)) (fun _ _ _ _ _ => pg_name (i := 7) sc_lgs.nd rfl (Or.inl rfl)) (fun x hx => bnd_name) (fun _ _ _ _ _ ωd x hx => de_op (o_catA ?_) (de_var 6) (de_tup (ds := [.int x]) (da_cons (de_var 7) da_nil) (show 1 ≤ sizeLine by decide))) (by omega))))) ?_⟩
            · refine Nat.le_of_lt (small1000 ?_)
              rw [List.length_map, List.length_map]
              omega
            · cases g with
              | nil => exact de_if (k := false) (dt_cmp (o_neTI (g := []) (h := []) hu rfl (shaped_tupI []) (shaped_tupI [])) (de_var 6) (de_tup (ds := []) da_nil (by decide))) (fun z => nomatch z) fun _ => de_int
              | cons y ys =>
                refine de_if (k := true) (dt_cmp (o_neTI (g := y :: ys) (h := []) hu (SeqAt.eqvAll_other_length (xs := (y :: ys).map .int) (ys := []) (fun z => nomatch z)) (shaped_tupI _) (shaped_tupI [])) (de_var 6) (de_tup (ds := []) da_nil (by decide))) (fun _ => ?_) fun z => nomatch z
                exact de_op o_add (de_ixT (de_var 6) (de_neg de_int) (last_atI (by simp))) de_int
            · refine Nat.le_of_lt (small1000 ?_)
              rw [List.length_map]
              show g.length + 1 ≤ 1000
              omega
            · have ec : gsD (((layL n t).take (j + 1)).flatMap (growL n)) = gsD (((layL n t).take j).flatMap (growL n)) ++ ((rgI (startI g) ((n : Int) - startI g).toNat).map fun p => .tuple (g.map .int ++ [.int p])) := by
                rw [flat_take _ e5, ← grow_eq]
                exact List.map_append
              show Le [some (DL.I n), some (.dat (.list (gsD (lgsN n k)))), some (DL.I (1 + (k : Int))), some (.dat (.list (gsD (layL n t)))), some (DL.I (0 + (t : Int))), some (.dat (.list (gsD (((layL n t).take (j + 1)).flatMap (growL n))))), none, none] _
              rw [ec]
              exact LeL.le (.same (.same (.same (.same (.same (.same (.drop (.same .nil))))))))
        · have et : ((layL n t).take (layL n t).length).flatMap (growL n) = layL n (t + 1) := by rw [List.take_length]; rfl
          show Le _ ([some (DL.I n), some (.dat (.list (gsD (lgsN n k)))), some (DL.I (1 + (k : Int))), some (.dat (.list (gsD (((layL n t).take (layL n t).length).flatMap (growL n))))), some (DL.I (0 + (t : Int))), some (.dat (.list (gsD (((layL n t).take (layL n t).length).flatMap (growL n))))), none, none])
          rw [et]
          exact LeL.le (.same (.same (.same (.same (.drop (.drop (.same (.same .nil))))))))
      · refine Nat.le_of_lt (small1000 ?_)
        rw [lgsN_succ, List.length_append] at hfl
        show ((lgsN n k).map tupI).length + ((layL n (k + 1)).map tupI).length ≤ 1000
        rw [List.length_map, List.length_map]
        omega
      · have ec : gsD (lgsN n (k + 1)) = gsD (lgsN n k) ++ gsD (layL n (k + 1)) := by rw [lgsN_succ]; exact List.map_append
        show Le [some (DL.I n), some (.dat (.list (gsD (lgsN n (k + 1))))), none, none, none, none, none, none] _
        rw [ec]
        exact LeL.le (.same (.same (.drop (.drop (.same (.same (.same (.same .nil))))))))
    · have hl : ((rgI 1 ((n : Int) + 1 - 1).toNat).map DL.I).length = n := by rw [List.length_map, rgI_len, e1]
      rw [hl, lgs_eq hn]
      exact dr_ret (de_var 1)
end
end G0

set_option Elab.async false
set_option linter.all false
set_option maxRecDepth 100000
set_option maxHeartbeats 2000000
namespace G0
open PySem PySem.Spec PyProof.Rows L2 DL CB ZM
section
variable {P : Program} {w : World} {K : PySem.W.Frag} {mg : Str → Option Value} {base : Heap} {f : Addr} {fd : FuncData}
/-! ### _law_worths -/
/-- the law's table -/
def lwt (n : Nat) (ws : List Int) : List (List Int × Int) := (gs n).zip ws ++ [([], 0)]
def R_lws : List Ent → Own → OC → Own → Prop := fun es ω oc ω' => ∃ (k : Bool) (n : Nat) (ws : List Int), es = [.dat (sq k (ws.map .int)), DL.I n] ∧ GLen n ws ∧ oc = .dct (lwt n ws) ∧ ω' = ω
theorem prD_kv (l : List (List Int)) (ws : List Int) : ZM.prD (gsD l) (ws.map .int) = (l.zip ws).map kvD := by
  unfold ZM.prD gsD
  rw [List.zip_map, List.map_map]
  rfl
theorem lwt_eq {n : Nat} {ws : List Int} (h : GLen n ws) : putD (putAllD [] ((gs n).zip ws)) [] 0 = lwt n ws := by
  have hn := gs_nodup h.hn
  obtain ⟨h1, h2⟩ := List.nodup_cons.mp hn
  have e1 : putAllD [] ((gs n).zip ws) = (gs n).zip ws := putAll_fresh _ [] (by rw [List.nil_append, keys_zip h.l]; exact h2)
  rw [e1, putD_new (by rw [keys_zip h.l]; exact h1)]
  rfl
end
end G0

set_option Elab.async false
set_option linter.all false
set_option maxRecDepth 100000
set_option maxHeartbeats 2000000
namespace G0
open PySem PySem.Spec PyProof.Rows L2 DL CB ZM
/-! ### the two tables -/
theorem lookD_app_in {a b : List (List Int × Int)} {h : List Int} (z : h ∈ a.map (·.1)) : lookD (a ++ b) h = lookD a h := by
  unfold lookD
  rw [List.find?_append]
  have : (a.find? fun p => decide (p.1 = h)).isSome = true := by
    rw [List.find?_isSome]
    obtain ⟨p, hp, e⟩ := List.mem_map.mp z
    exact ⟨p, hp, decide_eq_true e⟩
  obtain ⟨q, hq⟩ := Option.isSome_iff_exists.mp this
  rw [hq]
  rfl
theorem lookD_app_out {a b : List (List Int × Int)} {h : List Int} (z : h ∉ a.map (·.1)) : lookD (a ++ b) h = lookD b h := by
  unfold lookD
  rw [List.find?_append]
  have : (a.find? fun p => decide (p.1 = h)) = none := by
    rw [List.find?_eq_none]
    intro p hp y
    exact z (List.mem_map.mpr ⟨p, hp, of_decide_eq_true y⟩)
  rw [this]
  rfl
theorem lwt_keys {n : Nat} {ws : List Int} (g : GLen n ws) {h : List Int} (hh : h ∈ [] :: gs n) : h ∈ (lwt n ws).map (·.1) := by
  unfold lwt
  rw [List.map_append, keys_zip g.l]
  rcases List.mem_cons.mp hh with z | z
  · rw [z]; simp
  · exact List.mem_append_left _ z
theorem look_lwt {n : Nat} {ws : List Int} (g : GLen n ws) {h : List Int} (hh : h ∈ [] :: gs n) : look (lwt n ws) h = look (wt n ws) h := by
  have hn := gs_nodup g.hn
  obtain ⟨h1, h2⟩ := List.nodup_cons.mp hn
  rw [wt_eq g]
  unfold look lwt
  rcases List.mem_cons.mp hh with z | z
  · subst z
    rw [lookD_app_out (by rw [keys_zip g.l]; exact h1)]
    rfl
  · rw [lookD_app_in (by rw [keys_zip g.l]; exact z)]
    have e : lookD (([], 0) :: (gs n).zip ws) h = lookD ([([], 0)] ++ (gs n).zip ws) h := rfl
    rw [e, lookD_app_out (fun y => h1 (by
      have : h = [] := by simpa using y
      rw [← this]; exact z))]
theorem lwt_at {n : Nat} {ws : List Int} (g : GLen n ws) {h : List Int} (hh : h ∈ [] :: gs n) : lookD (lwt n ws) h = some (look (wt n ws) h) := by
  rw [← look_lwt g hh]
  exact look_mem (lwt_keys g hh)
section
variable {X : Cx} {tg elt iter : Expr} {ω : Own} {ρ : Rho} {pos : Pos} {scope : Scope} {α : Type}
/-- x = a comprehension without a test -/
theorem dn_setA (i : Nat) {y : Str} {py spos : Pos} {g : TG} {S : List Nat} (own : List (Str × Nat)) {as : List α} {enc : α → Ent} (ρb : α → Rho) (f : α → PyData) (hc : X.calm = true) (hN : X.N.Nodup) (hi : DI X tg ω ρ iter (as.map enc) ω) (hg : ∀ s H C cl fp, PG (BlkC X scope s H C cl fp) tg g)
    (hb : ∀ x ∈ as, Bnd X.K g S (enc x) (wipeR ρ (own.map (·.2))) (ρb x))
    (he : ∀ s H C cl fp (ωd : Own) (x : α), x ∈ as → DE (BlkC X scope s H C cl fp) (ω ++ ωd) (ρb x) elt (.dat (f x)) (ω ++ ωd)) (hz : as.length ≤ 1000 := by decide) (ok : blkC X.N X.env.scope scope own = true := by kernel_rfl) (hS : ∀ i ∈ S, i ∈ own.map (·.2) := by decide)
    (hy : X.N[i]? = some y := by rfl) (hyl : X.env.scope.names.lookup y = some .local := by rfl)
    (hsw : swapsWith (.ListComp elt [⟨tg, iter, [], 0⟩] scope pos) (some (.Name y py)) spos.line X.env = pure true := by exact sw_true rfl rfl rfl (by decide +kernel)) (hs : ∀ x, foldedSetIterable iter X.env x = pure x := by intro _; rfl) :
    DN X ω ρ (.Assign [.Name y py] (.ListComp elt [⟨tg, iter, [], 0⟩] scope pos) spos) ω (ρ.set i (some (.dat (.list (as.map f))))) := by
  have key := dn_setM (ifs := []) (elt := elt) (scope := scope) (pos := pos) (py := py) (spos := spos) i own ρb (fun _ => true) f hc hN hi hg hb (fun _ _ _ _ _ ωd x hx => dts_nil) (fun s H C cl fp ωd x hx _ => he s H C cl fp ωd x hx) hz ok hS hy hyl hsw hs
  rw [filter_tt] at key
  exact key
end
theorem ev_eq (n : Nat) : ((List.range n).map fun (k : Nat) => (k : Int)) = rgI 0 n := by
  unfold rgI
  exact List.map_congr_left fun k _ => by show (k : Int) = 0 + (k : Int); omega
theorem de_listRgI {X : Cx} {ω ω1 : Own} {ρ : Rho} {a : Expr} {p2 p3 p4 pos : Pos} {n : Nat} (hc : X.calm = true) (hml : X.mg "list" = none) (hmr : X.mg "range" = none) (h : DE X ω ρ a (DL.I n) ω1) (hn : n ≤ 1000) (hg : Gl X "list" := by rfl) (hg' : Gl X "range" := by rfl)
    (na : starEach [Expr.Call (.Name "range" p3) [a] [] p2] X.env = (false, eval (Expr.Call (.Name "range" p3) [a] [] p2) X.env) :: starEach [] X.env := by rfl) (na' : starEach [a] X.env = (false, eval a X.env) :: starEach [] X.env := by rfl) :
    DE X ω ρ (.Call (.Name "list" p4) [.Call (.Name "range" p3) [a] [] p2] [] pos) (.dat (lstI (rgI 0 n))) ω1 := by
  have q := de_listRg (p2 := p2) (p3 := p3) (p4 := p4) (pos := pos) hc hml hmr h (by omega) hg hg' na na'
  have e : ((n : Int)).toNat = n := rfl
  rw [e, ev_eq] at q
  exact q
section
variable {P : Program} {w : World} {K : PySem.W.Frag} {mg : Str → Option Value} {base : Heap} {f : Addr} {fd : FuncData}
/-! ### _law_turned -/
def R_ltn : List Ent → Own → Ent → Own → Prop := fun es ω e ω' => ∃ (n : Nat) (ws : List Int), es = [.dat (tupI ws), DL.I n] ∧ GLen n ws ∧ e = .dat (tupI (turnedL n ws)) ∧ ω' = ω
end
end G0

set_option Elab.async false
set_option linter.all false
set_option maxRecDepth 100000
set_option maxHeartbeats 4000000
namespace G0
open PySem PySem.Spec PyProof.Rows L2 DL CB ZM
/-! ## the law's game -/
def kinds7 (ns : List Int) (t : St3) : List Int := [0, 0, 1, -1, 2, 5, takenV ns t 41 - 20]
def pickI (ns : List Int) (t : St3) : Int := (kinds7 ns t).getD (takenV ns (takenS ns t 41) 7).toNat 0
def pickT (ns : List Int) (t : St3) : St3 := takenS ns (takenS ns t 41) 7
def iterT (ns : List Int) (t : St3) : Nat → St3
  | 0 => t
  | j + 1 => pickT ns (iterT ns t j)
def f0 (ns : List Int) (t : St3) (n : Nat) : List Int := (List.range (gs n).length).map fun j => pickI ns (iterT ns t j)
abbrev G20 (v : Int) : Prop := -20 ≤ v ∧ v ≤ 20
theorem getD_map {l : List Int} {i : Nat} (h : i < l.length) : (l.map PyData.int).getD i .none = .int (l.getD i 0) := by
  rw [List.getD_eq_getElem?_getD, List.getD_eq_getElem?_getD, List.getElem?_map, List.getElem?_eq_getElem h]
  rfl
theorem getD_mem {l : List Int} {i : Nat} (h : i < l.length) : l.getD i 0 ∈ l := by
  rw [List.getD_eq_getElem?_getD, List.getElem?_eq_getElem h]
  exact List.getElem_mem h
theorem pickI_20 (ns : List Int) (t : St3) : G20 (pickI ns t) := by
  have h7 := takenV_range (ns := ns) (t := takenS ns t 41) (m := 7) (by decide)
  have h41 := takenV_range (ns := ns) (t := t) (m := 41) (by decide)
  have hm : pickI ns t ∈ kinds7 ns t := getD_mem (by show _ < 7; omega)
  unfold kinds7 at hm
  simp only [List.mem_cons, List.not_mem_nil, or_false] at hm
  rcases hm with e | e | e | e | e | e | e <;> rw [e] <;> constructor <;> omega
theorem iterT_k {ns : List Int} {t : St3} (h : 0 ≤ t.k) : ∀ j, 0 ≤ (iterT ns t j).k
  | 0 => h
  | j + 1 => takenS_k (takenS_k (iterT_k h j))
theorem f0_len (ns : List Int) (t : St3) {n : Nat} (h : Ns n) : GLen n (f0 ns t n) := ⟨h, by unfold f0; rw [List.length_map, List.length_range]⟩
theorem f0_20 (ns : List Int) (t : St3) (n : Nat) : ∀ x ∈ f0 ns t n, G20 x := fun x hx => by
  obtain ⟨j, _, rfl⟩ := List.mem_map.mp hx
  exact pickI_20 _ _
/-- every worth that a table tells lies between -20 and 20 -/
abbrev T20 (D : List (List Int × Int)) : Prop := ∀ p ∈ D, G20 p.2
theorem look_20 {D : List (List Int × Int)} (h : T20 D) (g : List Int) : G20 (look D g) := by
  unfold look lookD
  cases e : D.find? fun p => decide (p.1 = g) with
  | none => constructor <;> decide
  | some p => exact h p (List.mem_of_find?_eq_some e)
theorem lwt_20 {n : Nat} {ws : List Int} (h : ∀ x ∈ ws, G20 x) : T20 (lwt n ws) := fun p hp => by
  unfold lwt at hp
  rcases List.mem_append.mp hp with z | z
  · exact h _ (List.of_mem_zip (a := p.1) (b := p.2) z).2
  · have : p = ([], 0) := by simpa using z
    subst this
    constructor <;> decide
theorem putD_20 {D : List (List Int × Int)} {g : List Int} {v : Int} (h : T20 D) (hv : G20 v) : T20 (putD D g v) := fun p hp => by
  unfold putD at hp
  split at hp
  · obtain ⟨q, hq, e⟩ := List.mem_map.mp hp
    by_cases z : q.1 = g
    · rw [if_pos z] at e
      rw [← e]
      exact hv
    · rw [if_neg z] at e
      rw [← e]
      exact h q hq
  · rcases List.mem_append.mp hp with z | z
    · exact h p z
    · have : p = (g, v) := by simpa using z
      subst this
      exact hv
theorem putD_has {D : List (List Int × Int)} {g h : List Int} {v : Int} (z : h ∈ D.map (·.1)) : h ∈ (putD D g v).map (·.1) := by
  unfold putD
  split
  · rw [List.map_map]
    obtain ⟨p, hp, e⟩ := List.mem_map.mp z
    refine List.mem_map.mpr ⟨p, hp, ?_⟩
    rw [← e]
    show (if p.1 = g then (p.1, v) else p).1 = p.1
    split <;> rfl
  · rw [List.map_append]
    exact List.mem_append_left _ z
/-- two made equal -/
def stepW (who other : Int) (D : List (List Int × Int)) (g : List Int) : List (List Int × Int) :=
  if decide (who ∈ g) && !decide (other ∈ g) then putD D (withL (lessL g who) other) (look D g) else D
def tabW (who other : Int) (D : List (List Int × Int)) (l : List (List Int)) : List (List Int × Int) := l.foldl (stepW who other) D
theorem stepW_20 {who other : Int} {D : List (List Int × Int)} {g : List Int} (h : T20 D) : T20 (stepW who other D g) := by
  unfold stepW
  split
  · exact putD_20 h (look_20 h g)
  · exact h
theorem stepW_has {who other : Int} {D : List (List Int × Int)} {g h : List Int} (z : h ∈ D.map (·.1)) : h ∈ (stepW who other D g).map (·.1) := by
  unfold stepW
  split
  · exact putD_has z
  · exact z
theorem stepW_len {who other : Int} {D : List (List Int × Int)} {g : List Int} : (stepW who other D g).length ≤ D.length + 1 := by
  unfold stepW
  split
  · exact putD_len _ _ _
  · omega
theorem tabW_20 {who other : Int} : ∀ {l : List (List Int)} {D : List (List Int × Int)}, T20 D → T20 (tabW who other D l)
  | [], D, h => h
  | g :: l, D, h => tabW_20 (l := l) (stepW_20 h)
theorem tabW_has {who other : Int} {h : List Int} : ∀ {l : List (List Int)} {D : List (List Int × Int)}, h ∈ D.map (·.1) → h ∈ (tabW who other D l).map (·.1)
  | [], D, z => z
  | g :: l, D, z => tabW_has (l := l) (stepW_has z)
theorem tabW_len {who other : Int} : ∀ (l : List (List Int)) (D : List (List Int × Int)), (tabW who other D l).length ≤ D.length + l.length
  | [], D => Nat.le_refl _
  | g :: l, D => by
    have h1 := tabW_len (who := who) (other := other) l (stepW who other D g)
    have h2 := stepW_len (who := who) (other := other) (D := D) (g := g)
    show (tabW who other (stepW who other D g) l).length ≤ _
    rw [List.length_cons]
    omega
theorem tabW_snoc {who other : Int} {D : List (List Int × Int)} {l : List (List Int)} {k : Nat} {g : List Int} (h : l[k]? = some g) : tabW who other D (l.take (k + 1)) = stepW who other (tabW who other D (l.take k)) g := by
  unfold tabW
  rw [take_snoc h, List.foldl_append]
  rfl
def sumG (found : List Int) (g : List Int) : Int := (g.map fun p => found.getD p.toNat 0).sum
/-- the game of a kind -/
def kindG (n : Nat) (found : List Int) (kind who own : Int) : List Int :=
  if kind = 1 then (gs n).map (sumG found)
  else if kind = 2 then (gs n).map fun g => look (lwt n found) (lessL g who) + (if who ∈ g then own else 0)
  else if kind = 3 then (gs n).map fun g => look (tabW who ((who + 1) % n) (lwt n found) (gs n)) g
  else if kind = 4 then (gs n).map fun g => if who ∈ g then 0 else look (lwt n found) g
  else found
structure Dr where
  kind : Int
  found : List Int
  who : Int
  own : Int
  t : St3
def drawn (ns : List Int) (t : St3) (n : Nat) : Dr :=
  let t2 := iterT ns (takenS ns t 6) (gs n).length
  let t3 := takenS ns t2 n
  ⟨takenV ns t 6, f0 ns (takenS ns t 6) n, takenV ns t2 n, ([0, 0, 3] : List Int).getD (takenV ns t3 3).toNat 0, takenS ns t3 3⟩
def gameL (ns : List Int) (t : St3) (n : Nat) : List Int := let d := drawn ns t n; kindG n d.found d.kind d.who d.own
def gameT (ns : List Int) (t : St3) (n : Nat) : St3 := (drawn ns t n).t
/-! ### it is a game -/
theorem sum_20 {found : List Int} (h : ∀ x ∈ found, G20 x) : ∀ g : List Int, g.length ≤ 4 → -80 ≤ sumG found g ∧ sumG found g ≤ 80 := by
  have hD : ∀ i, G20 (found.getD i 0) := fun i => by
    by_cases z : i < found.length
    · exact h _ (getD_mem z)
    · rw [List.getD_eq_getElem?_getD, List.getElem?_eq_none (by omega)]
      constructor <;> decide
  have key : ∀ g : List Int, -(20 * (g.length : Int)) ≤ sumG found g ∧ sumG found g ≤ 20 * (g.length : Int) := by
    intro g
    induction g with
    | nil => exact ⟨Int.le_refl 0, Int.le_refl 0⟩
    | cons p r ih =>
      have := hD p.toNat
      show -(20 * (((p :: r).length : Nat) : Int)) ≤ found.getD p.toNat 0 + sumG found r ∧ found.getD p.toNat 0 + sumG found r ≤ 20 * (((p :: r).length : Nat) : Int)
      rw [List.length_cons]
      omega
  intro g hg
  have := key g
  omega
theorem kindG_game {n : Nat} (hn : Ns n) {found : List Int} (hl : GLen n found) (h : ∀ x ∈ found, G20 x) (kind who : Int) {own : Int} (ho : 0 ≤ own ∧ own ≤ 3) : Game n (kindG n found kind who own) := by
  have hT := lwt_20 (n := n) h
  have mk : ∀ f : List Int → Int, (∀ g ∈ gs n, -100 ≤ f g ∧ f g ≤ 100) → Game n ((gs n).map f) := fun f hf => ⟨⟨hn, by rw [List.length_map]⟩, fun x hx => by
    obtain ⟨g, hg, rfl⟩ := List.mem_map.mp hx
    have := hf g hg
    omega⟩
  unfold kindG
  split
  · exact mk _ fun g hg => by have := sum_20 h g (grp_len hn g (List.mem_cons_of_mem _ hg)); omega
  · split
    · refine mk _ fun g hg => ?_
      have := look_20 hT (lessL g who)
      split <;> omega
    · split
      · refine mk _ fun g hg => ?_
        have := look_20 (tabW_20 (who := who) (other := (who + 1) % n) (l := gs n) hT) g
        omega
      · split
        · refine mk _ fun g hg => ?_
          have := look_20 hT g
          split <;> omega
        · exact ⟨hl, fun x hx => by have := h x hx; omega⟩
theorem gameL_game (ns : List Int) (t : St3) {n : Nat} (hn : Ns n) : Game n (gameL ns t n) := by
  refine kindG_game hn (f0_len ns _ hn) (f0_20 ns _ n) _ _ ?_
  have h3 := takenV_range (ns := ns) (t := takenS ns (iterT ns (takenS ns t 6) (gs n).length) n) (m := 3) (by decide)
  have hm : ([0, 0, 3] : List Int).getD (takenV ns (takenS ns (iterT ns (takenS ns t 6) (gs n).length) n) 3).toNat 0 ∈ ([0, 0, 3] : List Int) := getD_mem (by show _ < 3; omega)
  simp only [List.mem_cons, List.not_mem_nil, or_false] at hm
  show 0 ≤ ([0, 0, 3] : List Int).getD (takenV ns (takenS ns (iterT ns (takenS ns t 6) (gs n).length) n) 3).toNat 0 ∧ ([0, 0, 3] : List Int).getD (takenV ns (takenS ns (iterT ns (takenS ns t 6) (gs n).length) n) 3).toNat 0 ≤ 3
  rcases hm with e | e | e <;> rw [e] <;> decide
end G0

set_option Elab.async false
set_option linter.all false
set_option maxRecDepth 100000
set_option maxHeartbeats 4000000
namespace G0
open PySem PySem.Spec PyProof.Rows L2 DL CB ZM
section
variable {X : Cx} {i j : Int}
theorem o_inTT {g : List Int} (h : i ∈ g) : Op2 X (compareOp .In) (DL.I i) (.dat (tupI g)) (B true) := by have q := o_inT (X := X) (i := i) (g := g); rw [decide_eq_true h] at q; exact q
theorem o_inTF {g : List Int} (h : i ∉ g) : Op2 X (compareOp .In) (DL.I i) (.dat (tupI g)) (B false) := by have q := o_inT (X := X) (i := i) (g := g); rw [decide_eq_false h] at q; exact q
theorem o_notInTT {g : List Int} (h : i ∉ g) : Op2 X (compareOp .NotIn) (DL.I i) (.dat (tupI g)) (B true) := by have q := o_notInT (X := X) (i := i) (g := g); rw [decide_eq_false h] at q; exact q
theorem o_notInTF {g : List Int} (h : i ∈ g) : Op2 X (compareOp .NotIn) (DL.I i) (.dat (tupI g)) (B false) := by have q := o_notInT (X := X) (i := i) (g := g); rw [decide_eq_true h] at q; exact q
theorem o_eqIF (h : i ≠ j) : Op2 X (compareOp .Eq) (DL.I i) (DL.I j) (B false) := by have q := o_eqI (X := X) (i := i) (j := j); rw [decide_eq_false h] at q; exact q
end
section
variable {X : Cx} {tg elt iter : Expr} {ω ω1 : Own} {ρ : Rho} {pos : Pos} {scope : Scope}
/-- numbers drawn one after the other -/
theorem de_mapSI {g : TG} {S : List Nat} (own : List (Str × Nat)) (m : Nat) {xs : List Ent} (hl : xs.length = m) (Ω : Nat → Own) (ρb : Nat → Rho) (f : Nat → Int) (hc : X.calm = true) (hN : X.N.Nodup) (hi : DI X tg ω ρ iter xs ω1) (h0 : Ω 0 = ω1) (hg : ∀ s H C cl fp, PG (BlkC X scope s H C cl fp) tg g)
    (hb : ∀ k x, xs[k]? = some x → Bnd X.K g S x (wipeR ρ (own.map (·.2))) (ρb k))
    (he : ∀ s H C cl fp (k : Nat) (ωd : Own), k < m → DE (BlkC X scope s H C cl fp) (Ω k ++ ωd) (ρb k) elt (DL.I (f k)) (Ω (k + 1) ++ ωd)) (hz : m ≤ 1000) (ok : blkC X.N X.env.scope scope own = true := by kernel_rfl) (hS : ∀ i ∈ S, i ∈ own.map (·.2) := by decide)
    (hs : ∀ x, foldedSetIterable iter X.env x = pure x := by intro _; rfl) :
    DE X ω ρ (.ListComp elt [⟨tg, iter, [], 0⟩] scope pos) (.dat (lstI ((List.range m).map f))) (Ω m) := by
  subst hl
  have key := de_mapS (elt := elt) (scope := scope) (pos := pos) own Ω ρb (fun j => .int (f j)) hc hN hi h0 hg hb he hz ok hS hs
  have e : lstI ((List.range xs.length).map f) = .list ((List.range xs.length).map fun j => .int (f j)) := by
    show PyData.list (((List.range xs.length).map f).map .int) = _
    rw [List.map_map]
    rfl
  rw [e]
  exact key
end
section
variable {X : Cx} {tg elt iter : Expr} {ω : Own} {ρ : Rho} {pos : Pos} {scope : Scope} {α : Type}
/-- a comprehension of numbers -/
theorem de_mapAI {g : TG} {S : List Nat} (own : List (Str × Nat)) {as : List α} {enc : α → Ent} (ρb : α → Rho) (f : α → Int) (hc : X.calm = true) (hN : X.N.Nodup) (hi : DI X tg ω ρ iter (as.map enc) ω) (hg : ∀ s H C cl fp, PG (BlkC X scope s H C cl fp) tg g)
    (hb : ∀ x ∈ as, Bnd X.K g S (enc x) (wipeR ρ (own.map (·.2))) (ρb x))
    (he : ∀ s H C cl fp (ωd : Own) (x : α), x ∈ as → DE (BlkC X scope s H C cl fp) (ω ++ ωd) (ρb x) elt (DL.I (f x)) (ω ++ ωd)) (hz : as.length ≤ 1000 := by decide) (ok : blkC X.N X.env.scope scope own = true := by kernel_rfl) (hS : ∀ i ∈ S, i ∈ own.map (·.2) := by decide)
    (hs : ∀ x, foldedSetIterable iter X.env x = pure x := by intro _; rfl) :
    DE X ω ρ (.ListComp elt [⟨tg, iter, [], 0⟩] scope pos) (.dat (lstI (as.map f))) ω := by
  have key := de_mapA (elt := elt) (scope := scope) (pos := pos) own ρb (fun x => .int (f x)) hc hN hi hg hb he hz ok hS hs
  have e : lstI (as.map f) = .list (as.map fun x => .int (f x)) := by
    show PyData.list ((as.map f).map .int) = _
    rw [List.map_map]
    rfl
  rw [e]
  exact key
end
section
variable {X : Cx} {tg a : Expr} {ω ω1 ω2 : Own} {ρ ρ2 : Rho} {pos : Pos} {body : List Stmt}
theorem dn_forQ (n : Nat) {g : TG} {S : List Nat} {xs : List Ent} (hl : xs.length = n) (hp : PassesOwn (model X.prog X.w) X.A X.env X.xe) (hc : X.calm = true) (hi : DI X tg ω ρ a xs ω1) (Ω : Nat → Own) (P : Nat → Rho) (h0 : Ω 0 = ω1) (h1 : P 0 = ρ) (e1 : Ω n = ω2) (e2 : P n = ρ2) (hg : PG X tg g)
    (hb : ∀ (k : Nat) (x : Ent), xs[k]? = some x → ∃ ρb, Bnd X.K g S x (P k) ρb ∧ DNs X (Ω k) ρb body (Ω (k + 1)) (P (k + 1))) (hs : ∀ x, foldedSetIterable a X.env x = pure x := by intro _; rfl) :
    DN X ω ρ (.For tg a body [] pos) ω2 ρ2 := by
  subst hl e1 e2
  exact dn_for hp hc hi Ω P h0 h1 hg hb hs
end
theorem less_in {n : Nat} (h : Ns n) {who : Int} (hw : 0 ≤ who ∧ who < n) : ∀ g ∈ gs n, lessL g who ∈ [] :: gs n := by
  have key : ∀ n ∈ [2, 3, 4], ∀ w ∈ rgI 0 n, ∀ g ∈ gs n, lessL g w ∈ [] :: gs n := by decide
  refine key n h who ?_
  unfold rgI
  exact List.mem_map.mpr ⟨who.toNat, List.mem_range.mpr (by omega), by omega⟩
theorem with_in {n : Nat} (h : Ns n) {who : Int} (hw : 0 ≤ who ∧ who < n) : ∀ g ∈ gs n, withL (lessL g who) ((who + 1) % n) ∈ [] :: gs n ∧ Up (withL (lessL g who) ((who + 1) % n)) := by
  have key : ∀ n ∈ [2, 3, 4], ∀ w ∈ rgI 0 n, ∀ g ∈ gs n, withL (lessL g w) ((w + 1) % (n : Nat)) ∈ [] :: gs n ∧ Up (withL (lessL g w) ((w + 1) % (n : Nat))) := by decide
  refine key n h who ?_
  unfold rgI
  exact List.mem_map.mpr ⟨who.toNat, List.mem_range.mpr (by omega), by omega⟩
theorem less_len {g : List Int} {p : Int} : (lessL g p).length ≤ g.length := List.length_filter_le _ _
theorem grp_mem {n : Nat} (h : Ns n) : ∀ g ∈ gs n, ∀ x ∈ g, 0 ≤ x ∧ x < (n : Int) := fun g hg => (grp_of h g (List.mem_cons_of_mem _ hg)).p
theorem n_le_len {n : Nat} (h : Ns n) : n ≤ (gs n).length := by
  have key : ∀ n ∈ [2, 3, 4], n ≤ (gs n).length := by decide
  exact key n h
section
variable {P : Program} {w : World} {K : PySem.W.Frag} {mg : Str → Option Value} {base : Heap} {f : Addr} {fd : FuncData}
abbrev NG : List Str := ["row", "many", "some", "kind", "group", "found", "worths", "who", "own", "other", "person"]
def R_game (K : PySem.W.Frag) : List Ent → Own → Ent → Own → Prop := fun es ω e ω' => ∃ (p scr : Addr) (ns : List Int) (t : St3) (n : Nat), es = [.own p, DL.I n] ∧ (Ns n ∧ 0 ≤ t.k) ∧ ω = [(p, t.oc K scr ns)] ∧ e = .dat (tupI (gameL ns t n)) ∧ ω' = [(p, (gameT ns t n).oc K scr ns)]
end
end G0

set_option Elab.async false
set_option linter.all false
set_option maxRecDepth 100000
set_option maxHeartbeats 4000000
namespace G0
open PySem PySem.Spec PyProof.Rows L2 DL CB ZM
/-! ## what holds of every game -/
theorem look_cons_ne {t : List (List Int × Int)} {p : List Int × Int} {g : List Int} (h : p.1 ≠ g) : look (p :: t) g = look t g := by
  unfold look lookD
  rw [List.find?_cons_of_neg (by simpa using h)]
theorem look_cons_eq {t : List (List Int × Int)} {p : List Int × Int} : look (p :: t) p.1 = p.2 := by
  unfold look lookD
  rw [List.find?_cons_of_pos (by simp)]
  rfl
theorem look_self : ∀ {t : List (List Int × Int)}, (t.map (·.1)).Nodup → ∀ p ∈ t, look t p.1 = p.2
  | [], _, p, h => nomatch h
  | q :: t, nd, p, h => by
    obtain ⟨n1, n2⟩ := List.nodup_cons.mp (show (q.1 :: t.map (·.1)).Nodup from nd)
    rcases List.mem_cons.mp h with z | z
    · subst z
      exact look_cons_eq
    · rw [look_cons_ne (fun e => n1 (by rw [e]; exact List.mem_map.mpr ⟨p, z, rfl⟩))]
      exact look_self n2 p z
theorem look_zip_map {f : List Int → Int} : ∀ {l : List (List Int)} {h : List Int}, h ∈ l → look (l.zip (l.map f)) h = f h
  | [], _, z => nomatch z
  | g :: l, h, z => by
    by_cases e : g = h
    · subst e
      exact look_cons_eq
    · show look ((g, f g) :: l.zip (l.map f)) h = f h
      rw [look_cons_ne (by exact e)]
      rcases List.mem_cons.mp z with y | y
      · exact absurd y.symm e
      · exact look_zip_map y
theorem gs_ne {n : Nat} (hn : Ns n) {h : List Int} (hh : h ∈ gs n) : h ≠ [] := fun z => by
  obtain ⟨h1, _⟩ := List.nodup_cons.mp (gs_nodup hn)
  rw [z] at hh
  exact h1 hh
theorem wt_map {n : Nat} (hn : Ns n) {f : List Int → Int} {h : List Int} (hh : h ∈ gs n) : look (wt n ((gs n).map f)) h = f h := by
  rw [wt_eq ⟨hn, by rw [List.length_map]⟩, look_cons_ne (by exact (gs_ne hn hh).symm)]
  exact look_zip_map hh
theorem wt_nil {n : Nat} {ws : List Int} (g : GLen n ws) : look (wt n ws) [] = 0 := by
  rw [wt_eq g]
  rfl
theorem zip_look : ∀ {l : List (List Int)} {ws : List Int}, l.Nodup → ws.length = l.length → l.map (look (l.zip ws)) = ws
  | [], [], _, _ => rfl
  | [], _ :: _, _, h => by simp at h
  | _ :: _, [], _, h => by simp at h
  | g :: l, w :: ws, nd, h => by
    obtain ⟨n1, n2⟩ := List.nodup_cons.mp nd
    have e1 : look ((g, w) :: l.zip ws) g = w := look_cons_eq (p := (g, w))
    have e2 : l.map (look ((g, w) :: l.zip ws)) = l.map (look (l.zip ws)) := List.map_congr_left fun x hx => look_cons_ne fun z => n1 (by rw [show g = x from z]; exact hx)
    show look ((g, w) :: l.zip ws) g :: l.map (look ((g, w) :: l.zip ws)) = w :: ws
    rw [e1, e2, zip_look n2 (by simpa using h)]
theorem ws_map {n : Nat} {ws : List Int} (g : GLen n ws) : (gs n).map (look (wt n ws)) = ws := by
  have e : (gs n).map (look (wt n ws)) = (gs n).map (look ((gs n).zip ws)) := List.map_congr_left fun x hx => by
    rw [wt_eq g]
    exact look_cons_ne (by exact (gs_ne g.hn hx).symm)
  rw [e]
  exact zip_look (List.nodup_cons.mp (gs_nodup g.hn)).2 g.l
theorem lst_map {n : Nat} (hn : Ns n) (f : List Int → Int) : lst ((gs n).map f) = f (rgI 0 n) := by
  have key : ∀ n ∈ [2, 3, 4], (gs n).getLast? = some (rgI 0 n) := by decide
  unfold lst
  rw [List.getLastD_eq_getLast?, List.getLast?_map, key n hn]
  rfl
theorem turned_len {n : Nat} {ws : List Int} (hn : Ns n) : GLen n (turnedL n ws) := ⟨hn, by unfold turnedL; rw [List.length_map]⟩
theorem turned_twice {n : Nat} {ws : List Int} (g : GLen n ws) : turnedL n (turnedL n ws) = ws := by
  have k1 : ∀ n ∈ [2, 3, 4], othersL n (rgI 0 n) = [] := by decide
  have k2 : ∀ n ∈ [2, 3, 4], ∀ h ∈ gs n, (othersL n h = [] ∧ h = rgI 0 n) ∨ (othersL n h ∈ gs n ∧ othersL n (othersL n h) = h) := by decide
  have hl : lst (turnedL n ws) = lst ws := by
    unfold turnedL
    rw [lst_map g.hn, k1 n g.hn, wt_nil g]
    omega
  have hw : lst ws = look (wt n ws) (rgI 0 n) := by
    have := lst_map g.hn (look (wt n ws))
    rw [ws_map g] at this
    exact this
  have e : turnedL n (turnedL n ws) = (gs n).map (look (wt n ws)) := by
    show ((gs n).map fun h => lst (turnedL n ws) - look (wt n (turnedL n ws)) (othersL n h)) = _
    refine List.map_congr_left fun h hh => ?_
    rw [hl]
    rcases k2 n g.hn h hh with ⟨z1, z2⟩ | ⟨z1, z2⟩
    · rw [z1, wt_nil (turned_len g.hn), hw, ← z2]
      omega
    · have e2 : look (wt n (turnedL n ws)) (othersL n h) = lst ws - look (wt n ws) (othersL n (othersL n h)) := wt_map g.hn z1
      rw [e2, z2]
      omega
  rw [e, ws_map g]
theorem turned_game {n : Nat} {ws : List Int} (g : GLen n ws) (h : ∀ x ∈ ws, -100 ≤ x ∧ x ≤ 100) : Game n (turnedL n ws) := by
  have hD : ∀ h', -100 ≤ look (wt n ws) h' ∧ look (wt n ws) h' ≤ 100 := fun h' => by
    unfold look lookD
    cases e : (wt n ws).find? fun p => decide (p.1 = h') with
    | none => exact ⟨by decide, by decide⟩
    | some p =>
      have hp := List.mem_of_find?_eq_some e
      rw [wt_eq g] at hp
      rcases List.mem_cons.mp hp with z | z
      · subst z
        exact ⟨by decide, by decide⟩
      · exact h _ (List.of_mem_zip (a := p.1) (b := p.2) z).2
  have hlst : lst ws = look (wt n ws) (rgI 0 n) := by
    have := lst_map g.hn (look (wt n ws))
    rw [ws_map g] at this
    exact this
  refine ⟨turned_len g.hn, fun x hx => ?_⟩
  obtain ⟨h', _, rfl⟩ := List.mem_map.mp hx
  have := hD (othersL n h')
  have := hD (rgI 0 n)
  omega
/-! ### dividends -/
def sumIn (R : List (List Int × Int)) (g : List Int) : Int := ((R.filter fun q => liesL q.1 g).map (·.2)).sum
theorem sumIn_app (a b : List (List Int × Int)) (g : List Int) : sumIn (a ++ b) g = sumIn a g + sumIn b g := by
  unfold sumIn
  rw [List.filter_append, List.map_append, List.sum_append]
theorem div_sum : ∀ (l t : List (List Int × Int)), ((t ++ l).map (·.1)).Nodup → (∀ p ∈ l, liesL p.1 p.1 = true) → l.Pairwise (fun p q => liesL q.1 p.1 = false) →
    ∃ r, l.foldl divStep t = t ++ r ∧ r.map (·.1) = l.map (·.1) ∧ ∀ p ∈ l, sumIn (t ++ r) p.1 = p.2
  | [], t, _, _, _ => ⟨[], by rw [List.append_nil]; rfl, rfl, fun p hp => nomatch hp⟩
  | p :: l, t, nd, hr, hp => by
    obtain ⟨hp1, hp2⟩ := List.pairwise_cons.mp hp
    have nd' : (t.map (·.1) ++ p.1 :: l.map (·.1)).Nodup := by rw [List.map_append] at nd; exact nd
    have h1 := List.nodup_append.mp nd'
    have pn : p.1 ∉ t.map (·.1) := fun z => h1.2.2 p.1 z p.1 (by simp) rfl
    have es : ((t.filter fun q => liesL q.1 p.1).map fun q => look t q.1).sum = sumIn t p.1 := by
      unfold sumIn
      have : (t.filter fun q => liesL q.1 p.1).map (fun q => look t q.1) = (t.filter fun q => liesL q.1 p.1).map (·.2) := List.map_congr_left fun q hq => look_self h1.1 q (List.mem_filter.mp hq).1
      rw [this]
    have e1 : divStep t p = t ++ [(p.1, p.2 - sumIn t p.1)] := by
      unfold divStep
      rw [es]
      exact putD_new pn
    have nd2 : (((t ++ [(p.1, p.2 - sumIn t p.1)]) ++ l).map (·.1)).Nodup := by
      rw [List.append_assoc, List.map_append]
      exact nd'
    obtain ⟨r, f1, f2, f3⟩ := div_sum l (t ++ [(p.1, p.2 - sumIn t p.1)]) nd2 (fun q hq => hr q (List.mem_cons_of_mem _ hq)) hp2
    refine ⟨(p.1, p.2 - sumIn t p.1) :: r, ?_, ?_, fun q hq => ?_⟩
    · show l.foldl divStep (divStep t p) = _
      rw [e1, f1, List.append_assoc]
      rfl
    · show p.1 :: r.map (·.1) = p.1 :: l.map (·.1)
      rw [f2]
    · have ea : t ++ (p.1, p.2 - sumIn t p.1) :: r = (t ++ [(p.1, p.2 - sumIn t p.1)]) ++ r := by rw [List.append_assoc]; rfl
      rw [ea]
      rcases List.mem_cons.mp hq with z | z
      · subst z
        rw [sumIn_app, sumIn_app]
        have s1 : ∀ v, sumIn [(q.1, v)] q.1 = v := fun v => by
          have e : [(q.1, v)].filter (fun x => liesL x.1 q.1) = [(q.1, v)] := List.filter_cons_of_pos (p := fun x : List Int × Int => liesL x.1 q.1) (a := (q.1, v)) (l := []) (hr q List.mem_cons_self)
          unfold sumIn
          rw [e]
          show v + 0 = v
          omega
        have s2 : sumIn r q.1 = 0 := by
          unfold sumIn
          have : r.filter (fun x => liesL x.1 q.1) = [] := by
            rw [List.filter_eq_nil_iff]
            intro x hx y
            have : x.1 ∈ l.map (·.1) := by rw [← f2]; exact List.mem_map.mpr ⟨x, hx, rfl⟩
            obtain ⟨w, hw, e⟩ := List.mem_map.mp this
            have := hp1 w hw
            rw [e, y] at this
            cases this
          rw [this]
          rfl
        rw [s1, s2]
        omega
      · exact f3 q z
theorem zip_unzip : ∀ (R : List (List Int × Int)), (R.map (·.1)).zip (R.map (·.2)) = R
  | [] => rfl
  | p :: R => by
    show (p.1, p.2) :: (R.map (·.1)).zip (R.map (·.2)) = p :: R
    rw [zip_unzip R]
theorem div_zip {n : Nat} {ws : List Int} (g : GLen n ws) : (divL n ws).length = (gs n).length ∧ ∀ p ∈ (gs n).zip ws, sumIn ((gs n).zip (divL n ws)) p.1 = p.2 := by
  have k1 : ∀ n ∈ [2, 3, 4], ∀ h ∈ gs n, liesL h h = true := by decide
  have k2 : ∀ n ∈ [2, 3, 4], (gs n).Pairwise (fun a b => liesL b a = false) := by decide
  obtain ⟨r, f1, f2, f3⟩ := div_sum ((gs n).zip ws) [] (by rw [List.nil_append, keys_zip g.l]; exact (List.nodup_cons.mp (gs_nodup g.hn)).2) (fun p hp => k1 n g.hn _ (List.of_mem_zip (a := p.1) (b := p.2) hp).1) (by
    have := k2 n g.hn
    rw [← keys_zip g.l, List.pairwise_map] at this
    exact this)
  rw [List.nil_append] at f1 f3
  have e : divL n ws = r.map (·.2) := by unfold divL; rw [f1]
  have ek : r.map (·.1) = gs n := by rw [f2, keys_zip g.l]
  refine ⟨?_, fun p hp => ?_⟩
  · rw [e, List.length_map, ← List.length_map (f := (·.1)), ek]
  · rw [e]
    have := zip_unzip r
    rw [ek] at this
    rw [this]
    exact f3 p hp
/-! ### added -/
theorem added_due {n : Nat} (hn : Ns n) {ws : List Int} {who : Int} (hw : who ∈ rgI 0 n) : amongL (othersL n [who]) n = [] :: (gs n).filter (fun g => !decide (who ∈ g)) ∧ ∀ g ∈ [] :: (gs n).filter (fun g => !decide (who ∈ g)), joinedL g who = withL g who ∧ g ∈ [] :: gs n ∧ withL g who ∈ [] :: gs n ∧ Up (withL g who) := by
  have key : ∀ n ∈ [2, 3, 4], ∀ who ∈ rgI 0 n, amongL (othersL n [who]) n = [] :: (gs n).filter (fun g => !decide (who ∈ g)) ∧ ∀ g ∈ [] :: (gs n).filter (fun g => !decide (who ∈ g)), joinedL g who = withL g who ∧ g ∈ [] :: gs n ∧ withL g who ∈ [] :: gs n ∧ Up (withL g who) := by decide
  exact key n hn who hw
theorem kindG_100 {n : Nat} (hn : Ns n) {found : List Int} (h : ∀ x ∈ found, G20 x) (kind who : Int) {own : Int} (ho : 0 ≤ own ∧ own ≤ 3) : ∀ x ∈ kindG n found kind who own, -100 ≤ x ∧ x ≤ 100 := by
  have hT := lwt_20 (n := n) h
  have mk : ∀ f : List Int → Int, (∀ g ∈ gs n, -100 ≤ f g ∧ f g ≤ 100) → ∀ x ∈ (gs n).map f, -100 ≤ x ∧ x ≤ 100 := fun f hf x hx => by
    obtain ⟨g, hg, rfl⟩ := List.mem_map.mp hx
    exact hf g hg
  unfold kindG
  split
  · exact mk _ fun g hg => by have := sum_20 h g (grp_len hn g (List.mem_cons_of_mem _ hg)); omega
  · split
    · refine mk _ fun g hg => ?_
      have := look_20 hT (lessL g who)
      split <;> omega
    · split
      · refine mk _ fun g hg => ?_
        have := look_20 (tabW_20 (who := who) (other := (who + 1) % n) (l := gs n) hT) g
        omega
      · split
        · refine mk _ fun g hg => ?_
          have := look_20 hT g
          split <;> omega
        · exact fun x hx => by have := h x hx; omega
theorem gameL_100 (ns : List Int) (t : St3) {n : Nat} (hn : Ns n) : ∀ x ∈ gameL ns t n, -100 ≤ x ∧ x ≤ 100 := by
  refine kindG_100 hn (f0_20 ns _ n) _ _ ?_
  have h3 := takenV_range (ns := ns) (t := takenS ns (iterT ns (takenS ns t 6) (gs n).length) n) (m := 3) (by decide)
  have hm : ([0, 0, 3] : List Int).getD (takenV ns (takenS ns (iterT ns (takenS ns t 6) (gs n).length) n) 3).toNat 0 ∈ ([0, 0, 3] : List Int) := getD_mem (by show _ < 3; omega)
  simp only [List.mem_cons, List.not_mem_nil, or_false] at hm
  show 0 ≤ ([0, 0, 3] : List Int).getD (takenV ns (takenS ns (iterT ns (takenS ns t 6) (gs n).length) n) 3).toNat 0 ∧ ([0, 0, 3] : List Int).getD (takenV ns (takenS ns (iterT ns (takenS ns t 6) (gs n).length) n) 3).toNat 0 ≤ 3
  rcases hm with e | e | e <;> rw [e] <;> decide
theorem gameT_k {ns : List Int} {t : St3} {n : Nat} (h : 0 ≤ t.k) : 0 ≤ (gameT ns t n).k := takenS_k (takenS_k (iterT_k (takenS_k h) _))
end G0

set_option Elab.async false
set_option linter.all false
set_option maxRecDepth 100000
set_option maxHeartbeats 2000000
namespace ZM
open PySem PySem.Spec PyProof.Rows L2 DL CB
section
variable {X : Cx} {tg a : Expr} {ω ω1 : Own} {ρ ρ1 : Rho} {pos : Pos} {e : Ent}
end
end ZM
namespace G0
open PySem PySem.Spec PyProof.Rows L2 DL CB ZM
abbrev ratD (r : Rt) : PyData := .tuple [.int r.1, .int r.2]
abbrev rowD (rs : List Rt) : PyData := .tuple (rs.map ratD)
abbrev ruleD (r : List (List Rt)) : PyData := .tuple (r.map rowD)
/-- r is a rule for n people -/
structure Rule (n : Nat) (r : List (List Rt)) : Prop where
  hn : Ns n
  l : r.length = n
  w : ∀ row ∈ r, row.length = (gs n).length
  k : ∀ row ∈ r, ∀ q ∈ row, RatOk q
section
variable {X : Cx}
theorem o_leT {i j : Int} (h : i ≤ j) : Op2 X (compareOp .LtE) (DL.I i) (DL.I j) (B true) := by have q := o_le (X := X) (i := i) (j := j); rw [decide_eq_true h] at q; exact q
theorem o_neIk {i j : Int} {k : Bool} (h : decide (i = j) = !k) : Op2 X (compareOp .NotEq) (DL.I i) (DL.I j) (B k) := by have q := o_neI (X := X) (i := i) (j := j); rw [h, Bool.not_not] at q; exact q
theorem o_eqIk {i j : Int} {k : Bool} (h : decide (i = j) = k) : Op2 X (compareOp .Eq) (DL.I i) (DL.I j) (B k) := by have q := o_eqI (X := X) (i := i) (j := j); rw [h] at q; exact q
theorem o_eqTI (hu : X.A.units + 64 < cLine) {g h : List Int} {k : Bool} (e : PyData.eqv (tupI g) (tupI h) = k) : Op2 X (compareOp .Eq) (.dat (tupI g)) (.dat (tupI h)) (B k) := by
  have q := o_eqD hu (d := tupI g) (e := tupI h) (shaped_tupI g) (shaped_tupI h)
  rw [e] at q
  exact q
end
theorem eqv_ints : ∀ g h : List Int, PyData.eqvAll (g.map .int) (h.map .int) = decide (g = h)
  | [], [] => rfl
  | [], _ :: _ => rfl
  | _ :: _, [] => rfl
  | x :: g, y :: h => by
    show (PyData.eqv (.int x) (.int y) && PyData.eqvAll (g.map .int) (h.map .int)) = _
    rw [eqv_ints g h]
    by_cases e : x = y
    · subst e
      by_cases e2 : g = h
      · subst e2; simp [PyData.eqv]
      · rw [decide_eq_false e2, Bool.and_false, decide_eq_false (by simp [e2])]
    · have : PyData.eqv (.int x) (.int y) = false := by
        simp [PyData.eqv, e]
      rw [this, Bool.false_and, decide_eq_false (by simp [e])]
theorem eqv_tups (g h : List Int) : PyData.eqv (tupI g) (tupI h) = decide (g = h) := eqv_ints g h
/-- two tuples of numbers -/
theorem o_eqG {X : Cx} (hu : X.A.units + 64 < cLine) {g h : List Int} : Op2 X (compareOp .Eq) (.dat (tupI g)) (.dat (tupI h)) (B (decide (g = h))) := o_eqTI hu (eqv_tups g h)
section
variable {P : Program} {w : World} {K : PySem.W.Frag} {mg : Str → Option Value} {base : Heap} {f : Addr} {fd : FuncData}
/-! ### is_ratio, check_rule, check_alike -/
abbrev s_israt : Stmt := topS 22
theorem sc_israt : FnScope ["value", "top", "bottom"] ["value"] (defScope s_israt) := ⟨rfl, rfl, rfl, by decide +kernel, rfl, by decide +kernel, by decide +kernel⟩
def R_israt : List Ent → Own → Ent → Own → Prop := fun es ω e ω' => ∃ r : Rt, es = [.dat (ratD r)] ∧ RatOk r ∧ e = B true ∧ ω' = ω
theorem ok_israt (F : Fun K "is_ratio" "is_ratio" s_israt f fd) (hm : mg "is_ratio" = some (.ref f)) (b : Bare mg) {t : Tok} (c1 : mg "RATIO_LIMIT" = some (.int 1000000000000 t)) (c2 : mg "gcd" = some (.builtin "math.gcd")) (I1 : DFn P w K mg base 1 "is_integer" R_isint) : DFn P w K mg base 2 "is_ratio" R_israt := by
  refine dfn_ret F hm (F.binds (ps := ["value"]) fun _ _ _ _ _ _ us hl => match us, hl with | [_], _ => rfl) sc_israt ?_ ?_
  · rintro es ω e ω' ⟨r, rfl, _⟩; rfl
  · rintro cdv A outer s H E hr es _ e ω ⟨r, rfl, h, rfl, rfl⟩
    have h1 := h.p
    have h2 := h.le
    have h3 := h.l
    refine dr_ifF (ω1 := ω) (dt_w (dw_or (k := false) (l := false) (dt_not (k := true) (dt_val (de_callB (c_isi (T := "tuple") rfl) b.isinst boot_isinstance (da_cons (de_var 0) (da_cons (de_ty b.tuple boot_tuple) da_nil))))) fun _ => dw_or1 (dt_cmp (o_neIF rfl) (de_callB (c_lenT (ds := [.int r.1, .int r.2])) b.len boot_len (da_cons (de_var 0) da_nil)) de_int))) ?_
    refine dr_cons (dn_bind (S := [1, 2]) (de_var 0) (pg_tup rfl (pgs_cons (pg_name (i := 1) sc_israt.nd rfl (.inl rfl)) (pgs_cons (pg_name (i := 2) sc_israt.nd rfl (.inl rfl)) pgs_nil))) bnd_pair) ?_
    refine dr_ifF (ω1 := ω) (dt_w (dw_or (k := false) (l := false) (dt_not (k := true) (dt_val (de_call I1 hr (da_cons (de_var 1) (da_cons (de_neg (de_globI c1)) (da_cons (de_globI c1) da_nil))) ⟨r.1, -1000000000000, 1000000000000, rfl, ?_, rfl⟩))) fun _ => dw_or1 (dt_not (k := true) (dt_val (de_call I1 hr (da_cons (de_var 2) (da_cons de_int (da_cons (de_globI c1) da_nil))) ⟨r.2, 1, 1000000000000, rfl, ?_, rfl⟩))))) ?_
    · rw [decide_eq_true (show (-1000000000000 : Int) ≤ r.1 by omega), decide_eq_true (show r.1 ≤ 1000000000000 by omega)]; rfl
    · rw [decide_eq_true (show (1 : Int) ≤ r.2 by omega), decide_eq_true (show r.2 ≤ 1000000000000 by omega)]; rfl
    · exact dr_ret (de_cmp (o_eqIk (decide_eq_true h.c)) (de_callM c_gcd c2 (da_cons (de_var 1) (da_cons (de_var 2) da_nil))) de_int)
abbrev s_chkrule : Stmt := topS 23
theorem sc_chkrule : FnScope ["rule", "items", "person", "ratios", "index", "ratio"] ["rule"] (defScope s_chkrule) := ⟨rfl, rfl, rfl, by decide +kernel, rfl, by decide +kernel, by decide +kernel⟩
def R_chkrule : List Ent → Own → Ent → Own → Prop := fun es ω e ω' => ∃ (n : Nat) (r : List (List Rt)), es = [.dat (ruleD r)] ∧ Rule n r ∧ e = .dat .none ∧ ω' = ω
theorem gs_pow {n : Nat} (h : Ns n) : ((gs n).length : Int) = 1 * 2 ^ n - 1 := by
  have key : ∀ n ∈ [2, 3, 4], ((gs n).length : Int) = 1 * 2 ^ n - 1 := by decide
  exact key n h
theorem ok_chkrule (F : Fun K "check_rule" "check_rule" s_chkrule f fd) (hm : mg "check_rule" = some (.ref f)) (b : Bare mg) {t u : Tok} (c1 : mg "FEWEST_PEOPLE" = some (.int 2 t)) (c2 : mg "MOST_PEOPLE" = some (.int 4 u)) (I1 : DFn P w K mg base 2 "is_ratio" R_israt) : DFn P w K mg base 3 "check_rule" R_chkrule := by
  refine dfn_none F hm (F.binds (ps := ["rule"]) fun _ _ _ _ _ _ us hl => match us, hl with | [_], _ => rfl) sc_chkrule ?_ ?_ ?_
  · rintro es ω e ω' ⟨n, r, rfl, _⟩; rfl
  · rintro es ω e ω' ⟨n, r, _, _, rfl, _⟩; rfl
  · rintro cdv A outer s H E hr es _ e ω ⟨n, r, rfl, h, rfl, rfl⟩
    have hn := h.hn.le
    have hl : ((r.map rowD).length : Int) = n := by rw [List.length_map, h.l]
    have hgl := gs_pow h.hn
    have hgl2 : (((gs n).length : Nat) : Int) = 1 * 2 ^ ((((r.map rowD).length : Nat) : Int)).toNat - 1 := by rw [hl]; exact hgl
    have row_at : ∀ {j : Nat} {x : Ent}, ((enD (r.map rowD)).map Ent.dat)[j]? = some x → ∃ row ∈ r, x = .dat (.tuple [.int (j : Nat), rowD row]) := fun {j x} hx => by
      obtain ⟨y, hy, rfl⟩ := enD_at hx
      rw [List.getElem?_map] at hy
      cases e : r[j]? with
      | none => rw [e] at hy; cases hy
      | some v =>
        rw [e] at hy
        cases hy
        exact ⟨v, List.mem_of_getElem? e, rfl⟩
    refine ⟨_, dns_cons (dn_ifF (dt_w (dw_or (k := false) (l := false) (dt_not (k := true) (dt_val (de_callB (c_isi (T := "tuple") rfl) b.isinst boot_isinstance (da_cons (de_var 0) (da_cons (de_ty b.tuple boot_tuple) da_nil))))) fun _ =>
      dw_or1 (k := false) (dt_not (k := true) (dt_chain (o_leT (i := 2) (j := ((r.map rowD).length : Nat)) (by rw [hl]; omega)) (o_leT (j := 4) (by rw [hl]; omega)) (de_globI c1) (de_callB c_lenT b.len boot_len (da_cons (de_var 0) da_nil)) (de_globI c2)))))) (dns_cons (dn_set 1 (e := DL.I ((gs n).length : Nat)) sc_chkrule.nd (by
        rw [hgl2]
        exact de_op o_sub (de_op (o_shl (i := 1) (j := ((r.map rowD).length : Nat)) (by rw [hl]; exact ⟨by omega, by omega, by decide⟩)) de_int (de_callB c_lenT b.len boot_len (da_cons (de_var 0) da_nil))) de_int)) (dns_cons (dn_for (S := [2, 3]) PassesOwn.never rfl (di_enum false (ds := r.map rowD) rfl b.enum (de_var 0)) (fun _ => ω) (fun _ => [some (.dat (ruleD r)), some (DL.I ((gs n).length : Nat)), none, none, none, none]) rfl rfl (pg_tup rfl (pgs_cons (pg_name (i := 2) sc_chkrule.nd rfl (.inl rfl)) (pgs_cons (pg_name (i := 3) sc_chkrule.nd rfl (.inl rfl)) pgs_nil))) fun j x hx => ?_)
        (dns_one (dn_for (S := [2, 3]) PassesOwn.never rfl (di_enum false (ds := r.map rowD) rfl b.enum (de_var 0)) (fun _ => ω) (fun _ => [some (.dat (ruleD r)), some (DL.I ((gs n).length : Nat)), none, none, none, none]) rfl rfl (pg_tup rfl (pgs_cons (pg_name (i := 2) sc_chkrule.nd rfl (.inl rfl)) (pgs_cons (pg_name (i := 3) sc_chkrule.nd rfl (.inl rfl)) pgs_nil))) fun j x hx => ?_))))⟩
    · obtain ⟨row, hrow, rfl⟩ := row_at hx
      refine ⟨_, bnd_pair, dns_le (dns_one (dn_ifF (dt_w (dw_or (k := false) (l := false) (dt_not (k := true) (dt_val (de_callB (c_isi (T := "tuple") rfl) b.isinst boot_isinstance (da_cons (de_var 3) (da_cons (de_ty b.tuple boot_tuple) da_nil))))) fun _ => dw_or1 (dt_cmp (o_neIF (i := ((row.map ratD).length : Nat)) ?_) (de_callB c_lenT b.len boot_len (da_cons (de_var 3) da_nil)) (de_var 1)))))) (LeL.le (.same (.same (.drop (.drop (.same (.same .nil)))))))⟩
      rw [List.length_map, h.w row hrow]
    · obtain ⟨row, hrow, rfl⟩ := row_at hx
      refine ⟨_, bnd_pair, dns_le (dns_one (dn_for (S := [4, 5]) PassesOwn.never rfl (di_enum false (ds := row.map ratD) rfl b.enum (de_var 3)) (fun _ => ω) (fun _ => [some (.dat (ruleD r)), some (DL.I ((gs n).length : Nat)), some (DL.I (j : Nat)), some (.dat (rowD row)), none, none]) rfl rfl (pg_tup rfl (pgs_cons (pg_name (i := 4) sc_chkrule.nd rfl (.inl rfl)) (pgs_cons (pg_name (i := 5) sc_chkrule.nd rfl (.inl rfl)) pgs_nil))) fun i y hy => ?_)) (LeL.le (.same (.same (.drop (.drop (.same (.same .nil)))))))⟩
      obtain ⟨z, hz, rfl⟩ := enD_at hy
      rw [List.getElem?_map] at hz
      cases e : row[i]? with
      | none => rw [e] at hz; cases hz
      | some v =>
        rw [e] at hz
        cases hz
        exact ⟨_, bnd_pair, dns_le (dns_one (dn_ifF (dt_not (k := true) (dt_val (de_call I1 hr (da_cons (de_var 5) da_nil) ⟨v, rfl, h.k row hrow v (List.mem_of_getElem? e), rfl, rfl⟩))))) (LeL.le (.same (.same (.same (.same (.drop (.drop .nil)))))))⟩
abbrev s_chkalike : Stmt := topS 24
theorem sc_chkalike : FnScope ["rule", "game"] ["rule", "game"] (defScope s_chkalike) := ⟨rfl, rfl, rfl, by decide +kernel, rfl, by decide +kernel, by decide +kernel⟩
def R_chkalike : List Ent → Own → Ent → Own → Prop := fun es ω e ω' => ∃ (n : Nat) (r : List (List Rt)) (ws : List Int), es = [.dat (ruleD r), .dat (tupI ws)] ∧ (Rule n r ∧ GLen n ws) ∧ e = .dat .none ∧ ω' = ω
theorem ok_chkalike (F : Fun K "check_alike" "check_alike" s_chkalike f fd) (hm : mg "check_alike" = some (.ref f)) (b : Bare mg) (I1 : DFn P w K mg base 1 "head_count" R_head) : DFn P w K mg base 2 "check_alike" R_chkalike := by
  refine dfn_none F hm (F.binds (ps := ["rule", "game"]) fun _ _ _ _ _ _ us hl => match us, hl with | [_, _], _ => rfl) sc_chkalike ?_ ?_ ?_
  · rintro es ω e ω' ⟨n, r, ws, rfl, _⟩; rfl
  · rintro es ω e ω' ⟨n, r, ws, _, _, rfl, _⟩; rfl
  · rintro cdv A outer s H E hr es _ e ω ⟨n, r, ws, rfl, ⟨h, g⟩, rfl, rfl⟩
    refine ⟨_, dns_one (dn_ifF (dt_cmp (o_neIF (i := ((r.map rowD).length : Nat)) (j := n) ?_) (de_callB c_lenT b.len boot_len (da_cons (de_var 0) da_nil)) (de_call I1 hr (da_cons (de_var 1) da_nil) ⟨n, ws, rfl, g, rfl, rfl⟩)))⟩
    rw [List.length_map, h.l]
end
end G0

set_option Elab.async false
set_option linter.all false
set_option maxRecDepth 100000
set_option maxHeartbeats 2000000
namespace ZM
open PySem PySem.Spec PyProof.Rows L2 DL CB
section
variable {X : Cx} {a b c : Expr} {ω ω1 ω2 : Own} {ρ : Rho} {pos : Pos} {e : Ent} {body ss : List Stmt} {i j : Int} {d d' : PyData}
end
end ZM
namespace G0
open PySem PySem.Spec PyProof.Rows L2 DL CB ZM
abbrev i01 (k : Bool) : Int := if k then 1 else 0
abbrev lenI (g : List Int) : Int := ((g.map PyData.int).length : Nat)
abbrev rg0 (n : Int) : List Int := (List.range n.toNat).map fun (k : Nat) => (k : Int)
theorem lst_ints {α : Type} (l : List α) (g : α → Int) : PyData.list (l.map fun u => .int (g u)) = lstI (l.map g) := by
  show _ = PyData.list _
  rw [List.map_map]
  rfl
section
variable {P : Program} {w : World} {K : PySem.W.Frag} {mg : Str → Option Value} {base : Heap} {f : Addr} {fd : FuncData}
/-! ### lowest, weighted_sum -/
abbrev s_low : Stmt := topS 30
theorem sc_low : FnScope ["top", "bottom", "common"] ["top", "bottom"] (defScope s_low) := ⟨rfl, rfl, rfl, by decide +kernel, rfl, by decide +kernel, by decide +kernel⟩
def R_low : List Ent → Own → Ent → Own → Prop := fun es ω e ω' => ∃ t b : Int, es = [DL.I t, DL.I b] ∧ (0 < b ∧ b < 1000000) ∧ e = .dat (ratD (red t b)) ∧ ω' = ω
theorem ok_low (F : Fun K "lowest" "lowest" s_low f fd) (hm : mg "lowest" = some (.ref f)) (c2 : mg "gcd" = some (.builtin "math.gcd")) : DFn P w K mg base 1 "lowest" R_low := by
  refine dfn_ret F hm (F.binds (ps := ["top", "bottom"]) fun _ _ _ _ _ _ us hl => match us, hl with | [_, _], _ => rfl) sc_low ?_ ?_
  · rintro es ω e ω' ⟨t, b, rfl, _⟩; rfl
  · rintro cdv A outer s H E hr es _ e ω ⟨t, b, rfl, ⟨h1, h2⟩, rfl, rfl⟩
    have hg := gcdI_pos (t := t) h1
    have hl := Int.le_of_dvd h1 (gcdI_r t b)
    refine dr_cons (dn_set 2 (e := DL.I (gcdI t b)) sc_low.nd (de_callM c_gcd c2 (da_cons (de_var 0) (da_cons (de_var 1) da_nil)))) ?_
    exact dr_ret (de_tup (ds := [.int (t / gcdI t b), .int (b / gcdI t b)]) (da_cons (de_op (o_fdiv ⟨hg, by omega⟩) (de_var 0) (de_var 2)) (da_cons (de_op (o_fdiv ⟨hg, by omega⟩) (de_var 1) (de_var 2)) da_nil)) (show 2 ≤ sizeLine by decide))
abbrev s_wsum : Stmt := topS 31
abbrev NW : List Str := ["ratios", "weights", "ratio", "weight", "used", "bottom", "top"]
theorem sc_wsum : FnScope NW ["ratios", "weights"] (defScope s_wsum) := ⟨rfl, rfl, rfl, by decide +kernel, rfl, by decide +kernel, by decide +kernel⟩
abbrev useD (u : Rt × Int) : PyData := .tuple [ratD u.1, .int u.2]
def R_wsum : List Ent → Own → Ent → Own → Prop := fun es ω e ω' => ∃ (rs : List Rt) (ws : List Int), es = [.dat (rowD rs), .dat (tupI ws)] ∧ ((∀ r ∈ rs, RatOk r) ∧ rs.length ≤ 100 ∧ ∀ x ∈ ws, -1000000 ≤ x ∧ x ≤ 1000000) ∧ e = .dat (ratD (wsumL rs ws)) ∧ ω' = ω
theorem zip_useD (rs : List Rt) (ws : List Int) : (((rs.map ratD).zip (ws.map PyData.int)).map fun p => Ent.dat (.tuple [p.1, p.2])) = (rs.zip ws).map fun u => .dat (useD u) := by
  rw [List.zip_map, List.map_map]
  rfl
theorem ok_wsum (F : Fun K "weighted_sum" "weighted_sum" s_wsum f fd) (hm : mg "weighted_sum" = some (.ref f)) (b : Bare mg) (c2 : mg "lcm" = some (.builtin "math.lcm")) (I1 : DFn P w K mg base 1 "lowest" R_low) : DFn P w K mg base 2 "weighted_sum" R_wsum := by
  refine dfn_ret F hm (F.binds (ps := ["ratios", "weights"]) fun _ _ _ _ _ _ us hl => match us, hl with | [_, _], _ => rfl) sc_wsum ?_ ?_
  · rintro es ω e ω' ⟨rs, ws, rfl, _⟩; rfl
  · rintro cdv A outer s H E hr es _ e ω ⟨rs, ws, rfl, ⟨h, hz, hw⟩, rfl, rfl⟩
    have hzz : (rs.zip ws).length ≤ 100 := by rw [List.length_zip]; omega
    have hul : (usedL rs ws).length ≤ 100 := Nat.le_trans (List.length_filter_le _ _) hzz
    have hu := used_nd (ws := ws) h
    have hd : ∀ u ∈ usedL rs ws, u.1.2.natAbs ∣ 48 := fun u m => Int.natAbs_dvd_natAbs.mpr (hu u m).d
    have hL48 := lcm48 (ws := ws) h
    have hL0 := lcm_pos (ws := ws) h
    have hLle := Nat.le_of_dvd (by decide) hL48
    refine dr_cons (dn_setM 4 [("ratio", 2), ("weight", 3)] (as := rs.zip ws) (enc := fun u => .dat (useD u)) _ (fun u => !decide (u.2 = 0)) useD rfl sc_wsum.nd (by rw [← zip_useD]; exact di_zip false false rfl b.zip (da_cons (de_var 0) (da_cons (de_var 1) da_nil)))
      (fun _ _ _ _ _ => pg_tup rfl (pgs_cons (pg_name (i := 2) sc_wsum.nd rfl (.inl rfl)) (pgs_cons (pg_name (i := 3) sc_wsum.nd rfl (.inl rfl)) pgs_nil))) (fun x hx => bnd_pair)
      (fun _ _ _ _ _ ωd x hx => dts_one (dt_cmp o_neI (de_var 3) de_int)) (fun _ _ _ _ _ ωd x hx hk => de_tup (ds := [ratD x.1, .int x.2]) (da_cons (de_var 2) (da_cons (de_var 3) da_nil)) (show 2 ≤ sizeLine by decide)) (by omega)) ?_
    refine dr_cons (dn_set 5 sc_wsum.nd de_int) ?_
    refine dr_cons (dn_forN (usedL rs ws).length (S := [2, 3]) (xs := ((usedL rs ws).map useD).map Ent.dat) (by rw [List.length_map, List.length_map]) PassesOwn.never rfl (di_list (de_var 4)) (fun _ => ω)
      (fun k => [some (.dat (rowD rs)), some (.dat (tupI ws)), none, none, some (.dat (.list ((usedL rs ws).map useD))), some (DL.I (lcmL ((usedL rs ws).take k) : Nat)), none]) rfl rfl (pg_tup rfl (pgs_cons (pg_name (i := 2) sc_wsum.nd rfl (.inl rfl)) (pgs_cons (pg_name (i := 3) sc_wsum.nd rfl (.inl rfl)) pgs_nil))) fun k x hx => ?_) ?_
    · rw [List.getElem?_map, List.getElem?_map] at hx
      cases e : (usedL rs ws)[k]? with
      | none => rw [e] at hx; cases hx
      | some u =>
        rw [e] at hx
        cases hx
        have um := List.mem_of_getElem? e
        have hp := (hu u um).p
        have hle := (hu u um).le
        have el : lcmL ((usedL rs ws).take (k + 1)) = Nat.lcm (lcmL ((usedL rs ws).take k)) u.1.2.natAbs := by
          rw [take_snoc e]
          unfold lcmL
          rw [List.foldl_append]
          rfl
        have hk48 : lcmL ((usedL rs ws).take k) ∣ 48 := lcm_fold_le _ 1 48 (by decide) fun u m => hd u (List.mem_of_mem_take m)
        have hkle := Nat.le_of_dvd (by decide) hk48
        have e2 : u.1.2 = ((u.1.2.natAbs : Nat) : Int) := by omega
        refine ⟨_, bnd_pair, dns_le (dns_one (dn_set 5 (e := DL.I (lcmL ((usedL rs ws).take (k + 1)) : Nat)) sc_wsum.nd (by
          rw [el]
          exact de_callM (c_lcm (a := lcmL ((usedL rs ws).take k)) (b := u.1.2.natAbs) (by omega) (by omega)) c2 (da_cons (de_var 5) (da_cons (de_ixT (d := .int ((u.1.2.natAbs : Nat) : Int)) (de_var 2) de_int (by rw [← e2]; rfl)) da_nil))))) (LeL.le (.same (.same (.drop (.drop (.same (.same (.same .nil))))))))⟩
    · rw [List.take_length]
      have hu2 : ∀ u ∈ usedL rs ws, -1000000 ≤ u.2 ∧ u.2 ≤ 1000000 := fun u m => hw _ (List.of_mem_zip (a := u.1) (b := u.2) (List.mem_filter.mp m).1).2
      refine dr_cons (dn_set 6 (e := DL.I (wtopL (usedL rs ws) (lcmL (usedL rs ws) : Nat))) sc_wsum.nd (de_callB (c_sum rfl) b.sum boot_sum (da_cons (by
        rw [← lst_ints]
        exact de_mapA [("ratio", 2), ("weight", 3)] (as := usedL rs ws) (enc := fun u => .dat (useD u)) _ (fun u => .int (u.2 * u.1.1 * (((lcmL (usedL rs ws) : Nat) : Int) / u.1.2))) rfl sc_wsum.nd (by
          have em : ((usedL rs ws).map fun u => Ent.dat (useD u)) = ((usedL rs ws).map useD).map Ent.dat := by rw [List.map_map]; rfl
          rw [em]
          exact di_list (de_var 4)) (fun _ _ _ _ _ => pg_tup rfl (pgs_cons (pg_name (i := 2) sc_wsum.nd rfl (.inl rfl)) (pgs_cons (pg_name (i := 3) sc_wsum.nd rfl (.inl rfl)) pgs_nil))) (fun x hx => bnd_pair) (fun _ _ _ _ _ ωd u m => by
            have hp := (hu u m).p
            have hle := (hu u m).le
            have h2 := hu2 u m
            have hq : ((lcmL (usedL rs ws) : Nat) : Int) / u.1.2 ≤ 48 := Int.le_trans (Int.ediv_le_self _ (by omega)) (by omega)
            have hq0 : 0 ≤ ((lcmL (usedL rs ws) : Nat) : Int) / u.1.2 := Int.ediv_nonneg (by omega) (by omega)
            exact de_op (o_mul (.inr ⟨by omega, by omega⟩)) (de_op (o_mul (.inl ⟨by omega, by omega⟩)) (de_var 3) (de_ixT (d := .int u.1.1) (de_var 2) de_int rfl)) (de_op (o_fdiv ⟨hp, by omega⟩) (de_var 5) (de_ixT (d := .int u.1.2) (de_var 2) de_int rfl))) (by omega)) da_nil))) ?_
      exact dr_ret (de_call I1 hr (da_cons (de_var 6) (da_cons (de_var 5) da_nil)) ⟨_, _, rfl, ⟨by omega, by omega⟩, rfl, rfl⟩)
end
end G0

set_option Elab.async false
set_option linter.all false
set_option maxRecDepth 100000
set_option maxHeartbeats 2000000
namespace G0
open PySem PySem.Spec PyProof.Rows L2 DL CB ZM
/-! ### the ratios by a name -/
def tBan (n : Nat) (p : Int) (g : List Int) : Rt := red (cond (decide (p ∈ g)) 1 (-1)) (1 * 2 ^ ((n : Int) - 1).toNat)
def tEven (n : Nat) (p : Int) (g : List Int) : Rt := red (i01 (decide (lenI g = (n : Int)))) n
def tTurn (n : Nat) (p : Int) (g : List Int) : Rt := cond (decide (g = rg0 (p + 1))) (1, 1) (cond (decide (g = rg0 p)) (-1, 1) (0, 1))
def wLast (n : Nat) (p : Int) (g : List Int) : Int := cond (decide (lenI g = (n : Int))) 1 (cond (decide (g = othersL n [p])) (-1) 0)
def tLast (n : Nat) (p : Int) (g : List Int) : Rt := (wLast n p g, 1)
def wOwn (n : Nat) (p : Int) (g : List Int) : Int := i01 (decide (g = [p]))
def tOwn (n : Nat) (p : Int) (g : List Int) : Rt := (wOwn n p g, 1)
def tWer (W : Nat → Int → List Int → Int) (n : Nat) (p : Int) (g : List Int) : Rt := red (n * W n p g + (i01 (decide (lenI g = (n : Int))) - ((rgI 0 n).map fun t => W n t g).sum)) n
def ahN (p : Int) (g : List Int) : Nat := if p ∈ g then g.length - 1 else g.length
abbrev facI (a : Nat) : Int := ((Builtin.Math.factorialNat a : Nat) : Int)
def ordI (n : Nat) (p : Int) (g : List Int) : Int := facI (ahN p g) * facI (n - 1 - ahN p g)
def tSha (n : Nat) (p : Int) (g : List Int) : Rt := red (cond (decide (p ∈ g)) (ordI n p g) (-(ordI n p g))) (facI n)
def Arg3 (n : Nat) (p : Int) (g : List Int) : Prop := Ns n ∧ p ∈ rgI 0 n ∧ g ∈ gs n
def R_rat (F : Nat → Int → List Int → Rt) : List Ent → Own → Ent → Own → Prop := fun es ω e ω' => ∃ (n : Nat) (p : Int) (g : List Int), es = [DL.I n, DL.I p, GE g] ∧ Arg3 n p g ∧ e = .dat (ratD (F n p g)) ∧ ω' = ω
def R_wgt (W : Nat → Int → List Int → Int) : List Ent → Own → Ent → Own → Prop := fun es ω e ω' => ∃ (n : Nat) (p : Int) (g : List Int), es = [DL.I n, DL.I p, GE g] ∧ Arg3 n p g ∧ e = DL.I (W n p g) ∧ ω' = ω
theorem rgI_mem2 {n : Nat} {p : Int} (h : p ∈ rgI 0 n) : 0 ≤ p ∧ p < n := by
  unfold rgI at h
  obtain ⟨k, hk, rfl⟩ := List.mem_map.mp h
  have := List.mem_range.mp hk
  omega
theorem fac_small : ∀ a ≤ 10, 0 < Builtin.Math.factorialNat a ∧ Builtin.Math.factorialNat a < 2 ^ 30 := by decide
theorem fac_4 : ∀ a ≤ 4, Builtin.Math.factorialNat a ≤ 24 := by decide
section
variable {P : Program} {w : World} {K : PySem.W.Frag} {mg : Str → Option Value} {base : Heap} {f : Addr} {fd : FuncData}
abbrev s_ban : Stmt := topS 32
theorem sc_ban : FnScope ["many", "person", "group", "sign"] ["many", "person", "group"] (defScope s_ban) := ⟨rfl, rfl, rfl, by decide +kernel, rfl, by decide +kernel, by decide +kernel⟩
theorem ok_ban (F : Fun K "banzhaf_ratio" "banzhaf_ratio" s_ban f fd) (hm : mg "banzhaf_ratio" = some (.ref f)) (I1 : DFn P w K mg base 1 "lowest" R_low) : DFn P w K mg base 2 "banzhaf_ratio" (R_rat tBan) := by
  refine dfn_ret F hm (F.binds (ps := ["many", "person", "group"]) fun _ _ _ _ _ _ us hl => match us, hl with | [_, _, _], _ => rfl) sc_ban ?_ ?_
  · rintro es ω e ω' ⟨n, p, g, rfl, _⟩; rfl
  · rintro cdv A outer s H E hr es _ e ω ⟨n, p, g, rfl, ⟨hn, hp, hg⟩, rfl, rfl⟩
    have h4 := hn.le
    have key : ∀ n ∈ [2, 3, 4], (0 : Int) < 1 * 2 ^ ((n : Nat) - 1 : Int).toNat ∧ (1 : Int) * 2 ^ ((n : Nat) - 1 : Int).toNat < 1000000 := by decide
    refine dr_cons (dn_set 3 sc_ban.nd (de_ifI (dt_cmp o_inT (de_var 1) (de_var 2)) de_int (de_neg de_int))) ?_
    exact dr_ret (de_call I1 hr (da_cons (de_var 3) (da_cons (de_op (o_shl ⟨by omega, by omega, by decide⟩) de_int (de_op o_sub (de_var 0) de_int)) da_nil)) ⟨_, _, rfl, key n hn, rfl, rfl⟩)
abbrev s_even : Stmt := topS 33
theorem sc_even : FnScope ["many", "person", "group"] ["many", "person", "group"] (defScope s_even) := ⟨rfl, rfl, rfl, by decide +kernel, rfl, by decide +kernel, by decide +kernel⟩
theorem ok_even (F : Fun K "even_ratio" "even_ratio" s_even f fd) (hm : mg "even_ratio" = some (.ref f)) (b : Bare mg) (I1 : DFn P w K mg base 1 "lowest" R_low) : DFn P w K mg base 2 "even_ratio" (R_rat tEven) := by
  refine dfn_ret F hm (F.binds (ps := ["many", "person", "group"]) fun _ _ _ _ _ _ us hl => match us, hl with | [_, _, _], _ => rfl) sc_even ?_ ?_
  · rintro es ω e ω' ⟨n, p, g, rfl, _⟩; rfl
  · rintro cdv A outer s H E hr es _ e ω ⟨n, p, g, rfl, ⟨hn, hp, hg⟩, rfl, rfl⟩
    have h4 := hn.le
    exact dr_ret (de_call I1 hr (da_cons (de_callT c_intB b.int boot_int (da_cons (de_cmp o_eqI (de_callB c_lenT b.len boot_len (da_cons (de_var 2) da_nil)) (de_var 0)) da_nil)) (da_cons (de_var 0) da_nil)) ⟨_, _, rfl, ⟨by omega, by omega⟩, rfl, rfl⟩)
abbrev s_turn : Stmt := topS 34
theorem sc_turn : FnScope ["many", "person", "group"] ["many", "person", "group"] (defScope s_turn) := ⟨rfl, rfl, rfl, by decide +kernel, rfl, by decide +kernel, by decide +kernel⟩
theorem ok_turn (F : Fun K "in_turn_ratio" "in_turn_ratio" s_turn f fd) (hm : mg "in_turn_ratio" = some (.ref f)) (b : Bare mg) : DFn P w K mg base 1 "in_turn_ratio" (R_rat tTurn) := by
  refine dfn_ret F hm (F.binds (ps := ["many", "person", "group"]) fun _ _ _ _ _ _ us hl => match us, hl with | [_, _, _], _ => rfl) sc_turn ?_ ?_
  · rintro es ω e ω' ⟨n, p, g, rfl, _⟩; rfl
  · rintro cdv A outer s H E hr es _ e ω ⟨n, p, g, rfl, ⟨hn, hp, hg⟩, rfl, rfl⟩
    have hu := hr.units
    have h4 := hn.le
    have hp2 := rgI_mem2 hp
    refine dr_ifK (ω1 := ω) (k := decide (g = rg0 (p + 1))) (dt_cmp (o_eqG hu) (de_var 2) (de_tupRg rfl b.tuple b.range (de_op o_add (de_var 1) de_int) (by omega))) (fun hk => ?_) fun hk => ?_
    · rw [show tTurn n p g = (1, 1) by unfold tTurn; rw [hk]; rfl]
      exact dr_ret (de_tup (ds := [.int 1, .int 1]) (da_cons de_int (da_cons de_int da_nil)) (show 2 ≤ sizeLine by decide))
    · have e : ratD (tTurn n p g) = cond (decide (g = rg0 p)) (ratD (-1, 1)) (ratD (0, 1)) := by
        unfold tTurn
        rw [hk]
        cases decide (g = rg0 p) <;> rfl
      rw [e]
      exact dr_ret (de_ifD (dt_cmp (o_eqG hu) (de_var 2) (de_tupRg rfl b.tuple b.range (de_var 1) (by omega))) (de_tup (ds := [.int (-1), .int 1]) (da_cons (de_neg de_int) (da_cons de_int da_nil)) (show 2 ≤ sizeLine by decide)) (de_tup (ds := [.int 0, .int 1]) (da_cons de_int (da_cons de_int da_nil)) (show 2 ≤ sizeLine by decide)))
abbrev s_lastw : Stmt := topS 35
theorem sc_lastw : FnScope ["many", "person", "group"] ["many", "person", "group"] (defScope s_lastw) := ⟨rfl, rfl, rfl, by decide +kernel, rfl, by decide +kernel, by decide +kernel⟩
theorem ok_lastw (F : Fun K "last_weight" "last_weight" s_lastw f fd) (hm : mg "last_weight" = some (.ref f)) (b : Bare mg) (I1 : DFn P w K mg base 1 "others" R_others) : DFn P w K mg base 2 "last_weight" (R_wgt wLast) := by
  refine dfn_ret F hm (F.binds (ps := ["many", "person", "group"]) fun _ _ _ _ _ _ us hl => match us, hl with | [_, _, _], _ => rfl) sc_lastw ?_ ?_
  · rintro es ω e ω' ⟨n, p, g, rfl, _⟩; rfl
  · rintro cdv A outer s H E hr es _ e ω ⟨n, p, g, rfl, ⟨hn, hp, hg⟩, rfl, rfl⟩
    have hu := hr.units
    refine dr_ifK (ω1 := ω) (k := decide (lenI g = (n : Int))) (dt_cmp o_eqI (de_callB c_lenT b.len boot_len (da_cons (de_var 2) da_nil)) (de_var 0)) (fun hk => ?_) fun hk => ?_
    · rw [show wLast n p g = 1 by unfold wLast; rw [hk]; rfl]
      exact dr_ret de_int
    · rw [show wLast n p g = cond (decide (g = othersL n [p])) (-1) 0 by unfold wLast; rw [hk]; rfl]
      exact dr_ret (de_ifI (dt_cmp (o_eqG hu) (de_var 2) (de_call I1 hr (da_cons (de_var 0) (da_cons (de_tup (ds := [.int p]) (da_cons (de_var 1) da_nil) (show 1 ≤ sizeLine by decide)) da_nil)) ⟨n, [p], rfl, hn, rfl, rfl⟩)) (de_neg de_int) de_int)
abbrev s_last : Stmt := topS 36
theorem sc_last : FnScope ["many", "person", "group"] ["many", "person", "group"] (defScope s_last) := ⟨rfl, rfl, rfl, by decide +kernel, rfl, by decide +kernel, by decide +kernel⟩
theorem ok_last (F : Fun K "last_ratio" "last_ratio" s_last f fd) (hm : mg "last_ratio" = some (.ref f)) (I1 : DFn P w K mg base 2 "last_weight" (R_wgt wLast)) : DFn P w K mg base 3 "last_ratio" (R_rat tLast) := by
  refine dfn_ret F hm (F.binds (ps := ["many", "person", "group"]) fun _ _ _ _ _ _ us hl => match us, hl with | [_, _, _], _ => rfl) sc_last ?_ ?_
  · rintro es ω e ω' ⟨n, p, g, rfl, _⟩; rfl
  · rintro cdv A outer s H E hr es _ e ω ⟨n, p, g, rfl, h, rfl, rfl⟩
    exact dr_ret (de_tup (ds := [.int (wLast n p g), .int 1]) (da_cons (de_call I1 hr (da_cons (de_var 0) (da_cons (de_var 1) (da_cons (de_var 2) da_nil))) ⟨n, p, g, rfl, h, rfl, rfl⟩) (da_cons de_int da_nil)) (show 2 ≤ sizeLine by decide))
abbrev s_ownw : Stmt := topS 37
theorem sc_ownw : FnScope ["many", "person", "group"] ["many", "person", "group"] (defScope s_ownw) := ⟨rfl, rfl, rfl, by decide +kernel, rfl, by decide +kernel, by decide +kernel⟩
theorem ok_ownw (F : Fun K "own_weight" "own_weight" s_ownw f fd) (hm : mg "own_weight" = some (.ref f)) (b : Bare mg) : DFn P w K mg base 2 "own_weight" (R_wgt wOwn) := by
  refine dfn_ret F hm (F.binds (ps := ["many", "person", "group"]) fun _ _ _ _ _ _ us hl => match us, hl with | [_, _, _], _ => rfl) sc_ownw ?_ ?_
  · rintro es ω e ω' ⟨n, p, g, rfl, _⟩; rfl
  · rintro cdv A outer s H E hr es _ e ω ⟨n, p, g, rfl, ⟨hn, hp, hg⟩, rfl, rfl⟩
    have hu := hr.units
    exact dr_ret (de_callT c_intB b.int boot_int (da_cons (de_cmp (o_eqG (h := [p]) hu) (de_var 2) (de_tup (ds := [.int p]) (da_cons (de_var 1) da_nil) (show 1 ≤ sizeLine by decide))) da_nil))
abbrev s_own : Stmt := topS 38
theorem sc_own : FnScope ["many", "person", "group"] ["many", "person", "group"] (defScope s_own) := ⟨rfl, rfl, rfl, by decide +kernel, rfl, by decide +kernel, by decide +kernel⟩
theorem ok_own (F : Fun K "own_ratio" "own_ratio" s_own f fd) (hm : mg "own_ratio" = some (.ref f)) (I1 : DFn P w K mg base 2 "own_weight" (R_wgt wOwn)) : DFn P w K mg base 3 "own_ratio" (R_rat tOwn) := by
  refine dfn_ret F hm (F.binds (ps := ["many", "person", "group"]) fun _ _ _ _ _ _ us hl => match us, hl with | [_, _, _], _ => rfl) sc_own ?_ ?_
  · rintro es ω e ω' ⟨n, p, g, rfl, _⟩; rfl
  · rintro cdv A outer s H E hr es _ e ω ⟨n, p, g, rfl, h, rfl, rfl⟩
    exact dr_ret (de_tup (ds := [.int (wOwn n p g), .int 1]) (da_cons (de_call I1 hr (da_cons (de_var 0) (da_cons (de_var 1) (da_cons (de_var 2) da_nil))) ⟨n, p, g, rfl, h, rfl, rfl⟩) (da_cons de_int da_nil)) (show 2 ≤ sizeLine by decide))
abbrev s_wer : Stmt := topS 39
theorem sc_wer : FnScope ["weight", "many", "person", "group", "taken", "left", "taker"] ["weight", "many", "person", "group"] (defScope s_wer) := ⟨rfl, rfl, rfl, by decide +kernel, rfl, by decide +kernel, by decide +kernel⟩
def R_wer (P : Program) (w : World) (K : PySem.W.Frag) (mg : Str → Option Value) (base : Heap) : List Ent → Own → Ent → Own → Prop := fun es ω e ω' => ∃ (q : Addr) (W : Nat → Int → List Int → Int) (n : Nat) (p : Int) (g : List Int), es = [.raw (.ref q), DL.I n, DL.I p, GE g] ∧ (DFa P w K mg base 2 q (R_wgt W) ∧ Arg3 n p g) ∧ e = .dat (ratD (tWer W n p g)) ∧ ω' = ω
theorem ok_wer (F : Fun K "with_even_rest" "with_even_rest" s_wer f fd) (hm : mg "with_even_rest" = some (.ref f)) (b : Bare mg) (I1 : DFn P w K mg base 1 "lowest" R_low) : DFn P w K mg base 3 "with_even_rest" (R_wer P w K mg base) := by
  refine dfn_ret F hm (F.binds (ps := ["weight", "many", "person", "group"]) fun _ _ _ _ _ _ us hl => match us, hl with | [_, _, _, _], _ => rfl) sc_wer ?_ ?_
  · rintro es ω e ω' ⟨q, W, n, p, g, rfl, _⟩; rfl
  · rintro cdv A outer s H E hr es _ e ω ⟨q, W, n, p, g, rfl, ⟨D, h⟩, rfl, rfl⟩
    have h4 := h.1.le
    have hr1 : Room 1 _ := hr.mono (by decide)
    refine dr_cons (dn_set 4 (e := DL.I ((rgI 0 n).map fun t => W n t g).sum) sc_wer.nd (de_callB (c_sum rfl) b.sum boot_sum (da_cons (by
      rw [← lst_ints]
      exact de_mapA [("taker", 6)] (as := rgI 0 n) (enc := DL.I) _ (fun t => .int (W n t g)) rfl sc_wer.nd (di_range1 (n := (n : Int)) b.range (de_var 1) (by omega)) (fun _ _ _ _ _ => pg_name (i := 6) sc_wer.nd rfl (Or.inl rfl)) (fun x hx => bnd_name)
        (fun _ _ _ _ _ ωd x hx => de_callL 0 D (by exact hr) (da_cons (de_var 1) (da_cons (de_var 6) (da_cons (de_var 3) da_nil))) ⟨n, x, g, rfl, ⟨h.1, hx, h.2.2⟩, rfl, rfl⟩) (by rw [rgI_len]; omega)) da_nil))) ?_
    refine dr_cons (dn_set 5 sc_wer.nd (de_op o_sub (de_callT c_intB b.int boot_int (da_cons (de_cmp o_eqI (de_callB c_lenT b.len boot_len (da_cons (de_var 3) da_nil)) (de_var 1)) da_nil)) (de_var 4))) ?_
    exact dr_ret (de_call I1 hr1 (da_cons (de_op o_add (de_op (o_mul (.inl ⟨by omega, by omega⟩)) (de_var 1) (de_callL 0 D (by exact hr) (da_cons (de_var 1) (da_cons (de_var 2) (da_cons (de_var 3) da_nil))) ⟨n, p, g, rfl, h, rfl, rfl⟩)) (de_var 5)) (da_cons (de_var 1) da_nil)) ⟨_, _, rfl, ⟨by omega, by omega⟩, rfl, rfl⟩)
abbrev s_leven : Stmt := topS 40
theorem sc_leven : FnScope ["many", "person", "group"] ["many", "person", "group"] (defScope s_leven) := ⟨rfl, rfl, rfl, by decide +kernel, rfl, by decide +kernel, by decide +kernel⟩
theorem ok_leven (F : Fun K "last_even_ratio" "last_even_ratio" s_leven f fd) (hm : mg "last_even_ratio" = some (.ref f)) (I1 : DFn P w K mg base 3 "with_even_rest" (R_wer P w K mg base)) {q : Addr} (c1 : mg "last_weight" = some (.ref q)) (I2 : DFn P w K mg base 2 "last_weight" (R_wgt wLast)) : DFn P w K mg base 4 "last_even_ratio" (R_rat (tWer wLast)) := by
  refine dfn_ret F hm (F.binds (ps := ["many", "person", "group"]) fun _ _ _ _ _ _ us hl => match us, hl with | [_, _, _], _ => rfl) sc_leven ?_ ?_
  · rintro es ω e ω' ⟨n, p, g, rfl, _⟩; rfl
  · rintro cdv A outer s H E hr es _ e ω ⟨n, p, g, rfl, h, rfl, rfl⟩
    exact dr_ret (de_call I1 hr (da_cons (de_globR c1) (da_cons (de_var 0) (da_cons (de_var 1) (da_cons (de_var 2) da_nil)))) ⟨q, wLast, n, p, g, rfl, ⟨dfa_of I2 c1, h⟩, rfl, rfl⟩)
abbrev s_reven : Stmt := topS 41
theorem sc_reven : FnScope ["many", "person", "group"] ["many", "person", "group"] (defScope s_reven) := ⟨rfl, rfl, rfl, by decide +kernel, rfl, by decide +kernel, by decide +kernel⟩
theorem ok_reven (F : Fun K "rest_even_ratio" "rest_even_ratio" s_reven f fd) (hm : mg "rest_even_ratio" = some (.ref f)) (I1 : DFn P w K mg base 3 "with_even_rest" (R_wer P w K mg base)) {q : Addr} (c1 : mg "own_weight" = some (.ref q)) (I2 : DFn P w K mg base 2 "own_weight" (R_wgt wOwn)) : DFn P w K mg base 4 "rest_even_ratio" (R_rat (tWer wOwn)) := by
  refine dfn_ret F hm (F.binds (ps := ["many", "person", "group"]) fun _ _ _ _ _ _ us hl => match us, hl with | [_, _, _], _ => rfl) sc_reven ?_ ?_
  · rintro es ω e ω' ⟨n, p, g, rfl, _⟩; rfl
  · rintro cdv A outer s H E hr es _ e ω ⟨n, p, g, rfl, h, rfl, rfl⟩
    exact dr_ret (de_call I1 hr (da_cons (de_globR c1) (da_cons (de_var 0) (da_cons (de_var 1) (da_cons (de_var 2) da_nil)))) ⟨q, wOwn, n, p, g, rfl, ⟨dfa_of I2 c1, h⟩, rfl, rfl⟩)
abbrev s_sha : Stmt := topS 42
theorem sc_sha : FnScope ["many", "person", "group", "joins", "ahead", "orders"] ["many", "person", "group"] (defScope s_sha) := ⟨rfl, rfl, rfl, by decide +kernel, rfl, by decide +kernel, by decide +kernel⟩
theorem ah_le {n : Nat} {p : Int} {g : List Int} (h : Arg3 n p g) : ahN p g ≤ n - 1 ∧ (p ∈ g → 1 ≤ g.length) := by
  have key : ∀ n ∈ [2, 3, 4], ∀ p ∈ rgI 0 n, ∀ g ∈ gs n, ahN p g ≤ n - 1 ∧ (p ∈ g → 1 ≤ g.length) := by decide
  exact key n h.1 p h.2.1 g h.2.2
theorem ok_sha (F : Fun K "shapley_ratio" "shapley_ratio" s_sha f fd) (hm : mg "shapley_ratio" = some (.ref f)) (b : Bare mg) (c2 : mg "factorial" = some (.builtin "math.factorial")) (I1 : DFn P w K mg base 1 "lowest" R_low) : DFn P w K mg base 2 "shapley_ratio" (R_rat tSha) := by
  refine dfn_ret F hm (F.binds (ps := ["many", "person", "group"]) fun _ _ _ _ _ _ us hl => match us, hl with | [_, _, _], _ => rfl) sc_sha ?_ ?_
  · rintro es ω e ω' ⟨n, p, g, rfl, _⟩; rfl
  · rintro cdv A outer s H E hr es _ e ω ⟨n, p, g, rfl, h, rfl, rfl⟩
    have h4 := h.1.le
    obtain ⟨ha, ha2⟩ := ah_le h
    have f1 := fac_4 (ahN p g) (by omega)
    have f1' : 0 ≤ facI (ahN p g) ∧ facI (ahN p g) ≤ 24 := ⟨Int.natCast_nonneg _, by show ((Builtin.Math.factorialNat (ahN p g) : Nat) : Int) ≤ 24; omega⟩
    have f2 := fac_small n (by omega)
    have f3 := fac_4 n (by omega)
    have ea : cond (decide (p ∈ g)) (lenI g - 1) (lenI g) = ((ahN p g : Nat) : Int) := by
      unfold ahN lenI
      rw [List.length_map]
      by_cases z : p ∈ g
      · have := ha2 z
        rw [decide_eq_true z, if_pos z]
        show ((g.length : Nat) : Int) - 1 = _
        omega
      · rw [decide_eq_false z, if_neg z]
        rfl
    have eb : (n : Int) - 1 - ((ahN p g : Nat) : Int) = ((n - 1 - ahN p g : Nat) : Int) := by omega
    refine dr_cons (dn_set 3 sc_sha.nd (de_cmp o_inT (de_var 1) (de_var 2))) ?_
    refine dr_cons (dn_set 4 (e := DL.I ((ahN p g : Nat) : Int)) sc_sha.nd (by
      rw [← ea]
      exact de_ifI (dt_val (de_var 3)) (de_op o_sub (de_callB c_lenT b.len boot_len (da_cons (de_var 2) da_nil)) de_int) (de_callB c_lenT b.len boot_len (da_cons (de_var 2) da_nil)))) ?_
    refine dr_cons (dn_set 5 (e := DL.I (ordI n p g)) sc_sha.nd (de_op (o_mul (i := facI (ahN p g)) (.inl ⟨by omega, by omega⟩)) (de_callM (c_fac (a := ahN p g) (by omega)) c2 (da_cons (de_var 4) da_nil)) (de_callM (c_fac (a := n - 1 - ahN p g) (by omega)) c2 (da_cons (by
      rw [← eb]
      exact de_op o_sub (de_op o_sub (de_var 0) de_int) (de_var 4)) da_nil)))) ?_
    exact dr_ret (de_call I1 hr (da_cons (de_ifI (dt_val (de_var 3)) (de_var 5) (de_neg (de_var 5))) (da_cons (de_callM (c_fac (a := n) (by omega)) c2 (da_cons (de_var 0) da_nil)) da_nil)) ⟨_, _, rfl, ⟨by omega, by omega⟩, rfl, rfl⟩)
end
end G0

set_option Elab.async false
set_option linter.all false
set_option maxRecDepth 100000
set_option maxHeartbeats 2000000
namespace G0
open PySem PySem.Spec PyProof.Rows L2 DL CB ZM
/-! ### shares, names, told_rule -/
def sharesL (r : List (List Rt)) (ws : List Int) : List Rt := r.map fun row => wsumL row ws
abbrev names8 : List Str := ["banzhaf", "even", "in turn", "last", "last even", "own", "rest even", "shapley"]
def toldF (x : Str) : Nat → Int → List Int → Rt :=
  if x = "banzhaf" then tBan else if x = "even" then tEven else if x = "in turn" then tTurn else if x = "last" then tLast else if x = "last even" then tWer wLast else if x = "own" then tOwn else if x = "rest even" then tWer wOwn else tSha
def toldL (x : Str) (n : Nat) : List (List Rt) := (rgI 0 n).map fun p => (gs n).map fun g => toldF x n p g
theorem tup_map {α : Type} (l : List α) (g : α → PyData) : PyData.tuple (l.map g) = PyData.tuple (l.map g) := rfl
section
variable {P : Program} {w : World} {K : PySem.W.Frag} {mg : Str → Option Value} {base : Heap} {f : Addr} {fd : FuncData}
abbrev s_shares : Stmt := topS 44
theorem sc_shares : FnScope ["rule", "game", "ratios"] ["rule", "game"] (defScope s_shares) := ⟨rfl, rfl, rfl, by decide +kernel, rfl, by decide +kernel, by decide +kernel⟩
def R_shares : List Ent → Own → Ent → Own → Prop := fun es ω e ω' => ∃ (n : Nat) (r : List (List Rt)) (ws : List Int), es = [.dat (ruleD r), .dat (tupI ws)] ∧ (Rule n r ∧ Game n ws) ∧ e = .dat (rowD (sharesL r ws)) ∧ ω' = ω
theorem ok_shares (F : Fun K "shares" "shares" s_shares f fd) (hm : mg "shares" = some (.ref f)) (b : Bare mg) (I1 : DFn P w K mg base 3 "check_rule" R_chkrule) (I2 : DFn P w K mg base 2 "check_game" R_chkgame) (I3 : DFn P w K mg base 2 "check_alike" R_chkalike) (I4 : DFn P w K mg base 2 "weighted_sum" R_wsum) : DFn P w K mg base 4 "shares" R_shares := by
  refine dfn_ret F hm (F.binds (ps := ["rule", "game"]) fun _ _ _ _ _ _ us hl => match us, hl with | [_, _], _ => rfl) sc_shares ?_ ?_
  · rintro es ω e ω' ⟨n, r, ws, rfl, _⟩; rfl
  · rintro cdv A outer s H E hr es _ e ω ⟨n, r, ws, rfl, ⟨h, g⟩, rfl, rfl⟩
    have hr2 : Room 2 _ := hr.mono (by decide)
    have hn := h.hn.le
    have hz := gsN_len h.hn (Nat.le_refl n)
    refine dr_cons (dn_expr (de_call I1 hr (da_cons (de_var 0) da_nil) ⟨n, r, rfl, h, rfl, rfl⟩)) ?_
    refine dr_cons (dn_expr (de_call I2 hr2 (da_cons (de_var 1) da_nil) ⟨n, ws, rfl, g, rfl, rfl⟩)) ?_
    refine dr_cons (dn_expr (de_call I3 hr2 (da_cons (de_var 0) (da_cons (de_var 1) da_nil)) ⟨n, r, ws, rfl, ⟨h, g.len⟩, rfl, rfl⟩)) ?_
    have e : rowD (sharesL r ws) = .tuple (r.map fun row => ratD (wsumL row ws)) := by
      show PyData.tuple ((sharesL r ws).map ratD) = _
      unfold sharesL
      rw [List.map_map]
      rfl
    rw [e]
    refine dr_ret (de_callT c_tupleL b.tuple boot_tuple (da_cons (de_mapA [("ratios", 2)] (as := r) (enc := fun row => .dat (rowD row)) _ (fun row => ratD (wsumL row ws)) rfl sc_shares.nd ?_ (fun _ _ _ _ _ => pg_name (i := 2) sc_shares.nd rfl (Or.inl rfl)) (fun x hx => bnd_name)
      (fun _ _ _ _ _ ωd x hx => de_call I4 (by exact hr2) (da_cons (de_var 2) (da_cons (de_var 1) da_nil)) ⟨x, ws, rfl, ⟨h.k x hx, by rw [h.w x hx]; exact Nat.le_trans hz (by decide), fun y hy => by have := g.le y hy; omega⟩, rfl, rfl⟩) (by rw [h.l]; omega)) da_nil))
    have em : (r.map fun row => Ent.dat (rowD row)) = (r.map rowD).map Ent.dat := by rw [List.map_map]; rfl
    rw [em]
    exact di_tup (de_var 0)
abbrev s_names : Stmt := topS 45
theorem sc_names : FnScope [] [] (defScope s_names) := ⟨rfl, rfl, rfl, by decide +kernel, rfl, by decide +kernel, by decide +kernel⟩
def R_names : List Ent → Own → Ent → Own → Prop := fun es ω e ω' => es = [] ∧ e = .dat (.tuple (names8.map .str)) ∧ ω' = ω
theorem ok_names (F : Fun K "names" "names" s_names f fd) (hm : mg "names" = some (.ref f)) (b : Bare mg) {d : Addr} {tab : List (Str × Addr)} (c1 : mg "RATIOS" = some (.ref d)) (k : KS K w d tab) (hk : tab.map (·.1) = names8) : DFn P w K mg base 1 "names" R_names := by
  refine dfn_ret F hm (F.binds (ps := []) fun _ _ _ _ _ _ us hl => match us, hl with | [], _ => rfl) sc_names ?_ ?_
  · rintro es ω e ω' ⟨rfl, _⟩; rfl
  · rintro cdv A outer s H E hr es _ e ω ⟨rfl, rfl, rfl⟩
    rw [← hk]
    have hl : tab.length = 8 := by
      have := congrArg List.length hk
      rw [List.length_map] at this
      exact this
    exact dr_ret (de_callT c_tupleL b.tuple boot_tuple (da_cons (de_callB (c_sortedKS rfl k (by omega) (by rw [hk]; decide)) b.sorted (by rfl) (da_cons (de_globR c1) da_nil)) da_nil))
abbrev s_told : Stmt := topS 46
theorem sc_told : FnScope ["name", "many", "ratio", "rows", "group", "person", "row"] ["name", "many"] (defScope s_told) := ⟨rfl, rfl, rfl, by decide +kernel, rfl, by decide +kernel, by decide +kernel⟩
def R_told : List Ent → Own → Ent → Own → Prop := fun es ω e ω' => ∃ (x : Str) (n : Nat), es = [.dat (.str x), DL.I n] ∧ (x ∈ names8 ∧ Ns n) ∧ e = .dat (ruleD (toldL x n)) ∧ ω' = ω
/-- the defs that the table names -/
def TabOk (P : Program) (w : World) (K : PySem.W.Frag) (mg : Str → Option Value) (base : Heap) (tab : List (Str × Addr)) : Prop := ∀ x ∈ names8, ∃ (q : Addr) (k : Nat), k ≤ 4 ∧ tabS tab x = some q ∧ DFa P w K mg base k q (R_rat (toldF x))
theorem ok_told (F : Fun K "told_rule" "told_rule" s_told f fd) (hm : mg "told_rule" = some (.ref f)) (b : Bare mg) {d : Addr} {tab : List (Str × Addr)} (c1 : mg "RATIOS" = some (.ref d)) (k : KS K w d tab) (T : TabOk P w K mg base tab) (I1 : DFn P w K mg base 1 "names" R_names) (I2 : DFn P w K mg base 2 "check_many" R_chkmany) (I3 : DFn P w K mg base 1 "all_groups" R_all) : DFn P w K mg base 5 "told_rule" R_told := by
  refine dfn_ret F hm (F.binds (ps := ["name", "many"]) fun _ _ _ _ _ _ us hl => match us, hl with | [_, _], _ => rfl) sc_told ?_ ?_
  · rintro es ω e ω' ⟨x, n, rfl, _⟩; rfl
  · rintro cdv A outer s H E hr es _ e ω ⟨x, n, rfl, ⟨hx, hn⟩, rfl, rfl⟩
    have hr1 : Room 1 _ := hr.mono (by decide)
    have hr2 : Room 2 _ := hr.mono (by decide)
    have h4 := hn.le
    have hz := gsN_len hn (Nat.le_refl n)
    obtain ⟨q, j, hj, hq, D⟩ := T x hx
    have hrj : Room j _ := hr.mono hj
    refine dr_ifF (ω1 := ω) (dt_cmp (k := false) (by have o := o_notInTS (X := CxF P w K mg base ["name", "many", "ratio", "rows", "group", "person", "row"] "told_rule" s_told f cdv A outer s H E) (k := x) (g := names8); rw [decide_eq_true hx] at o; exact o) (de_var 0) (de_call0 I1 hr1 ⟨rfl, rfl, rfl⟩)) ?_
    refine dr_cons (dn_expr (de_call I2 hr2 (da_cons (de_var 1) da_nil) ⟨n, rfl, hn, rfl, rfl⟩)) ?_
    refine dr_cons (dn_set 2 (e := .raw (.ref q)) sc_told.nd (de_ixS k hq (de_globR c1) (de_var 0))) ?_
    refine dr_cons (dn_setA 3 [("person", 5), ("group", 4)] (as := rgI 0 n) (enc := DL.I) _ (fun p => .list ((gs n).map fun g => ratD (toldF x n p g))) rfl sc_told.nd (di_range1 (n := (n : Int)) b.range (de_var 1) (by omega)) (fun _ _ _ _ _ => pg_name (i := 5) sc_told.nd rfl (Or.inr rfl)) (fun y hy => bnd_name) (fun _ _ _ _ _ ωd p hp => ?_) (by rw [rgI_len]; omega)) ?_
    · exact de_mapA [("group", 4)] (as := gs n) (enc := GE) _ (fun g => ratD (toldF x n p g)) rfl sc_told.nd (di_tupG (de_call I3 (by exact hr1) (da_cons (de_var 1) da_nil) ⟨n, rfl, hn, rfl, rfl⟩)) (fun _ _ _ _ _ => pg_name (i := 4) sc_told.nd rfl (Or.inl rfl)) (fun y hy => bnd_name)
        (fun _ _ _ _ _ ωd g hg => de_callL 2 D (by exact hrj) (da_cons (de_var 1) (da_cons (de_var 5) (da_cons (de_var 4) da_nil))) ⟨n, p, g, rfl, ⟨hn, hp, hg⟩, rfl, rfl⟩) (Nat.le_trans hz (by decide))
    · have e : ruleD (toldL x n) = .tuple ((rgI 0 n).map fun p => .tuple ((gs n).map fun g => ratD (toldF x n p g))) := by
        show PyData.tuple ((toldL x n).map rowD) = _
        unfold toldL
        rw [List.map_map]
        congr 1
        refine List.map_congr_left fun p _ => ?_
        show PyData.tuple (((gs n).map fun g => toldF x n p g).map ratD) = _
        rw [List.map_map]
        rfl
      rw [e]
      refine dr_ret (de_callT c_tupleL b.tuple boot_tuple (da_cons (de_mapA [("row", 6)] (as := rgI 0 n) (enc := fun p => .dat (.list ((gs n).map fun g => ratD (toldF x n p g)))) _ (fun p => .tuple ((gs n).map fun g => ratD (toldF x n p g))) rfl sc_told.nd ?_ (fun _ _ _ _ _ => pg_name (i := 6) sc_told.nd rfl (Or.inl rfl)) (fun y hy => bnd_name)
        (fun _ _ _ _ _ ωd p hp => de_callT c_tupleL b.tuple boot_tuple (da_cons (de_var 6) da_nil)) (by rw [rgI_len]; omega)) da_nil))
      have em : ((rgI 0 n).map fun p => Ent.dat (.list ((gs n).map fun g => ratD (toldF x n p g)))) = ((rgI 0 n).map fun p => PyData.list ((gs n).map fun g => ratD (toldF x n p g))).map Ent.dat := by rw [List.map_map]; rfl
      rw [em]
      exact di_list (de_var 3)
end
end G0

set_option Elab.async false
set_option linter.all false
set_option maxRecDepth 100000
set_option maxHeartbeats 2000000
namespace G0
open PySem PySem.Spec PyProof.Rows L2 DL CB ZM
/-! ## the law's ratios -/
def euS (a b : Nat) : Nat → Nat × Nat
  | 0 => (a, b)
  | k + 1 => ((euS a b k).2, (euS a b k).1 % (euS a b k).2)
theorem euS_succ (a b : Nat) : ∀ k, euS a b (k + 1) = euS b (a % b) k
  | 0 => rfl
  | k + 1 => by
    show ((euS a b (k + 1)).2, (euS a b (k + 1)).1 % (euS a b (k + 1)).2) = _
    rw [euS_succ a b k]
    rfl
theorem eu_end : ∀ (b a : Nat), ∃ n, (∀ k, k < n → (euS a b k).2 ≠ 0) ∧ (euS a b n).2 = 0 ∧ (euS a b n).1 = Nat.gcd a b := by
  intro b
  induction b using Nat.strongRecOn with
  | _ b ih =>
    intro a
    by_cases h : b = 0
    · subst h
      exact ⟨0, fun k hk => absurd hk (Nat.not_lt_zero _), rfl, by rw [Nat.gcd_zero_right]; rfl⟩
    · obtain ⟨n, h1, h2, h3⟩ := ih (a % b) (Nat.mod_lt _ (Nat.pos_of_ne_zero h)) b
      refine ⟨n + 1, fun k hk => ?_, ?_, ?_⟩
      · cases k with
        | zero => exact h
        | succ k => rw [euS_succ]; exact h1 k (by omega)
      · rw [euS_succ]; exact h2
      · rw [euS_succ, h3, Nat.gcd_comm b, ← Nat.gcd_rec, Nat.gcd_comm]
section
variable {P : Program} {w : World} {K : PySem.W.Frag} {mg : Str → Option Value} {base : Heap} {f : Addr} {fd : FuncData}
abbrev s_lrat : Stmt := topS 61
theorem sc_lrat : FnScope ["top", "low", "one", "other"] ["top", "low"] (defScope s_lrat) := ⟨rfl, rfl, rfl, by decide +kernel, rfl, by decide +kernel, by decide +kernel⟩
def R_lrat : List Ent → Own → Ent → Own → Prop := fun es ω e ω' => ∃ t b : Int, es = [DL.I t, DL.I b] ∧ (0 < b ∧ b.natAbs < 2 ^ 8000) ∧ e = .dat (ratD (red t b)) ∧ ω' = ω
theorem ok_lrat (F : Fun K "_law_ratio" "_law_ratio" s_lrat f fd) (hm : mg "_law_ratio" = some (.ref f)) (b0 : mg "abs" = none) : DFn P w K mg base 1 "_law_ratio" R_lrat := by
  refine dfn_ret F hm (F.binds (ps := ["top", "low"]) fun _ _ _ _ _ _ us hl => match us, hl with | [_, _], _ => rfl) sc_lrat ?_ ?_
  · rintro es ω e ω' ⟨t, b, rfl, _⟩; rfl
  · rintro cdv A outer s H E hr es _ e ω ⟨t, b, rfl, ⟨h1, h2⟩, rfl, rfl⟩
    have hg := gcdI_pos (t := t) h1
    have hl := Int.le_of_dvd h1 (gcdI_r t b)
    obtain ⟨n, n1, n2, n3⟩ := eu_end b.natAbs t.natAbs
    have ea : (if t < 0 then -t else t) = ((t.natAbs : Nat) : Int) := by split <;> omega
    have eb : ((b.natAbs : Nat) : Int) = b := by omega
    refine dr_cons (dn_par (e1 := DL.I ((t.natAbs : Nat) : Int)) (e2 := DL.I b) 2 3 rfl sc_lrat.nd (da_cons (by rw [← ea]; exact de_callB c_abs b0 (by rfl) (da_cons (de_var 0) da_nil)) (da_cons (de_var 1) da_nil))) ?_
    refine dr_cons (dn_while n (fun _ => ω) (fun k => [some (DL.I t), some (DL.I b), some (DL.I ((euS t.natAbs b.natAbs k).1 : Nat)), some (DL.I ((euS t.natAbs b.natAbs k).2 : Nat))]) PassesOwn.never rfl (by show _ = [_, _, _, some (DL.I b)]; rw [← eb]; rfl) (fun k hk => dt_cmp (o_neIk ?_) (de_var 3) de_int) (fun k hk => ?_)) ?_
    · by_cases z : k < n
      · have := n1 k z
        rw [decide_eq_true z, decide_eq_false (by omega)]; rfl
      · have e : k = n := by omega
        subst e
        rw [decide_eq_false z, decide_eq_true (by omega)]; rfl
    · have hz := n1 k hk
      exact dns_one (dn_par (e1 := DL.I ((euS t.natAbs b.natAbs k).2 : Nat)) (e2 := DL.I ((euS t.natAbs b.natAbs (k + 1)).2 : Nat)) 2 3 rfl sc_lrat.nd (da_cons (de_var 3) (da_cons (de_op (o_mod (i := ((euS t.natAbs b.natAbs k).1 : Nat)) (j := ((euS t.natAbs b.natAbs k).2 : Nat)) (by omega)) (de_var 2) (de_var 3)) da_nil)))
    · have eg : (((euS t.natAbs b.natAbs n).1 : Nat) : Int) = gcdI t b := by rw [n3]; rfl
      show DR _ _ [_, _, some (DL.I (((euS t.natAbs b.natAbs n).1 : Nat) : Int)), _] _ _ _
      rw [eg]
      have hw : CDivW t (gcdI t b) ∧ CDivW b (gcdI t b) := by
        have : CDivW t (gcdI t b) := wide_div hg (b := 8000) (Nat.lt_of_le_of_lt (by omega) h2) (by decide) (by decide)
        exact ⟨this, this⟩
      exact dr_ret (de_tup (ds := [.int (t / gcdI t b), .int (b / gcdI t b)]) (da_cons (de_op (o_fdivW hw.1) (de_var 0) (de_var 2)) (da_cons (de_op (o_fdivW hw.2) (de_var 1) (de_var 2)) da_nil)) (show 2 ≤ sizeLine by decide))
/-! ### _law_sum -/
abbrev s_lsum : Stmt := topS 62
theorem sc_lsum : FnScope ["some", "top", "low", "one"] ["some"] (defScope s_lsum) := ⟨rfl, rfl, rfl, by decide +kernel, rfl, by decide +kernel, by decide +kernel⟩
/-- what the law's sum can take -/
structure Sum1 (r : Rt) : Prop where
  p : 0 < r.2
  u : r.2 ≤ 1000000
  l : r.1.natAbs < 2 ^ 60
def R_lsum : List Ent → Own → Ent → Own → Prop := fun es ω e ω' => ∃ rs : List Rt, es = [.dat (.list (rs.map ratD))] ∧ (rs.length ≤ 20 ∧ ∀ r ∈ rs, Sum1 r) ∧ e = .dat (ratD (lsumL rs)) ∧ ω' = ω
theorem sumTL_snoc : ∀ (rs : List Rt) (r : Rt) (a : Int × Int), sumTL (rs ++ [r]) a = ((sumTL rs a).1 * r.2 + r.1 * (sumTL rs a).2, (sumTL rs a).2 * r.2)
  | [], _, _ => rfl
  | q :: rs, r, a => sumTL_snoc rs r _
theorem sumTL_le : ∀ (rs : List Rt) (a : Int × Int), (∀ r ∈ rs, Sum1 r) → 0 ≤ a.2 → (sumTL rs a).2 ≤ a.2 * 1000000 ^ rs.length
  | [], a, _, _ => by show a.2 ≤ a.2 * 1; omega
  | r :: rs, a, h, h0 => by
    have hr := h r List.mem_cons_self
    have ih := sumTL_le rs (a.1 * r.2 + r.1 * a.2, a.2 * r.2) (fun x hx => h x (List.mem_cons_of_mem _ hx)) (Int.mul_nonneg h0 (by have := hr.p; omega))
    refine Int.le_trans ih ?_
    show a.2 * r.2 * 1000000 ^ rs.length ≤ a.2 * 1000000 ^ (rs.length + 1)
    rw [Int.pow_succ, Int.mul_comm (1000000 ^ rs.length), ← Int.mul_assoc]
    exact Int.mul_le_mul_of_nonneg_right (Int.mul_le_mul_of_nonneg_left hr.u h0) (Int.le_of_lt (Int.pow_pos (by decide)))
theorem ok_lsum (F : Fun K "_law_sum" "_law_sum" s_lsum f fd) (hm : mg "_law_sum" = some (.ref f)) (I1 : DFn P w K mg base 1 "_law_ratio" R_lrat) : DFn P w K mg base 2 "_law_sum" R_lsum := by
  refine dfn_ret F hm (F.binds (ps := ["some"]) fun _ _ _ _ _ _ us hl => match us, hl with | [_], _ => rfl) sc_lsum ?_ ?_
  · rintro es ω e ω' ⟨rs, rfl, _⟩; rfl
  · rintro cdv A outer s H E hr es _ e ω ⟨rs, rfl, ⟨hz, h⟩, rfl, rfl⟩
    refine dr_cons (dn_asg2 (e1 := DL.I 0) (e2 := DL.I 1) 1 2 rfl sc_lsum.nd (da_cons de_int (da_cons de_int da_nil))) ?_
    refine dr_cons (dn_forN rs.length (S := [3]) (xs := (rs.map ratD).map Ent.dat) (by rw [List.length_map, List.length_map]) PassesOwn.never rfl (di_list (de_var 0)) (fun _ => ω)
      (fun k => [some (.dat (.list (rs.map ratD))), some (DL.I (sumTL (rs.take k) (0, 1)).1), some (DL.I (sumTL (rs.take k) (0, 1)).2), none]) rfl rfl (pg_name (i := 3) sc_lsum.nd rfl (.inl rfl)) fun k x hx => ?_) ?_
    · rw [List.getElem?_map, List.getElem?_map] at hx
      cases e : rs[k]? with
      | none => rw [e] at hx; cases hx
      | some r =>
        rw [e] at hx
        cases hx
        have hr1 := h r (List.mem_of_getElem? e)
        have p1 := hr1.p
        have p2 := hr1.u
        have p3 := hr1.l
        refine ⟨_, bnd_name, dns_le (dns_one (dn_par (e1 := DL.I (sumTL (rs.take (k + 1)) (0, 1)).1) (e2 := DL.I (sumTL (rs.take (k + 1)) (0, 1)).2) 1 2 rfl sc_lsum.nd (by
          rw [take_snoc e, sumTL_snoc]
          exact da_cons (de_op o_add (de_op (o_mul (.inr ⟨by omega, by omega⟩)) (de_var 1) (de_ixT (d := .int r.2) (de_var 3) de_int rfl)) (de_op (o_mul (.inl ⟨by omega, by omega⟩)) (de_ixT (d := .int r.1) (de_var 3) de_int rfl) (de_var 2))) (da_cons (de_op (o_mul (.inr ⟨by omega, by omega⟩)) (de_var 2) (de_ixT (d := .int r.2) (de_var 3) de_int rfl)) da_nil)))) (LeL.le (.same (.same (.same (.drop .nil)))))⟩
    · rw [List.take_length]
      have hp := sumTL_pos rs (0, 1) (fun r m => (h r m).p) (by decide)
      have hl := sumTL_le rs (0, 1) h (by decide)
      have h20 : (1000000 : Int) ^ rs.length ≤ 1000000 ^ 20 := by
        have q : (1000000 : Nat) ^ rs.length ≤ 1000000 ^ 20 := Nat.pow_le_pow_right (by decide) hz
        have q2 := Int.ofNat_le.mpr q
        rw [Int.natCast_pow, Int.natCast_pow] at q2
        exact q2
      have h21 : ((1000000 : Int) ^ 20) < 1000000000000000000000000000000000000000000000000000000000000000000000000000000000000000000000000000000000000000000000000000000000000000 := by decide
      refine dr_ret (de_call I1 hr (da_cons (de_var 1) (da_cons (de_var 2) da_nil)) ⟨_, _, rfl, ⟨hp, ?_⟩, rfl, rfl⟩)
      refine Nat.lt_of_lt_of_le (m := 1000000000000000000000000000000000000000000000000000000000000000000000000000000000000000000000000000000000000000000000000000000000000000) ?_ (Nat.le_trans (m := 2 ^ 500) (by decide) (Nat.pow_le_pow_right (by decide) (by decide)))
      have hl : (sumTL rs (0, 1)).2 ≤ 1 * 1000000 ^ rs.length := hl
      omega
end
end G0

set_option Elab.async false
set_option linter.all false
set_option maxRecDepth 100000
set_option maxHeartbeats 2000000
namespace ZM
open PySem PySem.Spec PyProof.Rows L2 DL CB
section
variable {X : Cx} {a b : Expr} {ω ω1 ω2 : Own} {ρ : Rho} {apos cpos pos : Pos}
end
end ZM
namespace G0
open PySem PySem.Spec PyProof.Rows L2 DL CB ZM
theorem zip_rg (row : List Rt) (ws : List Int) (h : row.length = ws.length) : (rgI 0 ws.length).map (fun i => ((row.getD i.toNat (0, 1)).1 * ws.getD i.toNat 0, (row.getD i.toNat (0, 1)).2)) = (row.zip ws).map wt1 := by
  apply List.ext_getElem
  · rw [List.length_map, rgI_len, List.length_map, List.length_zip, h, Nat.min_self]
  · intro i h1 h2
    have hi : i < ws.length := by rw [List.length_map, rgI_len] at h1; exact h1
    have e : (rgI 0 ws.length)[i]'(by rw [rgI_len]; exact hi) = (i : Int) := by
      unfold rgI
      rw [List.getElem_map, List.getElem_range]
      omega
    rw [List.getElem_map, List.getElem_map, List.getElem_zip, e]
    have e2 : ((i : Nat) : Int).toNat = i := rfl
    rw [e2, List.getD_eq_getElem?_getD, List.getD_eq_getElem?_getD, List.getElem?_eq_getElem (by omega), List.getElem?_eq_getElem hi]
    rfl
section
variable {P : Program} {w : World} {K : PySem.W.Frag} {mg : Str → Option Value} {base : Heap} {f : Addr} {fd : FuncData}
/-! ### _law_shares -/
abbrev s_lsh : Stmt := topS 63
theorem sc_lsh : FnScope ["rule", "game", "row", "at"] ["rule", "game"] (defScope s_lsh) := ⟨rfl, rfl, rfl, by decide +kernel, rfl, by decide +kernel, by decide +kernel⟩
def R_lsh : List Ent → Own → Ent → Own → Prop := fun es ω e ω' => ∃ (n : Nat) (r : List (List Rt)) (ws : List Int), es = [.dat (ruleD r), .dat (tupI ws)] ∧ (Rule n r ∧ Game n ws) ∧ e = .dat (rowD (sharesL r ws)) ∧ ω' = ω
theorem atI_map {α : Type} {l : List α} {g : α → PyData} {i : Int} {d : α} (h0 : 0 ≤ i) (h : i.toNat < l.length) : L2.atI (l.map g) i = some (g (l.getD i.toNat d)) := by
  refine atI_nat h0 ?_
  rw [List.getElem?_map, List.getElem?_eq_getElem h, List.getD_eq_getElem?_getD, List.getElem?_eq_getElem h]
  rfl
theorem ok_lsh (F : Fun K "_law_shares" "_law_shares" s_lsh f fd) (hm : mg "_law_shares" = some (.ref f)) (b : Bare mg) (I1 : DFn P w K mg base 2 "_law_sum" R_lsum) : DFn P w K mg base 3 "_law_shares" R_lsh := by
  refine dfn_ret F hm (F.binds (ps := ["rule", "game"]) fun _ _ _ _ _ _ us hl => match us, hl with | [_, _], _ => rfl) sc_lsh ?_ ?_
  · rintro es ω e ω' ⟨n, r, ws, rfl, _⟩; rfl
  · rintro cdv A outer s H E hr es _ e ω ⟨n, r, ws, rfl, ⟨h, g⟩, rfl, rfl⟩
    have hn := h.hn.le
    have hz := g.len.z
    have e : rowD (sharesL r ws) = .tuple (r.map fun row => ratD (wsumL row ws)) := by
      show PyData.tuple ((sharesL r ws).map ratD) = _
      unfold sharesL
      rw [List.map_map]
      rfl
    rw [e]
    refine dr_ret (de_callT c_tupleL b.tuple boot_tuple (da_cons (de_mapA [("row", 2), ("at", 3)] (as := r) (enc := fun row => .dat (rowD row)) _ (fun row => ratD (wsumL row ws)) rfl sc_lsh.nd ?_ (fun _ _ _ _ _ => pg_name (i := 2) sc_lsh.nd rfl (Or.inr rfl)) (fun x hx => bnd_name)
      (fun _ _ _ _ _ ωd row hx => ?_) (by rw [h.l]; omega)) da_nil))
    · have em : (r.map fun row => Ent.dat (rowD row)) = (r.map rowD).map Ent.dat := by rw [List.map_map]; rfl
      rw [em]
      exact di_tup (de_var 0)
    · have hrl : row.length = ws.length := by rw [h.w row hx, g.len.l]
      have hk := h.k row hx
      have S : ∀ q ∈ (row.zip ws).map wt1, Sum1 q := fun q hq => by
        obtain ⟨u, hu, rfl⟩ := List.mem_map.mp hq
        have hu2 := List.of_mem_zip (a := u.1) (b := u.2) hu
        have h1 := hk _ hu2.1
        have h2 := g.le _ hu2.2
        refine ⟨h1.p, by have := h1.le; show u.1.2 ≤ 1000000; omega, ?_⟩
        show (u.1.1 * u.2).natAbs < 2 ^ 60
        rw [Int.natAbs_mul]
        have := h1.l
        exact Nat.lt_of_le_of_lt (Nat.mul_le_mul this (show u.2.natAbs ≤ 1000 by omega)) (by decide)
      rw [wsum_lsum hk]
      refine de_call I1 (by exact hr) (da_cons (e1 := .dat (.list (((row.zip ws).map wt1).map ratD))) ?_ da_nil) ⟨_, rfl, ⟨by rw [List.length_map, List.length_zip]; omega, S⟩, rfl, rfl⟩
      rw [← zip_rg row ws hrl, List.map_map]
      have el : (ws.map PyData.int).length = ws.length := List.length_map ..
      refine de_mapA [("at", 3)] (as := rgI 0 ws.length) (enc := DL.I) _ (fun i => ratD ((row.getD i.toNat (0, 1)).1 * ws.getD i.toNat 0, (row.getD i.toNat (0, 1)).2)) rfl sc_lsh.nd ?_ (fun _ _ _ _ _ => pg_name (i := 3) sc_lsh.nd rfl (Or.inl rfl)) (fun x hx => bnd_name)
        (fun _ _ _ _ _ ωd i hi => ?_) (by rw [rgI_len]; omega)
      · exact di_rangeN b.range (de_callB c_lenT b.len boot_len (da_cons (de_var 1) da_nil)) (by rw [el]) (by omega)
      · have hb := rgI_mem2 hi
        have h1 := hk (row.getD i.toNat (0, 1)) (by
          rw [List.getD_eq_getElem?_getD, List.getElem?_eq_getElem (by omega)]
          exact List.getElem_mem _)
        have h2 := h1.l
        exact de_tup (ds := [.int ((row.getD i.toNat (0, 1)).1 * ws.getD i.toNat 0), .int (row.getD i.toNat (0, 1)).2]) (da_cons (de_op (o_mul (.inl ⟨by omega, by omega⟩)) (de_ixT (d := .int (row.getD i.toNat (0, 1)).1) (de_ixT (d := ratD (row.getD i.toNat (0, 1))) (de_var 2) (de_var 3) (atI_map hb.1 (by omega))) de_int rfl) (de_ixT (d := .int (ws.getD i.toNat 0)) (de_var 1) (de_var 3) (atI_map hb.1 (by omega))))
          (da_cons (de_ixT (d := .int (row.getD i.toNat (0, 1)).2) (de_ixT (d := ratD (row.getD i.toNat (0, 1))) (de_var 2) (de_var 3) (atI_map hb.1 (by omega))) de_int rfl) da_nil)) (show 2 ≤ sizeLine by decide)
end
end G0

set_option Elab.async false
set_option linter.all false
set_option maxRecDepth 100000
set_option maxHeartbeats 2000000
namespace G0
open PySem PySem.Spec PyProof.Rows L2 DL CB ZM
/-! ### orders -/
def ordL : Nat → List Int → List (List Int)
  | 0, s => [s]
  | k + 1, s => if s.length < 2 then [s] else (List.range s.length).flatMap fun i => (ordL k (s.take i ++ s.drop (i + 1))).map fun r => s.getD i 0 :: r
theorem cut_len {s : List Int} {i : Nat} (h : i < s.length) : (s.take i ++ s.drop (i + 1)).length = s.length - 1 := by
  rw [List.length_append, List.length_take, List.length_drop]; omega
theorem flat_le {α β : Type} (f : α → List β) (B : Nat) : ∀ (l : List α), (∀ x ∈ l, (f x).length ≤ B) → (l.flatMap f).length ≤ l.length * B
  | [], _ => by simp
  | x :: l, h => by
    rw [List.flatMap_cons, List.length_append, List.length_cons, Nat.add_mul, Nat.one_mul]
    have h1 := h x List.mem_cons_self
    have h2 := flat_le f B l fun y hy => h y (List.mem_cons_of_mem _ hy)
    omega
theorem ord_len : ∀ (k : Nat) (s : List Int), s.length ≤ 4 → (ordL k s).length ≤ 4 ^ k
  | 0, s, _ => by show 1 ≤ 1; omega
  | k + 1, s, h => by
    unfold ordL
    split
    · show 1 ≤ 4 ^ (k + 1)
      exact Nat.one_le_pow _ _ (by decide)
    · refine Nat.le_trans (flat_le _ (4 ^ k) _ fun i hi => ?_) ?_
      · have hi := List.mem_range.mp hi
        rw [List.length_map]
        exact ord_len k _ (by rw [cut_len hi]; omega)
      · rw [List.length_range, Nat.pow_succ, Nat.mul_comm]
        exact Nat.mul_le_mul_left _ h
theorem range_at {n k : Nat} (h : k < n) : (List.range n)[k]? = some k := by rw [List.getElem?_range h]
theorem rgI_take {n k : Nat} (h : k ≤ n) : (List.range n).take k = List.range k := by
  apply List.ext_getElem
  · rw [List.length_take, List.length_range, List.length_range]; omega
  · intro i h1 h2
    rw [List.getElem_take, List.getElem_range, List.getElem_range]
section
variable {P : Program} {w : World} {K : PySem.W.Frag} {mg : Str → Option Value} {base : Heap} {f : Addr} {fd : FuncData}
abbrev s_ord : Stmt := topS 64
abbrev NO : List Str := ["some", "found", "at", "rest"]
theorem sc_ord : FnScope NO ["some"] (defScope s_ord) := ⟨rfl, rfl, rfl, by decide +kernel, rfl, by decide +kernel, by decide +kernel⟩
abbrev ordD (l : List (List Int)) : List PyData := l.map lstI
def R_ord (k : Nat) : List Ent → Own → Ent → Own → Prop := fun es ω e ω' => ∃ s : List Int, es = [.dat (lstI s)] ∧ (s.length ≤ k + 1 ∧ s.length ≤ 4 ∧ k ≤ 3) ∧ e = .dat (.list (ordD (ordL k s))) ∧ ω' = ω
theorem o_ltT {X : Cx} {i j : Int} (h : i < j) : Op2 X (compareOp .Lt) (DL.I i) (DL.I j) (B true) := by have q := o_lt (X := X) (i := i) (j := j); rw [decide_eq_true h] at q; exact q
theorem o_ltF {X : Cx} {i j : Int} (h : ¬ i < j) : Op2 X (compareOp .Lt) (DL.I i) (DL.I j) (B false) := by have q := o_lt (X := X) (i := i) (j := j); rw [decide_eq_false h] at q; exact q
theorem ok_ord (F : Fun K "_law_orders" "_law_orders" s_ord f fd) (hm : mg "_law_orders" = some (.ref f)) (b : Bare mg) : ∀ k : Nat, DFn P w K mg base (k + 1) "_law_orders" (R_ord k) := by
  intro k
  induction k with
  | zero =>
    refine dfn_ret F hm (F.binds (ps := ["some"]) fun _ _ _ _ _ _ us hl => match us, hl with | [_], _ => rfl) sc_ord ?_ ?_
    · rintro es ω e ω' ⟨s, rfl, _⟩; rfl
    · rintro cdv A outer s H E hr es _ e ω ⟨g, rfl, ⟨h, _⟩, rfl, rfl⟩
      refine dr_ifT (ω1 := ω) (dt_cmp (o_ltT (i := ((g.map PyData.int).length : Nat)) (by rw [List.length_map]; omega)) (de_callB c_lenL b.len boot_len (da_cons (de_var 0) da_nil)) de_int) ?_
      exact dr_ret (de_lst (ds := [lstI g]) (da_cons (de_callT c_listL b.list boot_list (da_cons (de_var 0) da_nil)) da_nil) (show 1 ≤ sizeLine by decide))
  | succ k ih =>
    refine dfn_ret F hm (F.binds (ps := ["some"]) fun _ _ _ _ _ _ us hl => match us, hl with | [_], _ => rfl) sc_ord ?_ ?_
    · rintro es ω e ω' ⟨s, rfl, _⟩; rfl
    · rintro cdv A outer s H E hr es _ e ω ⟨g, rfl, ⟨h, h4, hk⟩, rfl, rfl⟩
      have el : (g.map PyData.int).length = g.length := List.length_map ..
      by_cases z : g.length < 2
      · rw [show ordL (k + 1) g = [g] from if_pos z]
        refine dr_ifT (ω1 := ω) (dt_cmp (o_ltT (i := ((g.map PyData.int).length : Nat)) (by omega)) (de_callB c_lenL b.len boot_len (da_cons (de_var 0) da_nil)) de_int) ?_
        exact dr_ret (de_lst (ds := [lstI g]) (da_cons (de_callT c_listL b.list boot_list (da_cons (de_var 0) da_nil)) da_nil) (show 1 ≤ sizeLine by decide))
      · have hw : ∀ i, (ordL k (g.take i ++ g.drop (i + 1))).length ≤ 64 := fun i => by
          have h1 : (g.take i ++ g.drop (i + 1)).length ≤ 4 := by rw [List.length_append, List.length_take, List.length_drop]; omega
          refine Nat.le_trans (ord_len k _ h1) (Nat.le_trans (m := 4 ^ 3) (Nat.pow_le_pow_right (by decide) (by omega)) (by decide))
        have es : ordL (k + 1) g = (List.range g.length).flatMap fun i => (ordL k (g.take i ++ g.drop (i + 1))).map fun r => g.getD i 0 :: r := if_neg z
        rw [es]
        refine dr_ifF (ω1 := ω) (dt_cmp (o_ltF (i := ((g.map PyData.int).length : Nat)) (by omega)) (de_callB c_lenL b.len boot_len (da_cons (de_var 0) da_nil)) de_int) ?_
        refine dr_cons (dn_set 1 sc_ord.nd (de_lst (ds := []) da_nil (by decide))) ?_
        refine dr_cons (dn_forN g.length (S := [2]) (xs := (rgI 0 g.length).map DL.I) (by rw [List.length_map, rgI_len]) PassesOwn.never rfl (di_rangeN b.range (de_callB c_lenL b.len boot_len (da_cons (de_var 0) da_nil)) (by rw [el]) (by omega)) (fun _ => ω)
          (fun j => [some (.dat (lstI g)), some (.dat (.list (ordD ((List.range j).flatMap fun i => (ordL k (g.take i ++ g.drop (i + 1))).map fun r => g.getD i 0 :: r)))), none, none]) rfl rfl (pg_name (i := 2) sc_ord.nd rfl (.inr rfl)) fun j x hx => ?_) (dr_ret (de_var 1))
        obtain ⟨hj, rfl⟩ := rgI_at hx
        have e0 : (0 + (j : Int)) = (j : Int) := by omega
        rw [e0]
        have ej : ((j : Int)).toNat = j := rfl
        have ej1 : ((j : Int) + 1).toNat = j + 1 := by omega
        have hwj := hw j
        have hpre : ((List.range j).flatMap fun i => (ordL k (g.take i ++ g.drop (i + 1))).map fun r => g.getD i 0 :: r).length ≤ 4 * 64 := by
          refine Nat.le_trans (flat_le _ 64 _ fun i _ => by rw [List.length_map]; exact hw i) ?_
          rw [List.length_range]
          exact Nat.mul_le_mul_right _ (by omega)
        have ec : ordD ((List.range (j + 1)).flatMap fun i => (ordL k (g.take i ++ g.drop (i + 1))).map fun r => g.getD i 0 :: r) = ordD ((List.range j).flatMap fun i => (ordL k (g.take i ++ g.drop (i + 1))).map fun r => g.getD i 0 :: r) ++ ((ordL k (g.take j ++ g.drop (j + 1))).map fun r => .list (PyData.int (g.getD j 0) :: r.map .int)) := by
          rw [List.range_succ, List.flatMap_append]
          unfold ordD
          rw [List.map_append, List.flatMap_singleton, List.map_map]
          rfl
        refine ⟨_, bnd_name, dns_le (dns_one (dn_set 1 (e := .dat (.list (ordD ((List.range (j + 1)).flatMap fun i => (ordL k (g.take i ++ g.drop (i + 1))).map fun r => g.getD i 0 :: r)))) sc_ord.nd ?_)) (LeL.le (.same (.same (.drop (.same .nil)))))⟩
        rw [ec]
        refine de_op (o_cat ?_) (de_var 1) ?_
        · refine Nat.le_of_lt (small1000 ?_)
          rw [List.length_map, List.length_map]
          omega
        · refine de_mapA [("rest", 3)] (as := ordL k (g.take j ++ g.drop (j + 1))) (enc := fun r => .dat (lstI r)) _ (fun r => .list (PyData.int (g.getD j 0) :: r.map .int)) rfl sc_ord.nd ?_ (fun _ _ _ _ _ => pg_name (i := 3) sc_ord.nd rfl (Or.inl rfl)) (fun x hx => bnd_name) (fun _ _ _ _ _ ωd r hr2 => ?_) (by omega)
          · have em : ((ordL k (g.take j ++ g.drop (j + 1))).map fun r => Ent.dat (lstI r)) = (ordD (ordL k (g.take j ++ g.drop (j + 1)))).map Ent.dat := by unfold ordD; rw [List.map_map]; rfl
            rw [em]
            have ed : (g.map PyData.int).take ((j : Int)).toNat ++ (g.map PyData.int).drop ((j : Int) + 1).toNat = (g.take j ++ g.drop (j + 1)).map .int := by rw [ej, ej1, List.map_append, List.map_take, List.map_drop]
            have hcut := cut_len hj
            refine di_list (de_call ih hr (da_cons (e1 := .dat (lstI (g.take j ++ g.drop (j + 1)))) ?_ da_nil) ⟨_, rfl, ⟨by omega, by omega, by omega⟩, rfl, rfl⟩)
            show DE _ _ _ _ (.dat (.list ((g.take j ++ g.drop (j + 1)).map .int))) _
            rw [← ed]
            refine de_op (o_cat ?_) (de_callT c_listL b.list boot_list (da_cons (de_takeL (de_var 0) (de_var 2) (by omega)) da_nil)) (de_callT c_listL b.list boot_list (da_cons (de_dropL (de_var 0) (de_op o_add (de_var 2) de_int) (by omega)) da_nil))
            refine Nat.le_of_lt (small1000 ?_)
            rw [List.length_take, List.length_drop, el]
            omega
          · have hlen : r.length ≤ 4 := by
              have key : ∀ (k : Nat) (s : List Int), ∀ r ∈ ordL k s, r.length ≤ s.length := by
                intro k
                induction k with
                | zero => intro s r hr; rw [List.mem_singleton.mp hr]; exact Nat.le_refl _
                | succ k ih2 =>
                  intro s r hr
                  unfold ordL at hr
                  split at hr
                  · rw [List.mem_singleton.mp hr]; exact Nat.le_refl _
                  · obtain ⟨i, hi, hr⟩ := List.mem_flatMap.mp hr
                    obtain ⟨q, hq, rfl⟩ := List.mem_map.mp hr
                    have := ih2 _ q hq
                    rw [cut_len (List.mem_range.mp hi)] at this
                    have := List.mem_range.mp hi
                    rw [List.length_cons]
                    omega
              have := key k _ r hr2
              rw [cut_len hj] at this
              omega
            refine de_op (o_cat (d := [PyData.int (g.getD j 0)]) (e := r.map .int) (Nat.le_of_lt (small1000 (by rw [List.length_map]; show 1 + r.length ≤ 1000; omega)))) (de_lst (ds := [PyData.int (g.getD j 0)]) (da_cons (de_ixL (de_var 0) (de_var 2) (by have := atI_map (l := g) (g := PyData.int) (i := (j : Int)) (d := 0) (by omega) hj; rw [ej] at this; exact this)) da_nil) (show 1 ≤ sizeLine by decide)) (de_var 3)
end
end G0

set_option Elab.async false
set_option linter.all false
set_option maxRecDepth 100000
set_option maxHeartbeats 4000000
namespace G0
open PySem PySem.Spec PyProof.Rows L2 DL CB ZM
/-! ### _law_part -/
def insL : List Int → List Int
  | [] => []
  | x :: l => joinedL (insL l) x
theorem joined_mem {p y : Int} {g : List Int} (h : y ∈ joinedL g p) : y = p ∨ y ∈ g := by
  have := (joined_perm p g).mem_iff.mp h
  rcases List.mem_append.mp this with z | z
  · exact .inr z
  · exact .inl (List.mem_singleton.mp z)
theorem joined_up (p : Int) : ∀ {g : List Int}, Up g → Up (joinedL g p)
  | [], _ => List.pairwise_singleton _ _
  | x :: r, h => by
    obtain ⟨h1, h2⟩ := List.pairwise_cons.mp h
    unfold joinedL
    by_cases z : p ≤ x
    · rw [if_pos z]
      refine List.pairwise_cons.mpr ⟨fun y hy => ?_, h⟩
      rcases List.mem_cons.mp hy with e | e
      · omega
      · have := h1 y e; omega
    · rw [if_neg z]
      refine List.pairwise_cons.mpr ⟨fun y hy => ?_, joined_up p h2⟩
      rcases joined_mem hy with e | e
      · omega
      · exact h1 y e
theorem ins_perm : ∀ l : List Int, (insL l).Perm l
  | [] => .refl _
  | x :: l => (joined_perm x (insL l)).trans ((List.perm_append_comm (l₁ := insL l) (l₂ := [x])).trans ((ins_perm l).cons x))
theorem ins_up : ∀ l : List Int, Up (insL l)
  | [] => List.Pairwise.nil
  | x :: l => joined_up x (ins_up l)
theorem sort_ins (l : List Int) : sortI l = insL l := (sortI_eq (ins_perm l) (ins_up l)).symm
theorem with_up {g : List Int} (p : Int) (h : Up g) : Up (withL g p) := joined_up p (h.sublist List.filter_sublist)
abbrev evL (n : Nat) : List Int := rg0 n
def ahL (o : List Int) (p : Int) : List Int := insL (o.take (o.idxOf p))
def shaF (p : Int) (g : List Int) (t : Int) (o : List Int) : Int := t + i01 (decide (withL (ahL o p) p = g)) - i01 (decide (ahL o p = g))
def shaT (n : Nat) (p : Int) (g : List Int) : Int := (ordL 3 (evL n)).foldl (shaF p g) 0
def banL (n : Nat) (p : Int) : List (List Int) := ([] :: gs n).filter fun o => !decide (p ∈ o)
def banT (n : Nat) (p : Int) (g : List Int) : Int := ((banL n p).map fun o => i01 (decide (withL o p = g)) - i01 (decide (o = g))).sum
abbrev kx (x y : Str) : Bool := decide (x = y)
def top1 (x : Str) (n : Nat) (p : Int) (g : List Int) : Int := cond (kx x "shapley") (shaT n p g) 0
def low1 (x : Str) (n : Nat) : Int := cond (kx x "shapley") ((ordL 3 (evL n)).length : Nat) n
def top2 (x : Str) (n : Nat) (p : Int) (g : List Int) : Int := cond (kx x "banzhaf") (banT n p g) (top1 x n p g)
def low2 (x : Str) (n : Nat) (p : Int) : Int := cond (kx x "banzhaf") (((banL n p).map tupI).length : Nat) (low1 x n)
def top3 (x : Str) (n : Nat) (p : Int) (g : List Int) : Int := cond (kx x "in turn") (i01 (decide (g = (evL n).take (p + 1).toNat)) - i01 (decide (g = (evL n).take p.toNat))) (top2 x n p g)
def low3 (x : Str) (n : Nat) (p : Int) : Int := cond (kx x "in turn") 1 (low2 x n p)
def top4 (x : Str) (n : Nat) (p : Int) (g : List Int) : Int := cond (kx x "even") (i01 (decide (g = evL n))) (top3 x n p g)
def top5 (x : Str) (n : Nat) (p : Int) (g : List Int) : Int := cond (kx x "own") (i01 (decide (g = [p]))) (top4 x n p g)
def low5 (x : Str) (n : Nat) (p : Int) : Int := cond (kx x "own") 1 (low3 x n p)
def top6 (x : Str) (n : Nat) (p : Int) (g : List Int) : Int := cond (kx x "last") (i01 (decide (g = evL n)) - i01 (decide (g = lessL (evL n) p))) (top5 x n p g)
def low6 (x : Str) (n : Nat) (p : Int) : Int := cond (kx x "last") 1 (low5 x n p)
def top7 (x : Str) (n : Nat) (p : Int) (g : List Int) : Int := cond (kx x "rest even") (n * i01 (decide (g = [p])) + i01 (decide (g = evL n)) - ((evL n).map fun o => i01 (decide (g = [o]))).sum) (top6 x n p g)
def goneL (n : Nat) : List (List Int) := (evL n).map fun o => lessL (evL n) o
def top8 (x : Str) (n : Nat) (p : Int) (g : List Int) : Int := cond (kx x "last even") (n * (i01 (decide (g = evL n)) - i01 (decide (g = (goneL n).getD p.toNat []))) + i01 (decide (g = evL n)) - ((goneL n).map fun o => i01 (decide (g = evL n)) - i01 (decide (g = o))).sum) (top7 x n p g)
def partL (x : Str) (n : Nat) (p : Int) (g : List Int) : Rt := red (top8 x n p g) (low6 x n p)
theorem low_ok (x : Str) {n : Nat} {p : Int} (hn : Ns n) (hp : p ∈ rgI 0 n) : 0 < low6 x n p ∧ low6 x n p ≤ 24 := by
  have k1 : ∀ n ∈ [2, 3, 4], (0 : Int) < ((ordL 3 (evL n)).length : Nat) ∧ (((ordL 3 (evL n)).length : Nat) : Int) ≤ 24 := by decide
  have k2 : ∀ n ∈ [2, 3, 4], ∀ p ∈ rgI 0 n, (0 : Int) < (((banL n p).map tupI).length : Nat) ∧ ((((banL n p).map tupI).length : Nat) : Int) ≤ 24 := by decide
  have h1 := k1 n hn
  have h2 := k2 n hn p hp
  have h4 := hn.le
  unfold low6 low5 low3 low2 low1
  cases kx x "last" <;> cases kx x "own" <;> cases kx x "in turn" <;> cases kx x "banzhaf" <;> cases kx x "shapley" <;> simp only [cond_true, cond_false] <;> omega
theorem ord_mem {n : Nat} (hn : Ns n) : ∀ o ∈ ordL 3 (evL n), o.length ≤ 4 ∧ ∀ p ∈ rgI 0 n, p ∈ o := by
  have k : ∀ n ∈ [2, 3, 4], ∀ o ∈ ordL 3 (evL n), o.length ≤ 4 ∧ ∀ p ∈ rgI 0 n, p ∈ o := by decide
  exact k n hn
theorem ev_facts {n : Nat} (hn : Ns n) : (evL n).length = n ∧ Up (evL n) ∧ evL n = rgI 0 n := by
  have k : ∀ n ∈ [2, 3, 4], (evL n).length = n ∧ Up (evL n) ∧ evL n = rgI 0 n := by decide
  exact k n hn
theorem gs_up {n : Nat} (hn : Ns n) : ∀ g ∈ [] :: gs n, Up g := by
  have k : ∀ n ∈ [2, 3, 4], ∀ g ∈ [] :: gs n, Up g := by decide
  exact k n hn
/-- the told rules are the law's -/
theorem told_part : ∀ n ∈ [2, 3, 4], ∀ x ∈ names8, ∀ p ∈ rgI 0 n, ∀ g ∈ gs n, toldF x n p g = partL x n p g := by decide +kernel
end G0

set_option Elab.async false
set_option linter.all false
set_option maxRecDepth 100000
set_option maxHeartbeats 4000000
namespace ZM
open PySem PySem.Spec PyProof.Rows L2 DL CB
section
variable {X : Cx} {c : Expr} {ω : Own} {ρ ρ2 : Rho} {body : List Stmt} {pos : Pos}
end
end ZM
namespace G0
open PySem PySem.Spec PyProof.Rows L2 DL CB ZM
theorem foldl_snoc {α β : Type} (f : β → α → β) {l : List α} {k : Nat} {x : α} (b : β) (h : l[k]? = some x) : (l.take (k + 1)).foldl f b = f ((l.take k).foldl f b) x := by
  rw [take_snoc h, List.foldl_append]
  rfl
section
variable {P : Program} {w : World} {K : PySem.W.Frag} {mg : Str → Option Value} {base : Heap} {f : Addr} {fd : FuncData}
abbrev s_part : Stmt := topS 65
abbrev NP : List Str := ["name", "many", "who", "group", "everybody", "top", "low", "order", "ahead", "some", "gone", "one"]
theorem sc_part : FnScope NP ["name", "many", "who", "group"] (defScope s_part) := ⟨rfl, rfl, rfl, by decide +kernel, rfl, by decide +kernel, by decide +kernel⟩
def R_part : List Ent → Own → Ent → Own → Prop := fun es ω e ω' => ∃ (x : Str) (n : Nat) (p : Int) (g : List Int), es = [.dat (.str x), DL.I n, DL.I p, GE g] ∧ Arg3 n p g ∧ e = .dat (ratD (partL x n p g)) ∧ ω' = ω
abbrev st0 (x : Str) (n : Nat) (p : Int) (g : List Int) (t l : Int) : Rho := [some (.dat (.str x)), some (DL.I n), some (DL.I p), some (GE g), some (GE (evL n)), some (DL.I t), some (DL.I l), none, none, none, none, none]
theorem le_st {x : Str} {n : Nat} {p : Int} {g : List Int} {t l t' l' : Int} (h1 : t' = t) (h2 : l' = l) : Le (st0 x n p g t' l') (st0 x n p g t l) := by subst h1 h2; exact Le.refl
theorem ok_part (F : Fun K "_law_part" "_law_part" s_part f fd) (hm : mg "_law_part" = some (.ref f)) (b : Bare mg) (I1 : DFn P w K mg base 4 "_law_orders" (R_ord 3)) (I2 : DFn P w K mg base 1 "_law_with" R_with) (I3 : DFn P w K mg base 1 "_law_groups" R_lgs) (I4 : DFn P w K mg base 1 "_law_less" R_less) (I5 : DFn P w K mg base 1 "_law_ratio" R_lrat) : DFn P w K mg base 5 "_law_part" R_part := by
  refine dfn_ret F hm (F.binds (ps := ["name", "many", "who", "group"]) fun _ _ _ _ _ _ us hl => match us, hl with | [_, _, _, _], _ => rfl) sc_part ?_ ?_
  · rintro es ω e ω' ⟨x, n, p, g, rfl, _⟩; rfl
  · rintro cdv A outer s H E hr es _ e ω ⟨x, n, p, g, rfl, ⟨hn, hp, hg⟩, rfl, rfl⟩
    have hu := hr.units
    have hr1 : Room 1 _ := hr.mono (by decide)
    have h4 := hn.le
    have hp2 := rgI_mem2 hp
    have hz : (gs n).length ≤ 15 := gsN_len hn (Nat.le_refl n)
    obtain ⟨v1, v2, v3⟩ := ev_facts hn
    have vl : (rgI 0 n).length = n := rgI_len _ _
    obtain ⟨w1, w2⟩ := low_ok x hn hp
    refine dr_cons (dn_set 4 (e := GE (evL n)) sc_part.nd (de_tupRg rfl b.tuple b.range (de_var 1) (by omega))) ?_
    refine dr_cons (dn_par (e1 := DL.I 0) (e2 := DL.I n) 5 6 rfl sc_part.nd (da_cons de_int (da_cons (de_var 1) da_nil))) ?_
    -- shapley
    refine dr_cons (ω1 := ω) (ρ1 := st0 x n p g (top1 x n p g) (low1 x n)) (dn_ifC (k := kx x "shapley") (dt_cmp o_eqS (de_var 0) de_str) (fun hk => ?_) fun hk => le_st (by unfold top1; rw [hk]; rfl) (by unfold low1; rw [hk]; rfl)) ?_
    · rw [show top1 x n p g = shaT n p g by unfold top1; rw [hk]; rfl, show low1 x n = ((ordL 3 (evL n)).length : Nat) by unfold low1; rw [hk]; rfl]
      refine dns_cons (dn_set 6 sc_part.nd de_int) (dns_le (dns_one (dn_forN (ordL 3 (evL n)).length (S := [7]) (xs := (ordL 3 (evL n)).map fun o => .dat (lstI o)) (by rw [List.length_map]) PassesOwn.never rfl ?_ (fun _ => ω)
        (fun j => [some (.dat (.str x)), some (DL.I n), some (DL.I p), some (GE g), some (GE (evL n)), some (DL.I (((ordL 3 (evL n)).take j).foldl (shaF p g) 0)), some (DL.I (j : Nat)), none, none, none, none, none]) rfl rfl (pg_name (i := 7) sc_part.nd rfl (.inl rfl)) fun j y hy => ?_)) ?_)
      · have em : ((ordL 3 (evL n)).map fun o => Ent.dat (lstI o)) = (ordD (ordL 3 (evL n))).map Ent.dat := by unfold ordD; rw [List.map_map]; rfl
        rw [em]
        exact di_list (de_call I1 hr (da_cons (de_callT c_listT b.list boot_list (da_cons (de_var 4) da_nil)) da_nil) ⟨evL n, rfl, ⟨by omega, by omega, by decide⟩, rfl, rfl⟩)
      · rw [List.getElem?_map] at hy
        cases eo : (ordL 3 (evL n))[j]? with
        | none => rw [eo] at hy; cases hy
        | some o =>
          rw [eo] at hy
          cases hy
          obtain ⟨o1, o2⟩ := ord_mem hn o (List.mem_of_getElem? eo)
          have om := o2 p hp
          have ht : ((o.map PyData.int).take (((o.idxOf p : Nat) : Int)).toNat) = (o.take (o.idxOf p)).map .int := by
            show (o.map PyData.int).take (o.idxOf p) = _
            rw [List.map_take]
          have al : (ahL o p).length ≤ 4 := by
            unfold ahL
            rw [(ins_perm _).length_eq, List.length_take]
            omega
          refine ⟨_, bnd_name, dns_cons (dn_set 8 (e := GE (ahL o p)) sc_part.nd (by
            unfold ahL
            rw [← sort_ins]
            refine de_callT (ω1 := ω) c_tupleL b.tuple boot_tuple (da_cons (de_callB c_sortedI b.sorted (by rfl) (da_cons (ω1 := ω) (e1 := .dat (lstI (o.take (o.idxOf p)))) ?_ da_nil)) da_nil)
            show DE _ _ _ _ (.dat (.list ((o.take (o.idxOf p)).map .int))) _
            rw [← ht]
            exact de_takeL (de_var 7) (de_index (de_var 7) (de_var 2) om) (by omega))) (dns_le (dns_one (dn_par (e1 := DL.I (((ordL 3 (evL n)).take (j + 1)).foldl (shaF p g) 0)) (e2 := DL.I ((j + 1 : Nat) : Int)) 5 6 rfl sc_part.nd (by
            rw [foldl_snoc _ _ eo]
            exact da_cons (de_op o_sub (de_op o_add (de_var 5) (de_callT c_intB b.int boot_int (da_cons (de_cmp (o_eqG hu) (de_call I2 hr1 (da_cons (de_var 8) (da_cons (de_var 2) da_nil)) ⟨ahL o p, p, rfl, ⟨by omega, with_up p (ins_up _)⟩, rfl, rfl⟩) (de_var 3)) da_nil))) (de_callT c_intB b.int boot_int (da_cons (de_cmp (o_eqG hu) (de_var 8) (de_var 3)) da_nil))) (da_cons (de_op o_add (de_var 6) de_int) da_nil)))) (LeL.le (.same (.same (.same (.same (.same (.same (.same (.drop (.drop (.same (.same (.same .nil)))))))))))))) ⟩
      · rw [List.take_length]
        exact Le.refl
    -- banzhaf
    refine dr_cons (ω1 := ω) (ρ1 := st0 x n p g (top2 x n p g) (low2 x n p)) (dn_ifC (k := kx x "banzhaf") (dt_cmp o_eqS (de_var 0) de_str) (fun hk => ?_) fun hk => le_st (by unfold top2; rw [hk]; rfl) (by unfold low2; rw [hk]; rfl)) ?_
    · rw [show top2 x n p g = banT n p g by unfold top2; rw [hk]; rfl, show low2 x n p = (((banL n p).map tupI).length : Nat) by unfold low2; rw [hk]; rfl]
      have bl : (banL n p).length ≤ 16 := by
        refine Nat.le_trans (List.length_filter_le _ _) ?_
        rw [List.length_cons]; omega
      refine dns_cons (dn_setM 9 [("one", 11)] (as := [] :: gs n) (enc := GE) _ (fun o => !decide (p ∈ o)) (fun o => tupI o) rfl sc_part.nd ?_ (fun _ _ _ _ _ => pg_name (i := 11) sc_part.nd rfl (Or.inl rfl)) (fun x hx => bnd_name)
        (fun _ _ _ _ _ ωd y hy => dts_one (dt_cmp o_notInT (de_var 2) (de_var 11))) (fun _ _ _ _ _ ωd y hy hk => de_var 11) (by rw [List.length_cons]; omega)) (dns_cons (dn_set 6 sc_part.nd (de_callB (c_lenL (ds := (banL n p).map tupI)) b.len boot_len (da_cons (de_var 9) da_nil))) (dns_le (dns_one (dn_set 5 (e := DL.I (banT n p g)) sc_part.nd (de_callB (c_sum rfl) b.sum boot_sum (da_cons (by
          rw [← lst_ints]
          exact de_mapA [("one", 11)] (as := banL n p) (enc := GE) _ (fun o => .int (i01 (decide (withL o p = g)) - i01 (decide (o = g)))) rfl sc_part.nd (di_lstG (de_var 9)) (fun _ _ _ _ _ => pg_name (i := 11) sc_part.nd rfl (Or.inl rfl)) (fun x hx => bnd_name) (fun _ _ _ _ _ ωd y hy => by
            have ym := (List.mem_filter.mp hy).1
            have yl := grp_len hn y ym
            exact de_op o_sub (de_callT c_intB b.int boot_int (da_cons (de_cmp (o_eqG (by exact hu)) (de_call I2 (by exact hr1) (da_cons (de_var 11) (da_cons (de_var 2) da_nil)) ⟨y, p, rfl, ⟨by omega, with_up p (gs_up hn y ym)⟩, rfl, rfl⟩) (de_var 3)) da_nil)) (de_callT c_intB b.int boot_int (da_cons (de_cmp (o_eqG (by exact hu)) (de_var 11) (de_var 3)) da_nil))) (by omega)) da_nil)))) (LeL.le (.same (.same (.same (.same (.same (.same (.same (.same (.same (.drop (.same (.same .nil)))))))))))))))
      have em : (([] :: gs n).map GE) = ([tupI []] ++ gsD (gs n)).map Ent.dat := by
        rw [List.map_append, dats_grps]
        rfl
      rw [em]
      refine di_list (de_op (o_cat ?_) (de_lst (ds := [tupI []]) (da_cons (de_tup (ds := []) da_nil (by decide)) da_nil) (show 1 ≤ sizeLine by decide)) (de_call I3 hr1 (da_cons (de_var 1) da_nil) ⟨n, rfl, hn, rfl, rfl⟩))
      refine Nat.le_of_lt (small1000 ?_)
      show 1 + ((gs n).map tupI).length ≤ 1000
      rw [List.length_map]; omega
    -- in turn
    have et : ∀ i : Int, 0 ≤ i → ((evL n).map PyData.int).take i.toNat = ((evL n).take i.toNat).map .int := fun i _ => by rw [List.map_take]
    refine dr_cons (ω1 := ω) (ρ1 := st0 x n p g (top3 x n p g) (low3 x n p)) (dn_ifC (k := kx x "in turn") (dt_cmp o_eqS (de_var 0) de_str) (fun hk => ?_) fun hk => le_st (by unfold top3; rw [hk]; rfl) (by unfold low3; rw [hk]; rfl)) ?_
    · rw [show top3 x n p g = i01 (decide (g = (evL n).take (p + 1).toNat)) - i01 (decide (g = (evL n).take p.toNat)) by unfold top3; rw [hk]; rfl, show low3 x n p = 1 by unfold low3; rw [hk]; rfl]
      refine dns_one (dn_par 5 6 rfl sc_part.nd (da_cons (de_op o_sub (de_callT c_intB b.int boot_int (da_cons (de_cmp (o_eqG hu) (de_var 3) (by
        show DE _ _ _ _ (.dat (.tuple (((evL n).take (p + 1).toNat).map .int))) _
        rw [← et _ (by omega)]
        exact de_takeT (de_var 4) (de_op o_add (de_var 2) de_int) (by omega))) da_nil)) (de_callT c_intB b.int boot_int (da_cons (de_cmp (o_eqG hu) (de_var 3) (by
        show DE _ _ _ _ (.dat (.tuple (((evL n).take p.toNat).map .int))) _
        rw [← et _ (by omega)]
        exact de_takeT (de_var 4) (de_var 2) (by omega))) da_nil))) (da_cons de_int da_nil)))
    -- even
    refine dr_cons (ω1 := ω) (ρ1 := st0 x n p g (top4 x n p g) (low3 x n p)) (dn_ifC (k := kx x "even") (dt_cmp o_eqS (de_var 0) de_str) (fun hk => ?_) fun hk => le_st (by unfold top4; rw [hk]; rfl) rfl) ?_
    · rw [show top4 x n p g = i01 (decide (g = evL n)) by unfold top4; rw [hk]; rfl]
      exact dns_one (dn_set 5 sc_part.nd (de_callT c_intB b.int boot_int (da_cons (de_cmp (o_eqG hu) (de_var 3) (de_var 4)) da_nil)))
    -- own
    refine dr_cons (ω1 := ω) (ρ1 := st0 x n p g (top5 x n p g) (low5 x n p)) (dn_ifC (k := kx x "own") (dt_cmp o_eqS (de_var 0) de_str) (fun hk => ?_) fun hk => le_st (by unfold top5; rw [hk]; rfl) (by unfold low5; rw [hk]; rfl)) ?_
    · rw [show top5 x n p g = i01 (decide (g = [p])) by unfold top5; rw [hk]; rfl, show low5 x n p = 1 by unfold low5; rw [hk]; rfl]
      exact dns_one (dn_par 5 6 rfl sc_part.nd (da_cons (de_callT c_intB b.int boot_int (da_cons (de_cmp (o_eqG (h := [p]) hu) (de_var 3) (de_tup (ds := [.int p]) (da_cons (de_var 2) da_nil) (show 1 ≤ sizeLine by decide))) da_nil)) (da_cons de_int da_nil)))
    -- last
    refine dr_cons (ω1 := ω) (ρ1 := st0 x n p g (top6 x n p g) (low6 x n p)) (dn_ifC (k := kx x "last") (dt_cmp o_eqS (de_var 0) de_str) (fun hk => ?_) fun hk => le_st (by unfold top6; rw [hk]; rfl) (by unfold low6; rw [hk]; rfl)) ?_
    · rw [show top6 x n p g = i01 (decide (g = evL n)) - i01 (decide (g = lessL (evL n) p)) by unfold top6; rw [hk]; rfl, show low6 x n p = 1 by unfold low6; rw [hk]; rfl]
      exact dns_one (dn_par 5 6 rfl sc_part.nd (da_cons (de_op o_sub (de_callT c_intB b.int boot_int (da_cons (de_cmp (o_eqG hu) (de_var 3) (de_var 4)) da_nil)) (de_callT c_intB b.int boot_int (da_cons (de_cmp (o_eqG hu) (de_var 3) (de_call I4 hr1 (da_cons (de_var 4) (da_cons (de_var 2) da_nil)) ⟨evL n, p, rfl, by omega, rfl, rfl⟩)) da_nil))) (da_cons de_int da_nil)))
    -- rest even
    refine dr_cons (ω1 := ω) (ρ1 := st0 x n p g (top7 x n p g) (low6 x n p)) (dn_ifC (k := kx x "rest even") (dt_cmp o_eqS (de_var 0) de_str) (fun hk => ?_) fun hk => le_st (by unfold top7; rw [hk]; rfl) rfl) ?_
    · rw [show top7 x n p g = n * i01 (decide (g = [p])) + i01 (decide (g = evL n)) - ((evL n).map fun o => i01 (decide (g = [o]))).sum by unfold top7; rw [hk]; rfl]
      exact dns_one (dn_set 5 sc_part.nd (de_op o_sub (de_op o_add (de_op (o_mul (.inl ⟨by omega, by omega⟩)) (de_var 1) (de_callT c_intB b.int boot_int (da_cons (de_cmp (o_eqG (h := [p]) hu) (de_var 3) (de_tup (ds := [.int p]) (da_cons (de_var 2) da_nil) (show 1 ≤ sizeLine by decide))) da_nil))) (de_callT c_intB b.int boot_int (da_cons (de_cmp (o_eqG hu) (de_var 3) (de_var 4)) da_nil))) (de_callB (c_sum rfl) b.sum boot_sum (da_cons (by
        rw [← lst_ints]
        exact de_mapA [("one", 11)] (as := evL n) (enc := DL.I) _ (fun o => .int (i01 (decide (g = [o])))) rfl sc_part.nd (di_tupI (de_var 4)) (fun _ _ _ _ _ => pg_name (i := 11) sc_part.nd rfl (Or.inl rfl)) (fun x hx => bnd_name)
          (fun _ _ _ _ _ ωd y hy => de_callT c_intB b.int boot_int (da_cons (de_cmp (o_eqG (h := [y]) (by exact hu)) (de_var 3) (de_tup (ds := [.int y]) (da_cons (de_var 11) da_nil) (show 1 ≤ sizeLine by decide))) da_nil)) (by omega)) da_nil))))
    -- last even
    refine dr_cons (ω1 := ω) (ρ1 := st0 x n p g (top8 x n p g) (low6 x n p)) (dn_ifC (k := kx x "last even") (dt_cmp o_eqS (de_var 0) de_str) (fun hk => ?_) fun hk => le_st (by unfold top8; rw [hk]; rfl) rfl) ?_
    · rw [show top8 x n p g = n * (i01 (decide (g = evL n)) - i01 (decide (g = (goneL n).getD p.toNat []))) + i01 (decide (g = evL n)) - ((goneL n).map fun o => i01 (decide (g = evL n)) - i01 (decide (g = o))).sum by unfold top8; rw [hk]; rfl]
      have gl : (goneL n).length = n := by unfold goneL; rw [List.length_map, v1]
      have eg : ((evL n).map fun o => tupI (lessL (evL n) o)) = gsD (goneL n) := (List.map_map (l := evL n) (f := fun o => lessL (evL n) o) (g := tupI)).symm
      refine dns_cons (dn_setA 10 [("one", 11)] (as := evL n) (enc := DL.I) _ (fun o => tupI (lessL (evL n) o)) rfl sc_part.nd (di_tupI (de_var 4)) (fun _ _ _ _ _ => pg_name (i := 11) sc_part.nd rfl (Or.inl rfl)) (fun x hx => bnd_name)
        (fun _ _ _ _ _ ωd y hy => de_call I4 (by exact hr1) (da_cons (de_var 4) (da_cons (de_var 11) da_nil)) ⟨evL n, y, rfl, by omega, rfl, rfl⟩) (by omega)) ?_
      rw [eg]
      refine dns_cons (dn_set 5 sc_part.nd (de_op o_add (de_op (o_mul (i := (n : Int)) (.inl ⟨by omega, by omega⟩)) (de_var 1) (de_op o_sub (de_callT c_intB b.int boot_int (da_cons (de_cmp (o_eqG hu) (de_var 3) (de_var 4)) da_nil)) (de_callT c_intB b.int boot_int (da_cons (de_cmp (o_eqG (h := (goneL n).getD p.toNat []) hu) (de_var 3) (de_ixL (de_var 10) (de_var 2) (atI_map hp2.1 (by omega)))) da_nil)))) (de_callT c_intB b.int boot_int (da_cons (de_cmp (o_eqG hu) (de_var 3) (de_var 4)) da_nil)))) (dns_le (dns_one (dn_set 5 sc_part.nd (de_op o_sub (de_var 5) (de_callB (c_sum rfl) b.sum boot_sum (da_cons (by
        rw [← lst_ints]
        exact de_mapA [("one", 11)] (as := goneL n) (enc := GE) _ (fun o => .int (i01 (decide (g = evL n)) - i01 (decide (g = o)))) rfl sc_part.nd (di_lstG (de_var 10)) (fun _ _ _ _ _ => pg_name (i := 11) sc_part.nd rfl (Or.inl rfl)) (fun x hx => bnd_name)
          (fun _ _ _ _ _ ωd y hy => de_op o_sub (de_callT c_intB b.int boot_int (da_cons (de_cmp (o_eqG (by exact hu)) (de_var 3) (de_var 4)) da_nil)) (de_callT c_intB b.int boot_int (da_cons (de_cmp (o_eqG (by exact hu)) (de_var 3) (de_var 11)) da_nil))) (by omega)) da_nil))))) (LeL.le (.same (.same (.same (.same (.same (.same (.same (.same (.same (.same (.drop (.same .nil))))))))))))))
    exact dr_ret (de_call I5 hr1 (da_cons (de_var 5) (da_cons (de_var 6) da_nil)) ⟨_, _, rfl, ⟨w1, Nat.lt_of_le_of_lt (m := 24) (by omega) (Nat.lt_of_lt_of_le (m := 2 ^ 5) (by decide) (Nat.pow_le_pow_right (by decide) (by decide)))⟩, rfl, rfl⟩)
end
end G0

set_option Elab.async false
set_option linter.all false
set_option maxRecDepth 100000
set_option maxHeartbeats 4000000
namespace ZM
open PySem PySem.Spec PyProof.Rows L2 DL CB
section
variable {X : Cx} {a b c : Expr} {ω ω1 : Own} {ρ : Rho} {e1 e2 e3 : Ent} {pos : Pos}
end
end ZM
namespace G0
open PySem PySem.Spec PyProof.Rows L2 DL CB ZM
structure T24 (r : Rt) : Prop where
  p : 0 < r.2
  d : r.2 ∣ 24
  l : r.1.natAbs ≤ 24
  c : gcdI r.1 r.2 = 1
theorem told_24 {n : Nat} {x : Str} {p : Int} {g : List Int} (hn : Ns n) (hx : x ∈ names8) (hp : p ∈ rgI 0 n) (hg : g ∈ gs n) : T24 (toldF x n p g) := by
  have key : ∀ n ∈ [2, 3, 4], ∀ x ∈ names8, ∀ p ∈ rgI 0 n, ∀ g ∈ gs n, 0 < (toldF x n p g).2 ∧ (toldF x n p g).2 ∣ 24 ∧ (toldF x n p g).1.natAbs ≤ 24 ∧ gcdI (toldF x n p g).1 (toldF x n p g).2 = 1 := by decide +kernel
  obtain ⟨a, b, c, d⟩ := key n hn x hx p hp g hg
  exact ⟨a, b, c, d⟩
theorem T24.ok {r : Rt} (h : T24 r) : RatOk r := ⟨h.p, Int.dvd_trans h.d (by decide), Nat.le_trans h.l (by decide), h.c⟩
theorem mix2 {a b : Rt} (ha : T24 a) (hb : T24 b) : RatOk (lsumL [(a.1, 2 * a.2), (b.1, 2 * b.2)]) := by
  have da : 2 * a.2 ∣ 48 := by obtain ⟨k, hk⟩ := ha.d; exact ⟨k, by rw [Int.mul_assoc, ← hk]; rfl⟩
  have db : 2 * b.2 ∣ 48 := by obtain ⟨k, hk⟩ := hb.d; exact ⟨k, by rw [Int.mul_assoc, ← hk]; rfl⟩
  have pa := ha.p
  have pb := hb.p
  have e : lsumL [(a.1, 2 * a.2), (b.1, 2 * b.2)] = red (sumU [((a.1, 2 * a.2), 1), ((b.1, 2 * b.2), 1)] 48) 48 := by
    rw [← lsum_red (by decide)]
    · show _ = lsumL [(a.1 * 1, 2 * a.2), (b.1 * 1, 2 * b.2)]
      rw [Int.mul_one, Int.mul_one]
    · intro u hu
      rcases List.mem_cons.mp hu with z | z
      · subst z; exact ⟨by show 0 < 2 * a.2; omega, .inr da⟩
      · rw [List.mem_singleton.mp z]; exact ⟨by show 0 < 2 * b.2; omega, .inr db⟩
  have es : sumU [((a.1, 2 * a.2), 1), ((b.1, 2 * b.2), 1)] 48 = 1 * a.1 * (48 / (2 * a.2)) + (1 * b.1 * (48 / (2 * b.2)) + 0) := rfl
  rw [e]
  have q : ∀ d : Int, 0 < d → (48 / (2 * d)).natAbs ≤ 48 := fun d hd => by
    have h1 : 48 / (2 * d) ≤ 48 := Int.ediv_le_self _ (by decide)
    have h2 : 0 ≤ 48 / (2 * d) := Int.ediv_nonneg (by decide) (by omega)
    omega
  refine ⟨red_pos (by decide), red_dvd _ _, Nat.le_trans (red_le (by decide)) ?_, red_cop (by decide)⟩
  rw [es]
  have h1 : (1 * a.1 * (48 / (2 * a.2))).natAbs ≤ 24 * 48 := by
    rw [Int.natAbs_mul, Int.one_mul]
    exact Nat.mul_le_mul ha.l (q _ pa)
  have h2 : (1 * b.1 * (48 / (2 * b.2))).natAbs ≤ 24 * 48 := by
    rw [Int.natAbs_mul, Int.one_mul]
    exact Nat.mul_le_mul hb.l (q _ pb)
  omega
theorem toldL_rows {x : Str} {n : Nat} (hn : Ns n) (hx : x ∈ names8) : (toldL x n).length = n ∧ ∀ row ∈ toldL x n, row.length = (gs n).length ∧ ∀ r ∈ row, T24 r := by
  refine ⟨by unfold toldL; rw [List.length_map, rgI_len], fun row hr => ?_⟩
  obtain ⟨p, hp, rfl⟩ := List.mem_map.mp hr
  refine ⟨List.length_map .., fun r hr => ?_⟩
  obtain ⟨g, hg, rfl⟩ := List.mem_map.mp hr
  exact told_24 hn hx hp hg
theorem told_rule {x : Str} {n : Nat} (hn : Ns n) (hx : x ∈ names8) : Rule n (toldL x n) := by
  obtain ⟨h1, h2⟩ := toldL_rows hn hx
  exact ⟨hn, h1, fun row hr => (h2 row hr).1, fun row hr q hq => ((h2 row hr).2 q hq).ok⟩
/-! ### the drawn rule -/
def nameV (ns : List Int) (t : St3) : Str := names8.getD (takenV ns t 8).toNat "own"
theorem nameV_mem (ns : List Int) (t : St3) : nameV ns t ∈ names8 := by
  have h := takenV_range (ns := ns) (t := t) (m := 8) (by decide)
  unfold nameV
  have hl : (takenV ns t 8).toNat < names8.length := by show _ < 8; omega
  rw [List.getD_eq_getElem?_getD, List.getElem?_eq_getElem hl]
  exact List.getElem_mem hl
abbrev parts5 : List Rt := [(0, 1), (1, 1), (-1, 1), (1, 2), (2, 3)]
def partV (ns : List Int) (t : St3) : Rt := parts5.getD (takenV ns t 5).toNat (0, 1)
theorem partV_ok (ns : List Int) (t : St3) : RatOk (partV ns t) := by
  have h := takenV_range (ns := ns) (t := t) (m := 5) (by decide)
  have key : ∀ r ∈ parts5, 0 < r.2 ∧ r.2 ∣ 48 ∧ r.1.natAbs ≤ 5000 ∧ gcdI r.1 r.2 = 1 := by decide
  have hl : (takenV ns t 5).toNat < parts5.length := by show _ < 5; omega
  have hm : partV ns t ∈ parts5 := by
    unfold partV
    rw [List.getD_eq_getElem?_getD, List.getElem?_eq_getElem hl]
    exact List.getElem_mem hl
  obtain ⟨a, b, c, d⟩ := key _ hm
  exact ⟨a, b, c, d⟩
/-- one part changed -/
def chgL (A : List (List Rt)) (n L : Nat) (who at_ : Int) (r : Rt) : List (List Rt) := (rgI 0 n).map fun h => (rgI 0 L).map fun th => if [h, th] = [who, at_] then r else (A.getD h.toNat []).getD th.toNat (0, 1)
abbrev mix1 (u : Rt × Rt) : Rt := lsumL [(u.1.1, 2 * u.1.2), (u.2.1, 2 * u.2.2)]
def mixRow (A B : List (List Rt)) (h : Int) : List Rt := ((A.getD h.toNat []).zip (B.getD h.toNat [])).map mix1
def mixAll (A B : List (List Rt)) (n : Nat) : List (List Rt) := (rgI 0 n).map (mixRow A B)
abbrev mS1 (ns : List Int) (t : St3) : St3 := takenS ns t 8
abbrev mS2 (ns : List Int) (t : St3) : St3 := takenS ns (mS1 ns t) 8
abbrev mS3 (ns : List Int) (t : St3) : St3 := takenS ns (mS2 ns t) 3
abbrev mS4 (ns : List Int) (t : St3) (n : Nat) : St3 := takenS ns (mS3 ns t) n
abbrev mS5 (ns : List Int) (t : St3) (n : Nat) : St3 := takenS ns (mS4 ns t n) (gs n).length
abbrev mS6 (ns : List Int) (t : St3) (n : Nat) : St3 := takenS ns (mS5 ns t n) 5
abbrev mKind (ns : List Int) (t : St3) : Int := takenV ns (mS2 ns t) 3
def mixL (ns : List Int) (t : St3) (n : Nat) : List (List Rt) :=
  if mKind ns t = 0 then toldL (nameV ns t) n
  else if mKind ns t = 1 then chgL (toldL (nameV ns t) n) n (gs n).length (takenV ns (mS3 ns t) n) (takenV ns (mS4 ns t n) (gs n).length) (partV ns (mS5 ns t n))
  else mixAll (toldL (nameV ns t) n) (toldL (nameV ns (mS1 ns t)) n) n
def mixT (ns : List Int) (t : St3) (n : Nat) : St3 := if mKind ns t = 0 then mS3 ns t else if mKind ns t = 1 then mS6 ns t n else mS3 ns t
theorem getD_in {α : Type} {l : List α} {i : Nat} {d : α} (h : i < l.length) : l.getD i d ∈ l := by
  rw [List.getD_eq_getElem?_getD, List.getElem?_eq_getElem h]
  exact List.getElem_mem h
theorem getD_row {A : List (List Rt)} {h : Int} (h1 : 0 ≤ h) (h2 : h.toNat < A.length) : A.getD h.toNat [] ∈ A := by
  rw [List.getD_eq_getElem?_getD, List.getElem?_eq_getElem h2]
  exact List.getElem_mem h2
theorem mix_rule (ns : List Int) (t : St3) {n : Nat} (hn : Ns n) : Rule n (mixL ns t n) := by
  have hA := toldL_rows hn (nameV_mem ns t)
  have hB := toldL_rows hn (nameV_mem ns (mS1 ns t))
  unfold mixL
  split
  · exact told_rule hn (nameV_mem ns t)
  · split
    · refine ⟨hn, by unfold chgL; rw [List.length_map, rgI_len], fun row hr => ?_, fun row hr q hq => ?_⟩
      · obtain ⟨h, hh, rfl⟩ := List.mem_map.mp hr
        rw [List.length_map, rgI_len]
      · obtain ⟨h, hh, rfl⟩ := List.mem_map.mp hr
        obtain ⟨th, ht, rfl⟩ := List.mem_map.mp hq
        have b1 := rgI_mem2 hh
        have b2 := rgI_mem2 ht
        split
        · exact partV_ok _ _
        · have hr := getD_row (A := toldL (nameV ns t) n) b1.1 (by rw [hA.1]; omega)
          obtain ⟨r1, r2⟩ := hA.2 _ hr
          refine (r2 _ ?_).ok
          exact getD_in (by omega)
    · refine ⟨hn, by unfold mixAll; rw [List.length_map, rgI_len], fun row hr => ?_, fun row hr q hq => ?_⟩
      · obtain ⟨h, hh, rfl⟩ := List.mem_map.mp hr
        have b1 := rgI_mem2 hh
        have r1 := (hA.2 _ (getD_row (A := toldL (nameV ns t) n) b1.1 (by rw [hA.1]; omega))).1
        have r2 := (hB.2 _ (getD_row (A := toldL (nameV ns (mS1 ns t)) n) b1.1 (by rw [hB.1]; omega))).1
        unfold mixRow
        rw [List.length_map, List.length_zip, r1, r2, Nat.min_self]
      · obtain ⟨h, hh, rfl⟩ := List.mem_map.mp hr
        obtain ⟨u, hu, rfl⟩ := List.mem_map.mp hq
        have b1 := rgI_mem2 hh
        have m := List.of_mem_zip (a := u.1) (b := u.2) hu
        exact mix2 ((hA.2 _ (getD_row (A := toldL (nameV ns t) n) b1.1 (by rw [hA.1]; omega))).2 _ m.1) ((hB.2 _ (getD_row (A := toldL (nameV ns (mS1 ns t)) n) b1.1 (by rw [hB.1]; omega))).2 _ m.2)
theorem mixT_k {ns : List Int} {t : St3} {n : Nat} (h : 0 ≤ t.k) : 0 ≤ (mixT ns t n).k := by
  unfold mixT
  split
  · exact takenS_k (takenS_k (takenS_k h))
  · split
    · exact takenS_k (takenS_k (takenS_k (takenS_k (takenS_k (takenS_k h)))))
    · exact takenS_k (takenS_k (takenS_k h))
end G0

set_option Elab.async false
set_option linter.all false
set_option maxRecDepth 100000
set_option maxHeartbeats 4000000
namespace G0
open PySem PySem.Spec PyProof.Rows L2 DL CB ZM
section
variable {P : Program} {w : World} {K : PySem.W.Frag} {mg : Str → Option Value} {base : Heap} {f : Addr} {fd : FuncData}
/-! ### _law_names, _law_rule -/
abbrev s_lnm : Stmt := topS 66
theorem sc_lnm : FnScope [] [] (defScope s_lnm) := ⟨rfl, rfl, rfl, by decide +kernel, rfl, by decide +kernel, by decide +kernel⟩
def R_lnm : List Ent → Own → Ent → Own → Prop := fun es ω e ω' => es = [] ∧ e = .dat (.list (names8.map .str)) ∧ ω' = ω
theorem ok_lnm (F : Fun K "_law_names" "_law_names" s_lnm f fd) (hm : mg "_law_names" = some (.ref f)) : DFn P w K mg base 1 "_law_names" R_lnm := by
  refine dfn_ret F hm (F.binds (ps := []) fun _ _ _ _ _ _ us hl => match us, hl with | [], _ => rfl) sc_lnm ?_ ?_
  · rintro es ω e ω' ⟨rfl, _⟩; rfl
  · rintro cdv A outer s H E hr es _ e ω ⟨rfl, rfl, rfl⟩
    exact dr_ret (de_lst (ds := names8.map .str) (da_cons de_str (da_cons de_str (da_cons de_str (da_cons de_str (da_cons de_str (da_cons de_str (da_cons de_str (da_cons de_str da_nil)))))))) (show 8 ≤ sizeLine by decide))
abbrev s_lrule : Stmt := topS 67
theorem sc_lrule : FnScope ["name", "many", "group", "who"] ["name", "many"] (defScope s_lrule) := ⟨rfl, rfl, rfl, by decide +kernel, rfl, by decide +kernel, by decide +kernel⟩
theorem ok_lrule (F : Fun K "_law_rule" "_law_rule" s_lrule f fd) (hm : mg "_law_rule" = some (.ref f)) (b : Bare mg) (I1 : DFn P w K mg base 5 "_law_part" R_part) (I2 : DFn P w K mg base 1 "_law_groups" R_lgs) : DFn P w K mg base 6 "_law_rule" R_told := by
  refine dfn_ret F hm (F.binds (ps := ["name", "many"]) fun _ _ _ _ _ _ us hl => match us, hl with | [_, _], _ => rfl) sc_lrule ?_ ?_
  · rintro es ω e ω' ⟨x, n, rfl, _⟩; rfl
  · rintro cdv A outer s H E hr es _ e ω ⟨x, n, rfl, ⟨hx, hn⟩, rfl, rfl⟩
    have hr1 : Room 1 _ := hr.mono (by decide)
    have h4 := hn.le
    have hz : (gs n).length ≤ 15 := gsN_len hn (Nat.le_refl n)
    have e : ruleD (toldL x n) = .tuple ((rgI 0 n).map fun p => .tuple ((gs n).map fun g => ratD (partL x n p g))) := by
      show PyData.tuple ((toldL x n).map rowD) = _
      unfold toldL
      rw [List.map_map]
      congr 1
      refine List.map_congr_left fun p hp => ?_
      show PyData.tuple (((gs n).map fun g => toldF x n p g).map ratD) = _
      rw [List.map_map]
      congr 1
      refine List.map_congr_left fun g hg => ?_
      show ratD (toldF x n p g) = _
      rw [told_part n hn x hx p hp g hg]
    rw [e]
    refine dr_ret (de_callT c_tupleL b.tuple boot_tuple (da_cons (de_mapA [("who", 3), ("group", 2)] (as := rgI 0 n) (enc := DL.I) _ (fun p => .tuple ((gs n).map fun g => ratD (partL x n p g))) rfl sc_lrule.nd (di_rangeN b.range (de_var 1) rfl (by omega)) (fun _ _ _ _ _ => pg_name (i := 3) sc_lrule.nd rfl (Or.inr rfl)) (fun y hy => bnd_name)
      (fun _ _ _ _ _ ωd p hp => de_callT c_tupleL b.tuple boot_tuple (da_cons (de_mapA [("group", 2)] (as := gs n) (enc := GE) _ (fun g => ratD (partL x n p g)) rfl sc_lrule.nd (di_lstG (de_call I2 (by exact hr1) (da_cons (de_var 1) da_nil) ⟨n, rfl, hn, rfl, rfl⟩)) (fun _ _ _ _ _ => pg_name (i := 2) sc_lrule.nd rfl (Or.inl rfl)) (fun y hy => bnd_name)
        (fun _ _ _ _ _ ωd g hg => de_call I1 (by exact hr) (da_cons (de_var 0) (da_cons (de_var 1) (da_cons (de_var 3) (da_cons (de_var 2) da_nil)))) ⟨x, n, p, g, rfl, ⟨hn, hp, hg⟩, rfl, rfl⟩) (by omega)) da_nil)) (by rw [rgI_len]; omega)) da_nil))
/-! ### _law_mixed -/
abbrev NX : List Str := ["row", "many", "one", "other", "kind", "who", "at", "part", "here", "mixed", "there", "left", "right"]
def R_mix (K : PySem.W.Frag) : List Ent → Own → Ent → Own → Prop := fun es ω e ω' => ∃ (p scr : Addr) (ns : List Int) (t : St3) (n : Nat), es = [.own p, DL.I n] ∧ (Ns n ∧ 0 ≤ t.k) ∧ ω = [(p, t.oc K scr ns)] ∧ e = .dat (ruleD (mixL ns t n)) ∧ ω' = [(p, (mixT ns t n).oc K scr ns)]
theorem getD_str {i : Nat} (h : i < names8.length) (d : Str) : (names8.map PyData.str).getD i .none = .str (names8.getD i d) := by
  rw [List.getD_eq_getElem?_getD, List.getD_eq_getElem?_getD, List.getElem?_map, List.getElem?_eq_getElem h]
  rfl
theorem getD_rat {l : List Rt} {i : Nat} (h : i < l.length) : (l.map ratD).getD i .none = ratD (l.getD i (0, 1)) := by
  rw [List.getD_eq_getElem?_getD, List.getD_eq_getElem?_getD, List.getElem?_map, List.getElem?_eq_getElem h]
  rfl
theorem o_eqIF2 {X : Cx} {i j : Int} (h : i ≠ j) : Op2 X (compareOp .Eq) (DL.I i) (DL.I j) (B false) := o_eqIk (decide_eq_false h)
end
end G0

set_option Elab.async false
set_option linter.all false
set_option maxRecDepth 100000
set_option maxHeartbeats 4000000
namespace G0
open PySem PySem.Spec PyProof.Rows L2 DL CB ZM
/-! ### texts of numbers -/
abbrev toS (v : Int) : Str := (toString v : String)
def digS (s : Str) : Str := Txt.removeprefix s "-"
def guardS (s : Str) : Bool := decide ((5 : Int) < ((s.length : Nat) : Int)) || (!Txt.isascii (digS s) || !Txt.isdigit (digS s))
def okI (s : Str) (n : Int) : Bool := decide (toS n = s) && (decide (-1000 ≤ n) && decide (n ≤ 1000))
def wwI (s : Str) : Option Int := if guardS s = true then none else match PySem.intText? s with
  | some n => cond (okI s n) (some n) none
  | none => none
/-- a text without spaces that the program can read -/
structure WOk (s : Str) : Prop where
  z : s.length ≤ 600
  r : guardS s = true ∨ ∃ n : Int, PySem.intText? s = some n ∧ n.natAbs < 2 ^ 60
def wOkB (s : Str) : Bool := decide (s.length ≤ 600) && (guardS s || (match PySem.intText? s with | some n => decide (n.natAbs < 1152921504606846976) | none => false))
theorem wok_of {s : Str} (h : wOkB s = true) : WOk s := by
  unfold wOkB at h
  rw [Bool.and_eq_true] at h
  obtain ⟨h1, h2⟩ := h
  refine ⟨of_decide_eq_true h1, ?_⟩
  rw [Bool.or_eq_true] at h2
  rcases h2 with h2 | h2
  · exact .inl h2
  · right
    cases e : PySem.intText? s with
    | none => rw [e] at h2; cases h2
    | some n => rw [e] at h2; exact ⟨n, rfl, of_decide_eq_true h2⟩
theorem toS_all : ∀ i ∈ List.range 2001, wwI (toS ((i : Int) - 1000)) = some ((i : Int) - 1000) ∧ wOkB (toS ((i : Int) - 1000)) = true ∧ (toS ((i : Int) - 1000)).length ≤ 5 := by decide +kernel
theorem toS_ok {v : Int} (h : -1000 ≤ v ∧ v ≤ 1000) : wwI (toS v) = some v ∧ WOk (toS v) ∧ (toS v).length ≤ 5 := by
  have q := toS_all (v + 1000).toNat (List.mem_range.mpr (by omega))
  have e : (((v + 1000).toNat : Nat) : Int) - 1000 = v := by omega
  rw [e] at q
  exact ⟨q.1, wok_of q.2.1, q.2.2⟩
def joinW (ws : List Str) : Str := Txt.join " " ws
theorem sp_S : (" " : Str) = SX.S [32] := by decide +kernel
theorem ws_S (ws : List Str) : (ws.map fun w => w.cps.toList).map SX.S = ws := by
  rw [List.map_map]
  have : (SX.S ∘ fun w : Str => w.cps.toList) = id := funext fun w => SX.S_tl w
  rw [this, List.map_id]
theorem join_eq (ws : List Str) : joinW ws = SX.S (TL.joinL [32] (ws.map fun w => w.cps.toList)) := by
  unfold joinW
  rw [sp_S, ← SX.join_S, ws_S]
theorem joinL_app (sep : List Nat) : ∀ (xs ys : List (List Nat)), xs ≠ [] → ys ≠ [] → TL.joinL sep (xs ++ ys) = TL.joinL sep xs ++ (sep ++ TL.joinL sep ys)
  | [], _, h, _ => absurd rfl h
  | [x], [], _, h => absurd rfl h
  | [x], y :: ys, _, _ => by simp [TL.joinL]
  | x :: x2 :: xs, ys, _, h => by
    have ih := joinL_app sep (x2 :: xs) ys (fun z => nomatch z) h
    show x ++ (sep ++ TL.joinL sep (x2 :: xs ++ ys)) = (x ++ (sep ++ TL.joinL sep (x2 :: xs))) ++ _
    rw [ih]
    simp [List.append_assoc]
theorem join_app {xs ys : List Str} (hx : xs ≠ []) (hy : ys ≠ []) : joinW (xs ++ ys) = joinW xs ++ (" " ++ joinW ys) := by
  rw [join_eq, join_eq, join_eq, sp_S, SX.S_cat, SX.S_cat, List.map_append, joinL_app _ _ _ (by simpa using hx) (by simpa using hy)]
end G0

set_option Elab.async false
set_option linter.all false
set_option maxRecDepth 100000
set_option maxHeartbeats 4000000
namespace ZM
open PySem PySem.Spec PyProof.Rows L2 DL CB
/-! ### None in a tuple of numbers and None -/
abbrev optD : Option Int → PyData | some n => .int n | none => .none
abbrev optV : Option Int → V | some n => .int n | none => .non
theorem RpAll.opts {H : Hp} : ∀ {vs : List V} {os : List (Option Int)}, RpAll H vs (os.map optD) → vs = os.map optV
  | _, [], h => by rw [List.map_nil] at h; cases h; rfl
  | _, none :: os, h => by
    rw [List.map_cons] at h
    cases h with
    | cons a b => cases a; rw [RpAll.opts b]; rfl
  | _, some n :: os, h => by
    rw [List.map_cons] at h
    cases h with
    | cons a b => cases a; rw [RpAll.opts b]; rfl
theorem flat_opts : ∀ os : List (Option Int), (os.map optV).all flatV = true
  | [] => rfl
  | none :: os => by show (true && (os.map optV).all flatV) = true; rw [flat_opts os]; rfl
  | some n :: os => by show (true && (os.map optV).all flatV) = true; rw [flat_opts os]; rfl
theorem inV_opts : ∀ os : List (Option Int), inV .non (os.map optV) = os.any (·.isNone)
  | [] => rfl
  | none :: os => rfl
  | some n :: os => by
    show (false || inV .non (os.map optV)) = (false || os.any (·.isNone))
    rw [inV_opts os]
theorem o_inNone {X : Cx} {os : List (Option Int)} : Op2 X (compareOp .In) (.dat .none) (.dat (.tuple (os.map optD))) (B (os.any (·.isNone))) :=
  ⟨_, op_in_seq, fun ω x y H Q o rx ry q => by
    obtain ⟨p, xs, rfl, n, e, r⟩ := ry.tup
    cases rx
    have ex := RpAll.opts r
    subst ex
    refine ⟨p, _, rfl, .inr (SqT.of e), rfl, flat_opts os, ?_⟩
    rw [inV_opts]
    exact q _ H (.refl o) (.ofBool _)⟩
end ZM
namespace G0
open PySem PySem.Spec PyProof.Rows L2 DL CB ZM
theorem dats_strs (ws : List Str) : ws.map S = (ws.map PyData.str).map Ent.dat := by rw [List.map_map]; rfl
abbrev wwD (s : Str) : PyData := optD (wwI s)
theorem joinL_len (sep : List Nat) (m : Nat) : ∀ ps : List (List Nat), (∀ p ∈ ps, p.length ≤ m) → (TL.joinL sep ps).length ≤ ps.length * (m + sep.length)
  | [], _ => by show 0 ≤ _; omega
  | [p], h => by
    have := h p List.mem_cons_self
    show p.length ≤ 1 * (m + sep.length)
    omega
  | p :: q :: ps, h => by
    have h1 := h p List.mem_cons_self
    have h2 := joinL_len sep m (q :: ps) fun x hx => h x (List.mem_cons_of_mem _ hx)
    show (p ++ (sep ++ TL.joinL sep (q :: ps))).length ≤ ((q :: ps).length + 1) * (m + sep.length)
    rw [List.length_append, List.length_append, Nat.add_mul, Nat.one_mul]
    omega
theorem join_len {ws : List Str} {m : Nat} (h : ∀ w ∈ ws, w.length ≤ m) : (joinW ws).length ≤ ws.length * (m + 1) := by
  rw [join_eq, SX.S_len]
  have q := joinL_len [32] m (ws.map fun w => w.cps.toList) fun p hp => by
    obtain ⟨w, hw, rfl⟩ := List.mem_map.mp hp
    have := h w hw
    simpa [Str.length] using this
  rw [List.length_map] at q
  exact q
theorem sum_le (m : Nat) : ∀ l : List Nat, (∀ x ∈ l, x ≤ m) → l.sum ≤ l.length * m
  | [], _ => by simp
  | x :: l, h => by
    have h1 := h x List.mem_cons_self
    have h2 := sum_le m l fun y hy => h y (List.mem_cons_of_mem _ hy)
    rw [List.sum_cons, List.length_cons, Nat.add_mul, Nat.one_mul]
    omega
section
variable {P : Program} {w : World} {K : PySem.W.Frag} {mg : Str → Option Value} {base : Heap} {f : Addr} {fd : FuncData}
/-! ### check_text, written_worth, write_game, read_game -/
abbrev s_ctext : Stmt := topS 25
theorem sc_ctext : FnScope ["value"] ["value"] (defScope s_ctext) := ⟨rfl, rfl, rfl, by decide +kernel, rfl, by decide +kernel, by decide +kernel⟩
def R_ctext : List Ent → Own → Ent → Own → Prop := fun es ω e ω' => ∃ x : Str, es = [S x] ∧ e = .dat .none ∧ ω' = ω
def RX_ctext (CN : Addr) : List Ent → Own → Addr → Own → Prop := fun es ω C ω' => ∃ d : PyData, es = [.dat d] ∧ kitB (tyD d) "str" = some false ∧ C = CN ∧ ω' = ω
theorem ok_ctext (F : Fun K "check_text" "check_text" s_ctext f fd) (hm : mg "check_text" = some (.ref f)) (b : Bare mg) {CN : Addr} (xc : XC K mg "NotText" CN) : DFx P w K mg base 1 "check_text" R_ctext (RX_ctext CN) := by
  refine dfx_none F hm (F.binds (ps := ["value"]) fun _ _ _ _ _ _ us hl => match us, hl with | [_], _ => rfl) sc_ctext ?_ ?_ ?_ ?_ ?_
  · rintro es ω e ω' ⟨x, rfl, _⟩; rfl
  · rintro es ω C ω' ⟨d, rfl, _⟩; rfl
  · rintro es ω e ω' ⟨x, _, rfl, _⟩; rfl
  · rintro cdv A outer s H E hr es _ e ω ⟨x, rfl, rfl, rfl⟩
    exact ⟨_, dns_one (dn_ifF (dt_not (k := true) (dt_val (de_callB (c_isi (d := .str x) (T := "str") rfl) b.isinst boot_isinstance (da_cons (de_var 0) (da_cons (de_ty b.str boot_str) da_nil))))))⟩
  · rintro cdv A outer s H E hr tk es _ C ω ⟨d, rfl, hd, rfl, rfl⟩
    exact drx_ifT (ω1 := ω) (dt_not (k := false) (dt_val (de_callB (c_isi hd) b.isinst boot_isinstance (da_cons (de_var 0) (da_cons (de_ty b.str boot_str) da_nil))))) (drx_raise rfl tk xc)
abbrev s_ww : Stmt := topS 49
theorem sc_ww : FnScope ["text", "digits", "value"] ["text"] (defScope s_ww) := ⟨rfl, rfl, rfl, by decide +kernel, rfl, by decide +kernel, by decide +kernel⟩
def R_ww : List Ent → Own → Ent → Own → Prop := fun es ω e ω' => ∃ s : Str, es = [S s] ∧ WOk s ∧ e = .dat (wwD s) ∧ ω' = ω
theorem ok_ww (F : Fun K "written_worth" "written_worth" s_ww f fd) (hm : mg "written_worth" = some (.ref f)) (b : Bare mg) {t u : Tok} (c1 : mg "MOST_SIGNS" = some (.int 5 t)) (c2 : mg "WORTH_LIMIT" = some (.int 1000 u)) (I1 : DFn P w K mg base 1 "is_integer" R_isint) : DFn P w K mg base 2 "written_worth" R_ww := by
  refine dfn_ret F hm (F.binds (ps := ["text"]) fun _ _ _ _ _ _ us hl => match us, hl with | [_], _ => rfl) sc_ww ?_ ?_
  · rintro es ω e ω' ⟨s, rfl, _⟩; rfl
  · rintro cdv A outer s H E hr es _ e ω ⟨x, rfl, h, rfl, rfl⟩
    have hz := h.z
    have hs : x.length ≤ sizeLine := Nat.le_trans hz (by decide)
    refine dr_cons (dn_set 1 (e := S (digS x)) sc_ww.nd (de_removeprefix (de_var 0) de_str hs)) ?_
    by_cases z : guardS x = true
    · rw [show wwD x = .none by show optD (wwI x) = _; rw [show wwI x = none from if_pos z]]
      exact dr_ifT' (dt_w (dw_or (dt_cmp o_gt (de_callB (c_lenS hs) b.len boot_len (da_cons (de_var 0) da_nil)) (de_globI c1)) fun _ => dw_or (dt_not (dt_val (de_isascii (de_var 1)))) fun _ => dw_or1 (dt_not (dt_val (de_isdigit (de_var 1)))))) z (dr_ret de_non)
    · obtain ⟨n, hn, hnl⟩ := h.r.resolve_left z
      have z : guardS x = false := by simpa using z
      have hlog : n.natAbs.log2 < 1920 := by
        refine Nat.lt_of_le_of_lt (PySem.W.mg_log (k := 59) hnl) (by decide)
      have ew : wwD x = cond (okI x n) (.int n) .none := by
        show optD (wwI x) = _
        unfold wwI
        rw [z, if_neg Bool.false_ne_true, hn]
        show optD (cond (okI x n) (some n) none) = _
        cases okI x n <;> rfl
      rw [ew]
      refine dr_ifF' (dt_w (dw_or (dt_cmp o_gt (de_callB (c_lenS hs) b.len boot_len (da_cons (de_var 0) da_nil)) (de_globI c1)) fun _ => dw_or (dt_not (dt_val (de_isascii (de_var 1)))) fun _ => dw_or1 (dt_not (dt_val (de_isdigit (de_var 1)))))) z (dr_cons (dn_set 2 sc_ww.nd (de_callT (c_intS hn (Nat.le_trans hz (by decide))) b.int boot_int (da_cons (de_var 0) da_nil))) ?_)
      exact dr_ret (de_ifD (dt_w (dw_and (dt_cmp o_eqS (de_callT (c_strI hlog) b.str boot_str (da_cons (de_var 2) da_nil)) (de_var 0)) fun _ => dw_and1 (dt_val (de_call I1 hr (da_cons (de_var 2) (da_cons (de_neg (de_globI c2)) (da_cons (de_globI c2) da_nil))) ⟨n, -1000, 1000, rfl, rfl, rfl⟩)))) (de_var 2) de_non)
def R_wg : List Ent → Own → Ent → Own → Prop := fun es ω e ω' => ∃ (n : Nat) (ws : List Int), es = [.dat (tupI ws)] ∧ Game n ws ∧ e = S (joinW (ws.map toS)) ∧ ω' = ω
theorem log_1000 {v : Int} (h : -1000 ≤ v ∧ v ≤ 1000) : v.natAbs.log2 < 1920 := Nat.lt_of_le_of_lt (PySem.W.mg_log (k := 59) (Nat.lt_of_le_of_lt (m := 1000) (by omega) (by decide))) (by decide)
theorem strs_len {ws : List Int} (h : ∀ x ∈ ws, -1000 ≤ x ∧ x ≤ 1000) (hz : ws.length ≤ 20) : ((ws.map toS).map (·.length)).sum + (ws.map toS).length * (" " : Str).length ≤ 16777216 := by
  have h1 := sum_le 5 ((ws.map toS).map (·.length)) fun x hx => by
    obtain ⟨s, hs, rfl⟩ := List.mem_map.mp hx
    obtain ⟨v, hv, rfl⟩ := List.mem_map.mp hs
    exact (toS_ok (h v hv)).2.2
  rw [List.length_map, List.length_map] at h1
  rw [List.length_map, show (" " : Str).length = 1 by decide +kernel]
  omega
end
end G0

set_option Elab.async false
set_option linter.all false
set_option maxRecDepth 100000
set_option maxHeartbeats 4000000
namespace G0
open PySem PySem.Spec PyProof.Rows L2 DL CB ZM
/-! ### texts of groups and of ratios -/
def gtext (g : List Int) : Str := Txt.join "+" (g.map toS)
def ratT (r : Rt) : Str := cond (decide (r.2 = 1)) (toS r.1) (toS r.1 ++ "/" ++ toS r.2)
def sharesT (r : List (List Rt)) (ws : List Int) : Str := joinW ((sharesL r ws).map ratT)
theorem log_60 {v : Int} (h : v.natAbs < 2 ^ 60) : v.natAbs.log2 < 1920 := Nat.lt_of_le_of_lt (PySem.W.mg_log (k := 59) h) (by decide)
theorem toS_len {v : Int} (h : v.natAbs < 2 ^ 60) : (toS v).length ≤ 1921 := int_text_len_1921 (log_60 h)
/-- a ratio that can be written -/
structure RatS (r : Rt) : Prop where
  t : r.1.natAbs < 2 ^ 60
  b : r.2.natAbs < 2 ^ 60
theorem slash_len : ("/" : Str).length = 1 := by decide +kernel
theorem ratT_len {r : Rt} (h : RatS r) : (ratT r).length ≤ 4000 := by
  have h1 := toS_len h.t
  have h2 := toS_len h.b
  unfold ratT
  cases decide (r.2 = 1) with
  | true => show (toS r.1).length ≤ 4000; omega
  | false =>
    show (toS r.1 ++ "/" ++ toS r.2).length ≤ 4000
    rw [app_len, app_len, slash_len]
    omega
theorem s48_le : ∀ (rs : List Rt) (ws : List Int), (∀ r ∈ rs, RatOk r) → (∀ x ∈ ws, -1000 ≤ x ∧ x ≤ 1000) → (s48 rs ws).natAbs ≤ rs.length * 240000000
  | [], _, _, _ => by show 0 ≤ _; omega
  | _ :: _, [], _, _ => by show 0 ≤ _; omega
  | r :: rs, w :: ws, h, g => by
    have ih := s48_le rs ws (fun x m => h x (List.mem_cons_of_mem _ m)) fun x m => g x (List.mem_cons_of_mem _ m)
    have h1 := h r List.mem_cons_self
    have h2 := g w List.mem_cons_self
    show (w * v48 r + s48 rs ws).natAbs ≤ (rs.length + 1) * 240000000
    have e1 : (v48 r).natAbs ≤ 5000 * 48 := by
      unfold v48
      rw [Int.natAbs_mul]
      refine Nat.mul_le_mul h1.l ?_
      have hp := h1.p
      have hd : 48 / r.2 ≤ 48 := Int.ediv_le_self _ (by decide)
      have h0 : 0 ≤ 48 / r.2 := Int.ediv_nonneg (by decide) (by omega)
      omega
    have e2 : (w * v48 r).natAbs ≤ 1000 * (5000 * 48) := by
      rw [Int.natAbs_mul]
      exact Nat.mul_le_mul (by omega) e1
    have e3 := Int.natAbs_add_le (w * v48 r) (s48 rs ws)
    omega
theorem share_ok {n : Nat} {r : List (List Rt)} {ws : List Int} (h : Rule n r) (g : Game n ws) : ∀ x ∈ sharesL r ws, RatS x := by
  intro x hx
  unfold sharesL at hx
  obtain ⟨row, hr, rfl⟩ := List.mem_map.mp hx
  have ho := h.k row hr
  rw [wsum48 fun q hq => (ho q hq).w]
  have hl := h.w row hr
  have hz : (gs n).length ≤ 15 := gsN_len h.hn (Nat.le_refl n)
  have hs := s48_le row ws ho g.le
  have hd : (red (s48 row ws) 48).2 ∣ 48 := red_dvd _ 48
  have hp : 0 < (red (s48 row ws) 48).2 := red_pos (by decide)
  have h48 := Int.le_of_dvd (by decide) hd
  refine ⟨?_, by omega⟩
  have e1 : (red (s48 row ws) 48).1.natAbs ≤ (s48 row ws).natAbs := by
    show (s48 row ws / gcdI (s48 row ws) 48).natAbs ≤ _
    have := gcdI_pos (t := s48 row ws) (b := 48) (by decide)
    exact Int.natAbs_ediv_le_natAbs _ _
  have e2 : row.length * 240000000 ≤ 100 * 240000000 := Nat.mul_le_mul_right _ (by omega)
  omega
/-! ### the places -/
def grpT (n : Nat) (k : Nat) : Str := gtext ((gs n).getD k [])
def plK (n : Nat) : List (Key × V) := kvR (grpT n) (fun k => (k : Int)) (gs n).length
theorem plK_at : ∀ n ∈ [2, 3, 4], ∀ k ∈ List.range (gs n).length, valV (plK n) (.inr (grpT n k)) = some (.int (k : Int)) := by decide +kernel
theorem grp_inj : ∀ n ∈ [2, 3, 4], ∀ j ∈ List.range (gs n).length, ∀ i ∈ List.range j, grpT n i ≠ grpT n j := by decide +kernel
theorem plus_len : ("+" : Str).length = 1 := by decide +kernel
section
variable {P : Program} {w : World} {K : PySem.W.Frag} {mg : Str → Option Value} {base : Heap} {f : Addr} {fd : FuncData}
abbrev s_gt : Stmt := topS 51
theorem sc_gt : FnScope ["group", "person"] ["group"] (defScope s_gt) := ⟨rfl, rfl, rfl, by decide +kernel, rfl, by decide +kernel, by decide +kernel⟩
def R_gt : List Ent → Own → Ent → Own → Prop := fun es ω e ω' => ∃ g : List Int, es = [GE g] ∧ (g.length ≤ 10 ∧ ∀ v ∈ g, 0 ≤ v ∧ v ≤ 4) ∧ e = S (gtext g) ∧ ω' = ω
theorem strs_plus {g : List Int} (h : ∀ v ∈ g, 0 ≤ v ∧ v ≤ 4) (hz : g.length ≤ 10) : ((g.map toS).map (·.length)).sum + (g.map toS).length * ("+" : Str).length ≤ 16777216 := by
  have h1 := sum_le 1921 ((g.map toS).map (·.length)) fun x hx => by
    obtain ⟨s, hs, rfl⟩ := List.mem_map.mp hx
    obtain ⟨v, hv, rfl⟩ := List.mem_map.mp hs
    have := h v hv
    exact toS_len (by omega)
  rw [List.length_map, List.length_map] at h1
  rw [List.length_map, plus_len]
  omega
theorem ok_gt (F : Fun K "group_text" "group_text" s_gt f fd) (hm : mg "group_text" = some (.ref f)) (b : Bare mg) : DFn P w K mg base 1 "group_text" R_gt := by
  refine dfn_ret F hm (F.binds (ps := ["group"]) fun _ _ _ _ _ _ us hl => match us, hl with | [_], _ => rfl) sc_gt ?_ ?_
  · rintro es ω e ω' ⟨g, rfl, _⟩; rfl
  · rintro cdv A outer s H E hr es _ e ω ⟨g, rfl, ⟨hz, hv⟩, rfl, rfl⟩
    refine dr_ret (de_join (x := "+") (ys := g.map toS) de_str ?_ (strs_plus hv hz))
    rw [List.map_map]
    exact de_mapA [("person", 1)] (as := g) (enc := DL.I) _ (fun v => .str (toS v)) rfl sc_gt.nd (di_tupI (de_var 0)) (fun _ _ _ _ _ => pg_name (i := 1) sc_gt.nd rfl (Or.inl rfl)) (fun x hx => bnd_name) (fun _ _ _ _ _ ωd v hx => de_callT (c_strI (log_60 (by have := hv v hx; omega))) b.str boot_str (da_cons (de_var 1) da_nil)) (by omega)
abbrev s_rt : Stmt := topS 52
theorem sc_rt : FnScope ["ratio", "top", "bottom"] ["ratio"] (defScope s_rt) := ⟨rfl, rfl, rfl, by decide +kernel, rfl, by decide +kernel, by decide +kernel⟩
def R_rt : List Ent → Own → Ent → Own → Prop := fun es ω e ω' => ∃ r : Rt, es = [.dat (ratD r)] ∧ RatS r ∧ e = S (ratT r) ∧ ω' = ω
theorem ok_rt (F : Fun K "ratio_text" "ratio_text" s_rt f fd) (hm : mg "ratio_text" = some (.ref f)) (b : Bare mg) : DFn P w K mg base 1 "ratio_text" R_rt := by
  refine dfn_ret F hm (F.binds (ps := ["ratio"]) fun _ _ _ _ _ _ us hl => match us, hl with | [_], _ => rfl) sc_rt ?_ ?_
  · rintro es ω e ω' ⟨r, rfl, _⟩; rfl
  · rintro cdv A outer s H E hr es _ e ω ⟨r, rfl, h, rfl, rfl⟩
    have l1 := toS_len h.t
    have l2 := toS_len h.b
    refine dr_cons (dn_bind (S := [1, 2]) (de_var 0) (pg_tup rfl (pgs_cons (pg_name (i := 1) sc_rt.nd rfl (.inl rfl)) (pgs_cons (pg_name (i := 2) sc_rt.nd rfl (.inl rfl)) pgs_nil))) bnd_pair) ?_
    have e : S (ratT r) = .dat (cond (decide (r.2 = 1)) (.str (toS r.1)) (.str (toS r.1 ++ "/" ++ toS r.2))) := by
      unfold ratT
      cases decide (r.2 = 1) <;> rfl
    rw [e]
    exact dr_ret (de_ifD (dt_cmp o_eqI (de_var 2) de_int) (de_callT (c_strI (log_60 h.t)) b.str boot_str (da_cons (de_var 1) da_nil)) (de_fsI (de_var 1) (de_var 2) (log_60 h.t) (log_60 h.b) (by show (toS r.1).length + _ + (toS r.2).length ≤ sizeLine; rw [slash_len, sizeLine_eq]; omega)))
end
end G0

set_option Elab.async false
set_option linter.all false
set_option maxRecDepth 100000
set_option maxHeartbeats 4000000
namespace G0
open PySem PySem.Spec PyProof.Rows L2 DL CB ZM
/-! ### the class Desk -/
abbrev s_dinit : Stmt := inClass (topS 53) 0
abbrev s_dgame : Stmt := inClass (topS 53) 1
abbrev s_drun : Stmt := inClass (topS 53) 2
abbrev s_dundo : Stmt := inClass (topS 53) 3
abbrev s_dsht : Stmt := inClass (topS 53) 4
abbrev s_dset : Stmt := inClass (topS 53) 5
abbrev fs1 (n : Nat) : List (Str × Ent) := [("_many", DL.I n)]
abbrev fs2 (n : Nat) (d : Addr) : List (Str × Ent) := [("_many", DL.I n), ("_places", .own d)]
abbrev fs3 (n : Nat) (d : Addr) (ws : List Int) : List (Str × Ent) := [("_many", DL.I n), ("_places", .own d), ("_game", .dat (tupI ws))]
abbrev deskFs (n : Nat) (d e : Addr) (ws : List Int) : List (Str × Ent) := [("_many", DL.I n), ("_places", .own d), ("_game", .dat (tupI ws)), ("_earlier", .own e)]
def DeskO (C dx p d e : Addr) (n : Nat) (ws : List Int) (past : List (List Int)) : Own := [(p, .obj C dx (deskFs n d e ws)), (d, .dk (plK n)), (e, .lst (gsD past))]
/-- what the head says of the class -/
structure DCl (K : PySem.W.Frag) (C : Addr) : Prop where
  cl : Cls K C
  nM : NoAttr K C "_many"
  nP : NoAttr K C "_places"
  nG : NoAttr K C "_game"
  nE : NoAttr K C "_earlier"
theorem put1 (n : Nat) : putE "_many" (DL.I n) [] = fs1 n := rfl
theorem put2 (n : Nat) (d : Addr) : putE "_places" (.own d) (fs1 n) = fs2 n d := by
  unfold putE
  rw [if_neg (by decide +kernel)]
  rfl
theorem put3 (n : Nat) (d : Addr) (ws : List Int) : putE "_game" (.dat (tupI ws)) (fs2 n d) = fs3 n d ws := by
  unfold putE
  rw [if_neg (by decide +kernel)]
  unfold putE
  rw [if_neg (by decide +kernel)]
  rfl
theorem put4 (n : Nat) (d e : Addr) (ws : List Int) : putE "_earlier" (.own e) (fs3 n d ws) = deskFs n d e ws := by
  unfold putE
  rw [if_neg (by decide +kernel)]
  unfold putE
  rw [if_neg (by decide +kernel)]
  unfold putE
  rw [if_neg (by decide +kernel)]
  rfl
theorem put_game (n : Nat) (d e : Addr) (ws us : List Int) : putE "_game" (.dat (tupI us)) (deskFs n d e ws) = deskFs n d e us := by
  unfold putE
  rw [if_neg (by decide +kernel)]
  unfold putE
  rw [if_neg (by decide +kernel)]
  unfold putE
  rw [if_pos rfl]
theorem at_many (n : Nat) (d e : Addr) (ws : List Int) : (deskFs n d e ws).lookup ("_many" : Str) = some (DL.I n) := by kernel_rfl
theorem at_places (n : Nat) (d e : Addr) (ws : List Int) : (deskFs n d e ws).lookup ("_places" : Str) = some (.own d) := by kernel_rfl
theorem at_game (n : Nat) (d e : Addr) (ws : List Int) : (deskFs n d e ws).lookup ("_game" : Str) = some (.dat (tupI ws)) := by kernel_rfl
theorem at_earlier (n : Nat) (d e : Addr) (ws : List Int) : (deskFs n d e ws).lookup ("_earlier" : Str) = some (.own e) := by kernel_rfl
def spInit (C : Addr) : Sp := fun vs H Q _ => ∃ (ω : Own) (n : Nat) (p dx : Addr), vs = [.ref p, .int n] ∧ Ns n ∧ OwnOk (ω ++ [(p, .obj C dx [])]) H ∧
  ∀ d e H', H d = none → H e = none → Keep (dom (ω ++ [(p, OC.obj C dx [])])) H H' → OwnOk (ω ++ DeskO C dx p d e n (List.replicate (gs n).length 0) []) H' → Q .non H'
theorem gs_ge {n : Nat} (h : Ns n) : 3 ≤ (gs n).length := by
  have key : ∀ n ∈ [2, 3, 4], 3 ≤ (gs n).length := by decide
  exact key n h
theorem gs_grp : ∀ n ∈ [2, 3, 4], ∀ g ∈ gs n, g.length ≤ 10 ∧ ∀ v ∈ g, 0 ≤ v ∧ v ≤ 4 := by decide
theorem getD_gs {n k : Nat} (hk : k < (gs n).length) : (gs n).getD k [] ∈ gs n := by
  rw [List.getD_eq_getElem?_getD, List.getElem?_eq_getElem hk]
  exact List.getElem_mem hk
section
variable {P : Program} {w : World} {K : PySem.W.Frag} {mg : Str → Option Value} {base : Heap} {f : Addr} {fd : FuncData}
abbrev NI : List Str := ["self", "many", "at", "group"]
theorem sc_dinit : FnScope NI ["self", "many"] (defScope s_dinit) := ⟨rfl, rfl, rfl, by decide +kernel, rfl, by decide +kernel, by decide +kernel⟩
theorem ok_dinit {C : Addr} (F : Fun K "__init__" "Desk.__init__" s_dinit f fd) (c : DCl K C) (b : Bare mg) (I1 : DFn P w K mg base 2 "check_many" R_chkmany) (I2 : DFn P w K mg base 1 "all_groups" R_all) (I3 : DFn P w K mg base 1 "group_text" R_gt) : FnOk P w K mg base CX0 3 f fd ["self", "many"] (spInit C) := by
  refine F.ok sc_dinit (fun vs H Q E h => ?_) (fun cdv A outer s H vs Q E hr h => ?_)
  · obtain ⟨ω, n, p, dx, rfl, _⟩ := h
    rfl
  · obtain ⟨ω, n, p, dx, rfl, hn, ho, q⟩ := h
    have hr1 : Room 1 _ := hr.mono (by decide)
    have hz : (gs n).length ≤ 15 := gsN_len hn (Nat.le_refl n)
    have hz3 := gs_ge hn
    have el : ((enD (gsD (gs n))).map Ent.dat).length = (gs n).length := by rw [List.length_map, List.length_map, List.length_zipIdx, List.length_map]
    have hu : cLine > ((CxF P w K mg base NI "Desk.__init__" s_dinit f cdv A outer s H E).A).units + 64 := hr.units
    have dm : ∀ fs, dom (ω ++ [(p, OC.obj C dx fs)]) = dom ω ++ [p] := fun fs => by simp [dom]
    have ez : ((List.replicate ((gs n).length : Int).toNat (PyData.int 0))) = (List.replicate (gs n).length (0 : Int)).map .int := by
      rw [List.map_replicate]
      rfl
    have hb : PSs (CxF P w K mg base NI "Desk.__init__" s_dinit f cdv A outer s H E) (defBody s_dinit) (fun D σ H => EOk (ω ++ [(p, .obj C dx [])]) (rho0 NI [.own p, DL.I n]) σ H ∧ ∀ d e σ' H', H d = none → H e = none → Keep (dom (ω ++ [(p, OC.obj C dx [])])) H H' → OwnOk (ω ++ DeskO C dx p d e n (List.replicate (gs n).length 0) []) H' → D.nx σ' H') := by
      refine pss_w (pss_cons (dn_expr (ω := ω ++ [(p, .obj C dx [])]) (ρ := rho0 NI [.own p, DL.I n]) (de_call I1 hr (da_cons (de_var 1) da_nil) ⟨n, rfl, hn, rfl, rfl⟩)) (pss_cons (dn_fld (fs := []) (ω := ω ++ [(p, .obj C dx [])]) (ρ := rho0 NI [.own p, DL.I n]) (ω2 := ω ++ [(p, .obj C dx (fs1 n))]) ω [] rfl (de_var 1) (de_var 0) c.cl c.nM rfl (show 0 < 1000 by decide) rfl)
        (pss_cons (no_fld (fs := fs1 n) (ρ := rho0 NI [.own p, DL.I n]) (Ω := fun d => ω ++ [(p, .obj C dx (fs2 n d)), (d, .dk (plK n))]) ω [] rfl ?_ (fun d => de_var 0) c.cl c.nP (show 1 < 1000 by decide) (fun d => by rw [put2]; rfl))
        (pss_ex (p := fun _ => True) (t := fun d D σ H => EOk (ω ++ [(p, .obj C dx (fs2 n d)), (d, .dk (plK n))]) (rho0 NI [.own p, DL.I n]) σ H ∧ ∀ e σ' H', H e = none → Keep (dom (ω ++ [(p, OC.obj C dx (fs2 n d)), (d, OC.dk (plK n))])) H H' → OwnOk (ω ++ DeskO C dx p d e n (List.replicate (gs n).length 0) []) H' → D.nx σ' H') fun d _ =>
          pss_w (pss_cons (dn_fld (fs := fs2 n d) (ω := ω ++ [(p, .obj C dx (fs2 n d)), (d, .dk (plK n))]) (ρ := rho0 NI [.own p, DL.I n]) (ω2 := ω ++ [(p, .obj C dx (fs3 n d (List.replicate (gs n).length 0))), (d, .dk (plK n))]) ω [(d, .dk (plK n))] rfl ?_ (de_var 0) c.cl c.nG rfl (show 2 < 1000 by decide) (by rw [put3])) (pss_one (no_fld (fs := fs3 n d (List.replicate (gs n).length 0)) (ρ := rho0 NI [.own p, DL.I n]) (Ω := fun e => ω ++ DeskO C dx p d e n (List.replicate (gs n).length 0) []) ω [(d, .dk (plK n))] rfl nw_list (fun e => de_var 0) c.cl c.nE (show 3 < 1000 by decide) (fun e => by rw [put4]; rfl)))) ?_)))) ?_
      · rw [show plK n = kvR (grpT n) (fun k => (k : Int)) ((enD (gsD (gs n))).map Ent.dat).length by rw [el]; rfl]
        refine nw_dc (X := CxF P w K mg base NI "Desk.__init__" s_dinit f cdv A outer s H E) (ω := ω ++ [(p, .obj C dx (fs1 n))]) (ρ := rho0 NI [.own p, DL.I n]) (S := [2, 3]) [("at", 2), ("group", 3)] (xs := (enD (gsD (gs n))).map Ent.dat) (fun k => [some (.own p), some (DL.I n), some (DL.I (k : Nat)), some (GE ((gs n).getD k []))]) (grpT n) (fun k => (k : Int)) rfl sc_dinit.nd
          ?_ (by rw [el]; omega) (by decide) (g := gTup K 2 (gCons (gName 2) (gCons (gName 3) gNil))) ?_ ?_ ?_ ?_ ?_ ?_ ?_
        · exact di_enum false (ds := gsD (gs n)) rfl b.enum (de_call I2 hr1 (da_cons (de_var 1) da_nil) ⟨n, rfl, hn, rfl, rfl⟩)
        · exact fun _ _ _ _ _ => pg_tup rfl (pgs_cons (pg_name (i := 2) sc_dinit.nd rfl (.inl rfl)) (pgs_cons (pg_name (i := 3) sc_dinit.nd rfl (.inl rfl)) pgs_nil))
        · intro k x hx
          obtain ⟨d, hd, rfl⟩ := enD_at hx
          rw [List.getElem?_map] at hd
          cases e : (gs n)[k]? with
          | none => rw [e] at hd; cases hd
          | some g =>
            rw [e] at hd
            cases hd
            have eg : (gs n).getD k [] = g := by rw [List.getD_eq_getElem?_getD, e]; rfl
            rw [eg]
            exact bnd_pair
        · intro s2 H2 C2 cl fp k ωd hk
          rw [el] at hk
          exact de_call I3 (by exact hr1) (da_cons (de_var 3) da_nil) ⟨_, rfl, gs_grp n hn _ (getD_gs hk), rfl, rfl⟩
        · exact fun s2 H2 C2 cl fp k ωd hk => de_var 2
        · intro i j hij hj
          rw [el] at hj
          exact grp_inj n hn j (List.mem_range.mpr hj) i (List.mem_range.mpr hij)
        · kernel_rfl
        · exact fun _ => rfl
      · show DE _ _ _ _ (.dat (.tuple ((List.replicate (gs n).length (0 : Int)).map .int))) _
        rw [← ez]
        have hk : (((plK n).length : Nat) : Int) = ((gs n).length : Int) := by unfold plK; rw [kvR_len]
        exact de_op (o_repT1 ⟨by omega, by omega⟩) (de_tup (ds := [.int 0]) (da_cons de_int da_nil) (show 1 ≤ sizeLine by decide)) (by rw [← hk]; exact de_lenK (d := d) (kvs := plK n) b.len (de_fld (p := p) (C := C) (dx := dx) (fs := fs2 n d) (by simp) (de_var 0) c.cl c.nP (by kernel_rfl)) (by simp))
      · rintro D σ H ⟨hE, q⟩
        exact ⟨hE, fun σ1 H1 x1 E1 => ⟨E1, fun e σ2 H2 fe k2 E2 => q e σ2 H2 (xt_free x1 fe) (x1.keep.trans (by have := k2; rw [x1.dm] at this; exact this)) E2.own⟩⟩
      · rintro D σ H ⟨hE, q⟩
        refine ⟨hE, fun σ1 H1 x1 E1 => ⟨E1, fun σ2 H2 x2 E2 => ⟨E2, fun d σ3 H3 fd k3 E3 => ⟨d, trivial, E3, fun e σ4 H4 fe k4 o4 => q d e σ4 H4 (xt_free x1 (xt_free x2 fd)) (xt_free x1 (xt_free x2 ?_)) (fun b' o nb hb' => ?_) o4⟩⟩⟩⟩
        · cases he : H2 e with
          | none => rfl
          | some u =>
            by_cases z : e ∈ dom ω ++ [p]
            · obtain ⟨u2, hu2⟩ := E3.own.some (a := e) (by
                have : e ∈ dom ω ++ [p, d] := by
                  rcases List.mem_append.mp z with z | z
                  · exact List.mem_append_left _ z
                  · exact List.mem_append_right _ (by simp at z; simp [z])
                simpa [dom] using this)
              rw [fe] at hu2
              cases hu2
            · have := k3 e u (by rw [dm]; exact z) he
              rw [fe] at this
              cases this
        rw [dm] at nb
        have h2 := x2.keep b' o (by rw [dm]; exact nb) (x1.keep b' o (by rw [dm]; exact nb) hb')
        refine k4 b' o (fun z => ?_) (k3 b' o (by rw [dm]; exact nb) h2)
        have z : b' ∈ dom ω ++ [p, d] := by simpa [dom] using z
        rcases List.mem_append.mp z with z | z
        · exact nb (List.mem_append_left _ z)
        · rcases List.mem_cons.mp z with z | z
          · exact nb (List.mem_append_right _ (by simp [z]))
          · exact ne_of_none h2 fd (by simpa using z)
    exact ⟨_, hb, EOk_start ho (.cons rfl (.cons (.ofInt _) .nil)), fun d e σ' H' fd fe k o => q d e H' fd fe k o⟩
end
end G0

set_option Elab.async false
set_option linter.all false
set_option maxRecDepth 100000
set_option maxHeartbeats 4000000
namespace ZM
open PySem PySem.Spec PyProof.Rows L2 DL CB
theorem dt_cast {X : Cx} {ω ω1 : Own} {ρ : Rho} {a : Expr} {k l : Bool} (h : DT X ω ρ a k ω1) (e : k = l) : DT X ω ρ a l ω1 := e ▸ h
theorem o_isNoneO {X : Cx} {o : Option Int} : Op2 X (compareOp .Is) (.dat (optD o)) (.dat .none) (B o.isNone) :=
  ⟨_, op_isN, fun ω x y H Q ow rx ry q => by
    cases ry
    cases o with
    | none => cases rx; exact ⟨rfl, q _ H (.refl ow) (.ofBool _)⟩
    | some n =>
      have e : x = .int n := RE.int rx
      subst e
      exact ⟨rfl, q _ H (.refl ow) (.ofBool _)⟩⟩
end ZM
namespace G0
open PySem PySem.Spec PyProof.Rows L2 DL CB ZM
section
variable {C dx p d e : Addr} {n : Nat} {ws : List Int} {past : List (List Int)} {ωa ωb : Own}
theorem mem_p : (p, OC.obj C dx (deskFs n d e ws)) ∈ ωa ++ (DeskO C dx p d e n ws past ++ ωb) := by unfold DeskO; simp
theorem mem_d : (d, OC.dk (plK n)) ∈ ωa ++ (DeskO C dx p d e n ws past ++ ωb) := by unfold DeskO; simp
theorem mem_e : (e, OC.lst (gsD past)) ∈ ωa ++ (DeskO C dx p d e n ws past ++ ωb) := by unfold DeskO; simp
end
abbrev prt (s : Str) : Str × Str × Str := Txt.partition s " "
/-- a line that sets a worth -/
structure SetL (n : Nat) (line : Str) (k : Nat) (v : Int) : Prop where
  h : valV (plK n) (.inr (prt line).1) = some (.int (k : Int))
  lt : k < (gs n).length
  ok : WOk (prt line).2.2
  v : wwI (prt line).2.2 = some v
  z : line.length ≤ 600
/-- a line that says nothing -/
structure OddL (n : Nat) (line : Str) : Prop where
  h : (valV (plK n) (.inr (prt line).1)).isSome = true → wwI (prt line).2.2 = none
  ok : WOk (prt line).2.2
  z : line.length ≤ 600
def setG (ws : List Int) (k : Nat) (v : Int) : List Int := ws.take k ++ [v] ++ ws.drop (k + 1)
theorem spc_len : ((" " : Str).length == 0) = false := by decide +kernel
def R_none : List Ent → Own → Addr → Own → Prop := fun _ _ _ _ => False
def R_sht (C : Addr) : List Ent → Own → Ent → Own → Prop := fun es ω e ω' => ∃ (ωa ωb : Own) (dx p d q : Addr) (n : Nat) (ws : List Int) (past : List (List Int)) (x : Str), es = [.own p, S x] ∧ (x ∈ names8 ∧ Game n ws) ∧ ω = ωa ++ (DeskO C dx p d q n ws past ++ ωb) ∧ e = S (sharesT (toldL x n) ws) ∧ ω' = ω
def R_setw (C : Addr) : List Ent → Own → Ent → Own → Prop := fun es ω e ω' => ∃ (ωa ωb : Own) (dx p d q : Addr) (n : Nat) (ws : List Int) (past : List (List Int)) (line : Str) (k : Nat) (v : Int), es = [.own p, S line] ∧ (SetL n line k v ∧ Game n ws ∧ past.length ≤ 100) ∧ ω = ωa ++ (DeskO C dx p d q n ws past ++ ωb) ∧ e = .dat .none ∧ ω' = ωa ++ (DeskO C dx p d q n (setG ws k v) (past ++ [ws]) ++ ωb)
def RX_setw (C CI : Addr) : List Ent → Own → Addr → Own → Prop := fun es ω X ω' => ∃ (ωa ωb : Own) (dx p d q : Addr) (n : Nat) (ws : List Int) (past : List (List Int)) (line : Str), es = [.own p, S line] ∧ OddL n line ∧ ω = ωa ++ (DeskO C dx p d q n ws past ++ ωb) ∧ X = CI ∧ ω' = ω
section
variable {P : Program} {w : World} {K : PySem.W.Frag} {mg : Str → Option Value} {base : Heap} {f : Addr} {fd : FuncData}
abbrev NSh : List Str := ["self", "name", "found", "ratio"]
theorem sc_dsht : FnScope NSh ["self", "name"] (defScope s_dsht) := ⟨rfl, rfl, rfl, by decide +kernel, rfl, by decide +kernel, by decide +kernel⟩
theorem ok_dsht {C : Addr} (F : Fun K "_shares_text" "Desk._shares_text" s_dsht f fd) (hm : Meth K C "_shares_text" f) (c : DCl K C) (b : Bare mg) (I1 : DFn P w K mg base 4 "shares" R_shares) (I2 : DFn P w K mg base 5 "told_rule" R_told) (I3 : DFn P w K mg base 1 "ratio_text" R_rt) : DMx P w K mg base 6 C "_shares_text" (R_sht C) R_none := by
  refine dmx_ret F hm (F.binds (ps := ["self", "name"]) fun _ _ _ _ _ _ us hl => match us, hl with | [_, _], _ => rfl) sc_dsht ?_ ?_ ?_ ?_
  · rintro es ω e ω' ⟨_, _, _, _, _, _, _, _, _, _, rfl, _⟩; rfl
  · rintro es ω e ω' z; exact z.elim
  · rintro cdv A outer s H E hr es ω e ω' ⟨ωa, ωb, dx, p, d, q, n, ws, past, x, rfl, ⟨hx, g⟩, hω, rfl, rfl⟩
    have hn := g.len.hn
    have R := told_rule hn hx
    have hs := share_ok R g
    have hl : (sharesL (toldL x n) ws).length ≤ 4 := by
      show ((toldL x n).map _).length ≤ 4
      rw [List.length_map, R.l]
      exact hn.le.2
    refine dr_cons (dn_set 2 (e := .dat (rowD (sharesL (toldL x n) ws))) sc_dsht.nd (de_call I1 (hr.mono (by decide)) (da_cons (de_call I2 hr (da_cons (de_var 1) (da_cons (de_fld (p := p) (C := C) (dx := dx) (fs := deskFs n d q ws) (by rw [hω]; exact mem_p) (de_var 0) c.cl c.nM (at_many _ _ _ _)) da_nil)) ⟨x, n, rfl, ⟨hx, hn⟩, rfl, rfl⟩)
      (da_cons (de_fld (p := p) (C := C) (dx := dx) (fs := deskFs n d q ws) (by rw [hω]; exact mem_p) (de_var 0) c.cl c.nG (at_game _ _ _ _)) da_nil)) ⟨n, toldL x n, ws, rfl, ⟨R, g⟩, rfl, rfl⟩)) ?_
    refine dr_ret (de_join (x := " ") (ys := (sharesL (toldL x n) ws).map ratT) de_str ?_ ?_)
    · rw [List.map_map]
      have em : (sharesL (toldL x n) ws).map (fun r => Ent.dat (ratD r)) = ((sharesL (toldL x n) ws).map ratD).map Ent.dat := by rw [List.map_map]; rfl
      exact de_mapA [("ratio", 3)] (as := sharesL (toldL x n) ws) (enc := fun r => .dat (ratD r)) _ (fun r => .str (ratT r)) rfl sc_dsht.nd (by rw [em]; exact di_tup (de_var 2)) (fun _ _ _ _ _ => pg_name (i := 3) sc_dsht.nd rfl (Or.inl rfl)) (fun x hx => bnd_name) (fun _ _ _ _ _ ωd r hr' => de_call I3 (by exact hr.mono (by decide)) (da_cons (de_var 3) da_nil) ⟨r, rfl, hs r hr', rfl, rfl⟩) (by omega)
    · have h1 := sum_le 4000 (((sharesL (toldL x n) ws).map ratT).map (·.length)) fun y hy => by
        obtain ⟨s, hs', rfl⟩ := List.mem_map.mp hy
        obtain ⟨r, hr', rfl⟩ := List.mem_map.mp hs'
        exact ratT_len (hs r hr')
      rw [List.length_map, List.length_map] at h1
      rw [List.length_map, show (" " : Str).length = 1 by decide +kernel]
      omega
  · rintro cdv A outer s H E hr tk es ω X ω' z
    exact z.elim
abbrev NSw : List Str := ["self", "line", "group", "_", "number", "value", "at"]
theorem sc_dset : FnScope NSw ["self", "line"] (defScope s_dset) := ⟨rfl, rfl, rfl, by decide +kernel, rfl, by decide +kernel, by decide +kernel⟩
theorem ok_dset {C CI : Addr} (F : Fun K "_set_worth" "Desk._set_worth" s_dset f fd) (hm : Meth K C "_set_worth" f) (c : DCl K C) (b : Bare mg) (xc : XC K mg "InvalidText" CI) (I1 : DFn P w K mg base 2 "written_worth" R_ww) : DMx P w K mg base 3 C "_set_worth" (R_setw C) (RX_setw C CI) := by
  refine dmx_none F hm (F.binds (ps := ["self", "line"]) fun _ _ _ _ _ _ us hl => match us, hl with | [_, _], _ => rfl) sc_dset ?_ ?_ ?_ ?_ ?_
  · rintro es ω e ω' ⟨_, _, _, _, _, _, _, _, _, _, _, _, rfl, _⟩; rfl
  · rintro es ω e ω' ⟨_, _, _, _, _, _, _, _, _, _, rfl, _⟩; rfl
  · rintro es ω e ω' ⟨_, _, _, _, _, _, _, _, _, _, _, _, _, _, _, rfl, _⟩; rfl
  · rintro cdv A outer s H E hr es ω e ω' ⟨ωa, ωb, dx, p, d, q, n, ws, past, line, k, v, rfl, ⟨hL, g, hp⟩, rfl, rfl, rfl⟩
    have hu : cLine > ((CxX P w K mg base NSw "Desk._set_worth" s_dset f cdv A outer s H E).A).units + 64 := hr.units
    have hz := g.len.z
    have hlt := hL.lt
    have hwl := g.len.l
    have ev : wwD (prt line).2.2 = .int v := by show optD (wwI _) = _; rw [hL.v]
    have eg : PyData.tuple ((ws.map PyData.int).take (k : Int).toNat ++ [.int v] ++ (ws.map PyData.int).drop ((k : Int) + 1).toNat) = tupI (setG ws k v) := by
      show _ = PyData.tuple ((ws.take k ++ [v] ++ ws.drop (k + 1)).map .int)
      rw [List.map_append, List.map_append, List.map_take, List.map_drop, show ((k : Int) + 1).toNat = k + 1 by omega, show (k : Int).toNat = k by omega]
      rfl
    refine ⟨[some (.own p), some (S line), some (S (prt line).1), some (S (prt line).2.1), some (S (prt line).2.2), some (.dat (wwD (prt line).2.2)), some (DL.I (k : Int))], dns_cons (dn_bind (S := [2, 3, 4]) (de_partition (de_var 1) de_str spc_len (Nat.le_trans hL.z (by rw [sizeLine_eq]; decide))) (pg_tup rfl (pgs_cons (pg_name (i := 2) sc_dset.nd rfl (.inl rfl)) (pgs_cons (pg_name (i := 3) sc_dset.nd rfl (.inl rfl)) (pgs_cons (pg_name (i := 4) sc_dset.nd rfl (.inl rfl)) pgs_nil)))) bnd_tri) ?_⟩
    refine dns_cons (dn_set 5 (e := .dat (wwD (prt line).2.2)) sc_dset.nd (de_call I1 hr (da_cons (de_var 4) da_nil) ⟨_, rfl, hL.ok, rfl, rfl⟩)) ?_
    refine dns_cons (dn_ifF (ω1 := ωa ++ (DeskO C dx p d q n ws past ++ ωb)) (dt_w (dw_or (k := false) (l := false) ?_ fun _ => dw_or1 ?_))) ?_
    · exact dt_cast (dt_notinK (by omega) (de_var 2) (de_fld (p := p) (C := C) (dx := dx) (fs := deskFs n d q ws) mem_p (de_var 0) c.cl c.nP (at_places _ _ _ _)) mem_d) (by rw [hL.h]; rfl)
    · exact dt_cast (dt_cmp o_isNoneO (de_var 5) de_non) (by rw [hL.v]; rfl)
    refine dns_cons (dn_set 6 (e := DL.I (k : Int)) sc_dset.nd (de_kget (d := d) (kvs := plK n) (x := (prt line).1) (by omega) (de_fld (p := p) (C := C) (dx := dx) (fs := deskFs n d q ws) mem_p (de_var 0) c.cl c.nP (at_places _ _ _ _)) (de_var 2) mem_d hL.h)) ?_
    refine dns_cons (dn_append (p := q) (ds := gsD past) (d := tupI ws) (ω1 := ωa ++ (DeskO C dx p d q n ws (past ++ [ws]) ++ ωb)) (ωa ++ [(p, .obj C dx (deskFs n d q ws)), (d, .dk (plK n))]) ωb (by unfold DeskO; simp) (de_fld (p := p) (C := C) (dx := dx) (fs := deskFs n d q ws) mem_p (de_var 0) c.cl c.nE (at_earlier _ _ _ _)) (de_fld (p := p) (C := C) (dx := dx) (fs := deskFs n d q ws) mem_p (de_var 0) c.cl c.nG (at_game _ _ _ _)) (by rw [List.length_map]; omega) (by unfold DeskO; simp)) ?_
    refine dns_one (dn_fld (p := p) (C := C) (dx := dx) (fs := deskFs n d q ws) ωa ([(d, .dk (plK n)), (q, .lst (gsD (past ++ [ws])))] ++ ωb) rfl (e := .dat (tupI (setG ws k v))) ?_ (de_var 0) c.cl c.nG rfl (show 4 < 1000 by decide) (by rw [put_game]; rfl))
    rw [← eg]
    have gm : ∀ {pa pb : Pos}, DE (CxX P w K mg base NSw "Desk._set_worth" s_dset f cdv A outer s H E) (ωa ++ (DeskO C dx p d q n ws (past ++ [ws]) ++ ωb)) [some (.own p), some (S line), some (S (prt line).1), some (S (prt line).2.1), some (S (prt line).2.2), some (.dat (wwD (prt line).2.2)), some (DL.I (k : Int))] (.Attribute (.Name "self" pa) "_game" pb) (.dat (tupI ws)) (ωa ++ (DeskO C dx p d q n ws (past ++ [ws]) ++ ωb)) := fun {_ _} => de_fld (p := p) (C := C) (dx := dx) (fs := deskFs n d q ws) mem_p (de_var 0) c.cl c.nG (at_game _ _ _ _)
    refine de_op (o_catA ?_) (de_op (o_catA ?_) (de_takeT gm (de_var 6) (by omega)) (de_tup (ds := [.int v]) (da_cons (by rw [← ev]; exact de_var 5) da_nil) (show 1 ≤ sizeLine by decide))) (cut_dropT gm (de_op o_add (de_var 6) de_int) (by omega))
    · simp only [List.length_append, List.length_take, List.length_drop, List.length_map, List.length_singleton, sizeLine_eq]
      omega
    · simp only [List.length_append, List.length_take, List.length_drop, List.length_map, List.length_singleton, sizeLine_eq]
      omega
  · rintro cdv A outer s H E hr tk es ω X ω' ⟨ωa, ωb, dx, p, d, q, n, ws, past, line, rfl, hL, rfl, rfl, rfl⟩
    have hu : cLine > ((CxX P w K mg base NSw "Desk._set_worth" s_dset f cdv A outer s H E).A).units + 64 := hr.units
    refine drx_cons (dn_bind (S := [2, 3, 4]) (de_partition (de_var 1) de_str spc_len (Nat.le_trans hL.z (by rw [sizeLine_eq]; decide))) (pg_tup rfl (pgs_cons (pg_name (i := 2) sc_dset.nd rfl (.inl rfl)) (pgs_cons (pg_name (i := 3) sc_dset.nd rfl (.inl rfl)) (pgs_cons (pg_name (i := 4) sc_dset.nd rfl (.inl rfl)) pgs_nil)))) bnd_tri) ?_
    refine drx_cons (dn_set 5 (e := .dat (wwD (prt line).2.2)) sc_dset.nd (de_call I1 hr (da_cons (de_var 4) da_nil) ⟨_, rfl, hL.ok, rfl, rfl⟩)) ?_
    refine drx_ifT' (dt_w (dw_or (dt_notinK (by omega) (de_var 2) (de_fld (p := p) (C := C) (dx := dx) (fs := deskFs n d q ws) mem_p (de_var 0) c.cl c.nP (at_places _ _ _ _)) mem_d) fun _ => dw_or1 (dt_cmp o_isNoneO (de_var 5) de_non))) ?_ (drx_raise rfl tk xc)
    cases hv : (valV (plK n) (.inr (prt line).1)).isSome with
    | false => rfl
    | true =>
      rw [hL.h hv]
      rfl
end
end G0

set_option Elab.async false
set_option linter.all false
set_option maxRecDepth 100000
set_option maxHeartbeats 4000000
namespace G0
open PySem PySem.Spec PyProof.Rows L2 DL CB ZM
/-- what a line does -/
inductive RunR (n : Nat) (ws : List Int) (past : List (List Int)) (line : Str) : Ent → List Int → List (List Int) → Prop
  | name (h : line ∈ names8) : RunR n ws past line (S (sharesT (toldL line n) ws)) ws past
  | grp (k : Nat) (h0 : line ∉ names8) (h : valV (plK n) (.inr line) = some (.int (k : Int))) (lt : k < (gs n).length) : RunR n ws past line (S (toS (ws.getD k 0))) ws past
  | set (k : Nat) (v : Int) (h0 : line ∉ names8) (h : valV (plK n) (.inr line) = none) (hL : SetL n line k v) (hp : past.length ≤ 100) : RunR n ws past line (.dat .none) (setG ws k v) (past ++ [ws])
def R_run (C : Addr) : List Ent → Own → Ent → Own → Prop := fun es ω e ω' => ∃ (ωa ωb : Own) (dx p d q : Addr) (n : Nat) (ws : List Int) (past : List (List Int)) (line : Str) (us : List Int) (later : List (List Int)), es = [.own p, S line] ∧ (Game n ws ∧ RunR n ws past line e us later) ∧ ω = ωa ++ (DeskO C dx p d q n ws past ++ ωb) ∧ ω' = ωa ++ (DeskO C dx p d q n us later ++ ωb)
def RX_run (C CI CN : Addr) : List Ent → Own → Addr → Own → Prop := fun es ω X ω' => (∃ (p : Addr) (dd : PyData), es = [.own p, .dat dd] ∧ kitB (tyD dd) "str" = some false ∧ X = CN ∧ ω' = ω) ∨
  ∃ (ωa ωb : Own) (dx p d q : Addr) (n : Nat) (ws : List Int) (past : List (List Int)) (line : Str), es = [.own p, S line] ∧ (line ∉ names8 ∧ valV (plK n) (.inr line) = none ∧ OddL n line) ∧ ω = ωa ++ (DeskO C dx p d q n ws past ++ ωb) ∧ X = CI ∧ ω' = ω
def R_undo (C : Addr) : List Ent → Own → Ent → Own → Prop := fun es ω e ω' => ∃ (ωa ωb : Own) (dx p d q : Addr) (n : Nat) (ws us : List Int) (past : List (List Int)), es = [.own p] ∧ ω = ωa ++ (DeskO C dx p d q n ws (past ++ [us]) ++ ωb) ∧ e = .dat .none ∧ ω' = ωa ++ (DeskO C dx p d q n us past ++ ωb)
def RX_undo (C CU : Addr) : List Ent → Own → Addr → Own → Prop := fun es ω X ω' => ∃ (ωa ωb : Own) (dx p d q : Addr) (n : Nat) (ws : List Int), es = [.own p] ∧ ω = ωa ++ (DeskO C dx p d q n ws [] ++ ωb) ∧ X = CU ∧ ω' = ω
def R_gm (C : Addr) : List Ent → Own → Ent → Own → Prop := fun es ω e ω' => ∃ (ωa ωb : Own) (dx p d q : Addr) (n : Nat) (ws : List Int) (past : List (List Int)), es = [.own p] ∧ ω = ωa ++ (DeskO C dx p d q n ws past ++ ωb) ∧ e = .dat (tupI ws) ∧ ω' = ω
theorem dom_desk {C dx p d q : Addr} {n : Nat} {ws us : List Int} {past later : List (List Int)} {ωa ωb : Own} : dom (ωa ++ (DeskO C dx p d q n us later ++ ωb)) = dom (ωa ++ (DeskO C dx p d q n ws past ++ ωb)) := by
  unfold DeskO
  simp [dom]
section
variable {P : Program} {w : World} {K : PySem.W.Frag} {mg : Str → Option Value} {base : Heap} {f : Addr} {fd : FuncData}
theorem sc_dgame : FnScope ["self"] ["self"] (defScope s_dgame) := ⟨rfl, rfl, rfl, by decide +kernel, rfl, by decide +kernel, by decide +kernel⟩
theorem ok_dgame {C : Addr} (F : Fun K "game" "Desk.game" s_dgame f fd) (c : DCl K C) : FnOk P w K mg base CX0 1 f fd ["self"] (dsp (R_gm C)) := by
  refine F.ok sc_dgame (fun vs H Q E ⟨es, ω, e, ω', r, o, rs, q⟩ => ?_) (fun cdv A outer s H vs Q E hr ⟨es, ω, e, ω', r, o, rs, q⟩ => ?_)
  · obtain ⟨_, _, _, _, _, _, _, _, _, rfl, _⟩ := r
    exact rs.length.symm
  · obtain ⟨ωa, ωb, dx, p, d, qq, n, ws, past, rfl, rfl, rfl, rfl⟩ := r
    exact ⟨_, dr_ret (de_fld (p := p) (C := C) (dx := dx) (fs := deskFs n d qq ws) mem_p (de_var 0) c.cl c.nG (at_game _ _ _ _)), EOk_start o rs, q⟩
theorem sc_drun : FnScope ["self", "line"] ["self", "line"] (defScope s_drun) := ⟨rfl, rfl, rfl, by decide +kernel, rfl, by decide +kernel, by decide +kernel⟩
theorem ok_drun {C CI CN : Addr} (F : Fun K "run" "Desk.run" s_drun f fd) (hm : Meth K C "run" f) (c : DCl K C) (b : Bare mg) (I1 : DFx P w K mg base 1 "check_text" R_ctext (RX_ctext CN)) (I2 : DFn P w K mg base 1 "names" R_names) (M1 : DMx P w K mg base 6 C "_shares_text" (R_sht C) R_none) (M2 : DMx P w K mg base 3 C "_set_worth" (R_setw C) (RX_setw C CI)) :
    DMx P w K mg base 7 C "run" (R_run C) (RX_run C CI CN) := by
  refine dmx_ret F hm (F.binds (ps := ["self", "line"]) fun _ _ _ _ _ _ us hl => match us, hl with | [_, _], _ => rfl) sc_drun ?_ ?_ ?_ ?_
  · rintro es ω e ω' ⟨_, _, _, _, _, _, _, _, _, _, _, _, rfl, _⟩; rfl
  · rintro es ω e ω' (⟨_, _, rfl, _⟩ | ⟨_, _, _, _, _, _, _, _, _, _, rfl, _⟩) <;> rfl
  · rintro cdv A outer s H E hr es ω e ω' ⟨ωa, ωb, dx, p, d, q, n, ws, past, line, us, later, rfl, ⟨g, r⟩, rfl, rfl⟩
    have hu : cLine > ((CxX P w K mg base ["self", "line"] "Desk.run" s_drun f cdv A outer s H E).A).units + 64 := hr.units
    have hr1 : Room 1 _ := hr.mono (by decide)
    have hr3 : Room 3 _ := hr.mono (by decide)
    refine dr_cons (dn_expr (de_callX I1 hr1 (da_cons (de_var 1) da_nil) ⟨line, rfl, rfl, rfl⟩)) ?_
    cases r with
    | name h =>
      exact dr_ifT (dt_cast (dt_cmp o_inTS (de_var 1) (de_call0 I2 hr1 ⟨rfl, rfl, rfl⟩)) (decide_eq_true h))
        (dr_ret (de_meth M1 hr c.cl (p := p) (dx := dx) (fs := deskFs n d q ws) (de_var 0) mem_p (da_cons (de_var 1) da_nil) ⟨ωa, ωb, dx, p, d, q, n, ws, past, line, rfl, ⟨h, g⟩, rfl, rfl, rfl⟩ (by kernel_rfl)))
    | grp k h0 h lt =>
      have hwl := g.len.l
      have hv : -1000 ≤ ws.getD k 0 ∧ ws.getD k 0 ≤ 1000 := by
        rw [List.getD_eq_getElem?_getD, List.getElem?_eq_getElem (by omega)]
        exact g.le _ (List.getElem_mem _)
      refine dr_ifF (dt_cast (dt_cmp o_inTS (de_var 1) (de_call0 I2 hr1 ⟨rfl, rfl, rfl⟩)) (decide_eq_false h0)) ?_
      refine dr_ifT (dt_cast (dt_inK (d := d) (kvs := plK n) (x := line) (by omega) (de_var 1) (de_fld (p := p) (C := C) (dx := dx) (fs := deskFs n d q ws) mem_p (de_var 0) c.cl c.nP (at_places _ _ _ _)) mem_d) (by rw [h]; rfl)) ?_
      refine dr_ret (de_callT (c_strI (log_1000 hv)) b.str boot_str (da_cons (de_ixT (ds := ws.map .int) (i := (k : Int)) (de_fld (p := p) (C := C) (dx := dx) (fs := deskFs n d q ws) mem_p (de_var 0) c.cl c.nG (at_game _ _ _ _)) (de_kget (d := d) (kvs := plK n) (x := line) (by omega) (de_fld (p := p) (C := C) (dx := dx) (fs := deskFs n d q ws) mem_p (de_var 0) c.cl c.nP (at_places _ _ _ _)) (de_var 1) mem_d h) ?_) da_nil))
      have key := atI_map (l := ws) (g := PyData.int) (i := (k : Int)) (d := 0) (by omega) (by show k < _; omega)
      exact key
    | set k v h0 h hL hp =>
      refine dr_ifF (dt_cast (dt_cmp o_inTS (de_var 1) (de_call0 I2 hr1 ⟨rfl, rfl, rfl⟩)) (decide_eq_false h0)) ?_
      refine dr_ifF (dt_cast (dt_inK (d := d) (kvs := plK n) (x := line) (by omega) (de_var 1) (de_fld (p := p) (C := C) (dx := dx) (fs := deskFs n d q ws) mem_p (de_var 0) c.cl c.nP (at_places _ _ _ _)) mem_d) (by rw [h]; rfl)) ?_
      exact dr_cons (dn_expr (de_meth M2 hr3 c.cl (p := p) (dx := dx) (fs := deskFs n d q ws) (de_var 0) mem_p (da_cons (de_var 1) da_nil) ⟨ωa, ωb, dx, p, d, q, n, ws, past, line, k, v, rfl, ⟨hL, g, hp⟩, rfl, rfl, rfl⟩ (by kernel_rfl) dom_desk)) (dr_ret de_non)
  · rintro cdv A outer s H E hr tk es ω X ω' (⟨p, dd, rfl, hd, rfl, rfl⟩ | ⟨ωa, ωb, dx, p, d, q, n, ws, past, line, rfl, ⟨h0, h, hL⟩, rfl, rfl, rfl⟩)
    · exact drx_expr (dex_call I1 tk (hr.mono (by decide)) (da_cons (de_var 1) da_nil) ⟨dd, rfl, hd, rfl, rfl⟩)
    · have hu : cLine > ((CxX P w K mg base ["self", "line"] "Desk.run" s_drun f cdv A outer s H E).A).units + 64 := hr.units
      have hr1 : Room 1 _ := hr.mono (by decide)
      have hr3 : Room 3 _ := hr.mono (by decide)
      refine drx_cons (dn_expr (de_callX I1 hr1 (da_cons (de_var 1) da_nil) ⟨line, rfl, rfl, rfl⟩)) ?_
      refine drx_ifF (dt_cast (dt_cmp o_inTS (de_var 1) (de_call0 I2 hr1 ⟨rfl, rfl, rfl⟩)) (decide_eq_false h0)) ?_
      refine drx_ifF (dt_cast (dt_inK (d := d) (kvs := plK n) (x := line) (by omega) (de_var 1) (de_fld (p := p) (C := C) (dx := dx) (fs := deskFs n d q ws) mem_p (de_var 0) c.cl c.nP (at_places _ _ _ _)) mem_d) (by rw [h]; rfl)) ?_
      exact drx_expr (dex_meth M2 tk hr3 c.cl (p := p) (dx := dx) (fs := deskFs n d q ws) (de_var 0) mem_p (da_cons (de_var 1) da_nil) ⟨ωa, ωb, dx, p, d, q, n, ws, past, line, rfl, hL, rfl, rfl, rfl⟩ (by kernel_rfl))
theorem sc_dundo : FnScope ["self"] ["self"] (defScope s_dundo) := ⟨rfl, rfl, rfl, by decide +kernel, rfl, by decide +kernel, by decide +kernel⟩
theorem ok_dundo {C CU : Addr} (F : Fun K "undo" "Desk.undo" s_dundo f fd) (hm : Meth K C "undo" f) (c : DCl K C) (xc : XC K mg "NothingToUndo" CU) : DMx P w K mg base 1 C "undo" (R_undo C) (RX_undo C CU) := by
  refine dmx_none F hm (F.binds (ps := ["self"]) fun _ _ _ _ _ _ us hl => match us, hl with | [_], _ => rfl) sc_dundo ?_ ?_ ?_ ?_ ?_
  · rintro es ω e ω' ⟨_, _, _, _, _, _, _, _, _, _, rfl, _⟩; rfl
  · rintro es ω e ω' ⟨_, _, _, _, _, _, _, _, rfl, _⟩; rfl
  · rintro es ω e ω' ⟨_, _, _, _, _, _, _, _, _, _, _, _, rfl, _⟩; rfl
  · rintro cdv A outer s H E hr es ω e ω' ⟨ωa, ωb, dx, p, d, q, n, ws, us, past, rfl, rfl, rfl, rfl⟩
    refine ⟨rho0 ["self"] [.own p], dns_cons (dn_ifF (ω1 := ωa ++ (DeskO C dx p d q n ws (past ++ [us]) ++ ωb)) (dt_cast (dt_not (dt_truthL (d := q) (ds := gsD (past ++ [us])) (de_fld (p := p) (C := C) (dx := dx) (fs := deskFs n d q ws) mem_p (de_var 0) c.cl c.nE (at_earlier _ _ _ _)) mem_e)) (by simp))) ?_⟩
    refine dns_one (dn_fld (p := p) (C := C) (dx := dx) (fs := deskFs n d q ws) (ω1 := ωa ++ (DeskO C dx p d q n ws past ++ ωb)) ωa ([(d, .dk (plK n)), (q, .lst (gsD past))] ++ ωb) rfl (e := .dat (tupI us)) ?_ (de_var 0) c.cl c.nG rfl (show 4 < 1000 by decide) (by rw [put_game]; rfl))
    exact de_pop (d := q) (ds := gsD past) (dd := tupI us) (ω1 := ωa ++ (DeskO C dx p d q n ws (past ++ [us]) ++ ωb)) (ωa ++ [(p, .obj C dx (deskFs n d q ws)), (d, .dk (plK n))]) ωb (by unfold DeskO; simp) (de_fld (p := p) (C := C) (dx := dx) (fs := deskFs n d q ws) mem_p (de_var 0) c.cl c.nE (at_earlier _ _ _ _)) (by unfold DeskO; simp)
  · rintro cdv A outer s H E hr tk es ω X ω' ⟨ωa, ωb, dx, p, d, q, n, ws, rfl, rfl, rfl, rfl⟩
    exact drx_ifT (dt_cast (dt_not (dt_truthL (d := q) (ds := gsD []) (de_fld (p := p) (C := C) (dx := dx) (fs := deskFs n d q ws) mem_p (de_var 0) c.cl c.nE (at_earlier _ _ _ _)) mem_e)) rfl) (drx_raise rfl tk xc)
end
end G0

set_option Elab.async false
set_option linter.all false
set_option maxRecDepth 100000
set_option maxHeartbeats 4000000
namespace ZM
open PySem PySem.Spec PyProof.Rows L2 DL CB
theorem lay_strs : ∀ l : List Str, (∀ x ∈ l, PyData.strOk x = true) → PyData.canLayAll0 (l.map .str) = true ∧ PyData.depthAll (l.map .str) ≤ 1
  | [], _ => ⟨rfl, by decide⟩
  | x :: l, h => by
    obtain ⟨h1, h2⟩ := lay_strs l fun y m => h y (List.mem_cons_of_mem _ m)
    refine ⟨?_, ?_⟩
    · show (PyData.strOk x && PyData.canLayAll0 (l.map .str)) = true
      rw [h1, h x List.mem_cons_self]; rfl
    · show max 0 (PyData.depthAll (l.map .str)) ≤ 1
      omega
theorem shaped_strs {l : List Str} (h : ∀ x ∈ l, PyData.strOk x = true) : SeqAt.shaped (.list (l.map .str)) = true := by
  obtain ⟨h1, h2⟩ := lay_strs l h
  unfold SeqAt.shaped
  have e1 : PyData.canLay0 (.list (l.map .str)) = true := h1
  have e2 : PyData.depth (.list (l.map .str)) ≤ 64 := by
    show (PyData.depthAll (l.map .str)) + 1 ≤ 64
    omega
  rw [e1, decide_eq_true e2]
  rfl
theorem o_neStrs {X : Cx} (hu : X.A.units + 64 < cLine) {l : List Str} (h : ∀ x ∈ l, PyData.strOk x = true) : Op2 X (compareOp .NotEq) (.dat (.list (l.map .str))) (.dat (.list (l.map .str))) (B false) := by
  have q := o_neD hu (d := .list (l.map .str)) (e := .list (l.map .str)) (shaped_strs h) (shaped_strs h)
  rw [show PyData.eqv (.list (l.map .str)) (.list (l.map .str)) = true from SeqAt.eqv_refl _ (lay_strs l h).1] at q
  exact q
theorem o_eqST {X : Cx} {x : Str} : Op2 X (compareOp .Eq) (S x) (S x) (B true) := by
  have q := o_eqS (X := X) (x := x) (y := x)
  rw [decide_eq_true rfl] at q
  exact q
end ZM
namespace G0
open PySem PySem.Spec PyProof.Rows L2 DL CB ZM
section
variable {P : Program} {w : World} {K : PySem.W.Frag} {mg : Str → Option Value} {base : Heap} {f : Addr} {fd : FuncData}
/-! ### _law_told -/
abbrev s_lt : Stmt := topS 68
abbrev NT : List Str := ["work", "e", "known"]
theorem sc_lt : FnScope NT ["work"] (defScope s_lt) := ⟨rfl, rfl, rfl, by decide +kernel, rfl, by decide +kernel, by decide +kernel⟩
/-- what the head says of the classes of errors -/
structure ErrD (K : PySem.W.Frag) (mg : Str → Option Value) (CS CI CN CU : Addr) : Prop where
  gS : mg "ShareError" = some (.ref CS)
  gI : mg "InvalidText" = some (.ref CI)
  gN : mg "NotText" = some (.ref CN)
  gU : mg "NothingToUndo" = some (.ref CU)
/-- of one of them -/
structure ErrC (K : PySem.W.Frag) (CS CI CN CU C : Addr) (b1 b2 b3 : Bool) : Prop where
  e : ExcC K C
  m : PySem.W.exmOne K (.ref C) (.ref CS) = some true
  k1 : PySem.W.kitOne K (.ref C) (.ref CI) = some b1
  k2 : PySem.W.kitOne K (.ref C) (.ref CN) = some b2
  k3 : PySem.W.kitOne K (.ref C) (.ref CU) = some b3
theorem told_C {X : Cx} {g CS CI CN CU C : Addr} {cdg : Value} {q word : Str} {b1 b2 b3 : Bool} (j : Nat) (T : ErrD X.K X.mg CS CI CN CU) (hC : ErrC X.K CS CI CN CU C b1 b2 b3) (bi : X.mg "isinstance" = none) (hj : [b1, b2, b3][j]? = some true) (hno : ∀ m, m < j → [b1, b2, b3][m]? = some false) (hn : [b1, b2, b3].count true = 1)
    (hw : L2.atI [PyData.str "invalid", .str "text", .str "undo"] (j : Int) = some (.str word)) : LamX.GivesTo X NT "_law_told" (defScope s_lt) g cdg (defBody s_lt) "work" q (TTw CS C word) := by
  refine told_suite (by decide) rfl rfl T.gS (by decide) (fun _ _ => rfl) (fun _ => rfl) hC.m fun s H a oe pn hz hf => ?_
  refine dr_cons (dn_set 2 (e := .dat (.list ([b1, b2, b3].map .bool))) sc_lt.nd (de_lst (ds := [b1, b2, b3].map .bool) (da_cons (de_callB (c_isE hC.e hz hf hC.k1) bi boot_isinstance (da_cons (de_var 1) (da_cons (de_globR T.gI) da_nil))) (da_cons (de_callB (c_isE hC.e hz hf hC.k2) bi boot_isinstance (da_cons (de_var 1) (da_cons (de_globR T.gN) da_nil))) (da_cons (de_callB (c_isE hC.e hz hf hC.k3) bi boot_isinstance (da_cons (de_var 1) (da_cons (de_globR T.gU) da_nil))) da_nil))) (show 3 ≤ sizeLine by decide))) ?_
  refine dr_ret (de_if (k := true) (dt_cast (dt_cmp o_eqI (de_countB (bs := [b1, b2, b3]) (de_var 2) de_bl) de_int) (decide_eq_true (by rw [hn]; rfl))) (fun _ => ?_) fun z => nomatch z)
  exact de_ixL (ds := [.str "invalid", .str "text", .str "undo"]) (de_lst (ds := [.str "invalid", .str "text", .str "undo"]) (da_cons de_str (da_cons de_str (da_cons de_str da_nil))) (show 3 ≤ sizeLine by decide)) (de_indexB j (bs := [b1, b2, b3]) (de_var 2) de_bl hj hno) hw
/-! ### _law_name -/
abbrev s_lname : Stmt := topS 69
theorem sc_lname : FnScope ["group", "who"] ["group"] (defScope s_lname) := ⟨rfl, rfl, rfl, by decide +kernel, rfl, by decide +kernel, by decide +kernel⟩
theorem ok_lname (F : Fun K "_law_name" "_law_name" s_lname f fd) (hm : mg "_law_name" = some (.ref f)) (b : Bare mg) : DFn P w K mg base 1 "_law_name" R_gt := by
  refine dfn_ret F hm (F.binds (ps := ["group"]) fun _ _ _ _ _ _ us hl => match us, hl with | [_], _ => rfl) sc_lname ?_ ?_
  · rintro es ω e ω' ⟨g, rfl, _⟩; rfl
  · rintro cdv A outer s H E hr es _ e ω ⟨g, rfl, ⟨hz, hv⟩, rfl, rfl⟩
    refine dr_ret (de_join (x := "+") (ys := g.map toS) de_str ?_ (strs_plus hv hz))
    rw [List.map_map]
    exact de_mapA [("who", 1)] (as := g) (enc := DL.I) _ (fun v => .str (toS v)) rfl sc_lname.nd (di_tupI (de_var 0)) (fun _ _ _ _ _ => pg_name (i := 1) sc_lname.nd rfl (Or.inl rfl)) (fun x hx => bnd_name) (fun _ _ _ _ _ ωd v hx => de_callT (c_strI (log_60 (by have := hv v hx; omega))) b.str boot_str (da_cons (de_var 1) da_nil)) (by omega)
/-! ### _law_shown -/
abbrev s_shn : Stmt := topS 70
abbrev NSn : List Str := ["desk", "many", "game", "row", "some", "group", "own", "name", "top", "low", "due"]
theorem sc_shn : FnScope NSn ["desk", "many", "game", "row"] (defScope s_shn) := ⟨rfl, rfl, rfl, by decide +kernel, rfl, by decide +kernel, by decide +kernel⟩
def R_shn (K : PySem.W.Frag) (C : Addr) : List Ent → Own → Ent → Own → Prop := fun es ω e ω' => ∃ (r scr : Addr) (ns : List Int) (t : St3) (dx p d q : Addr) (n : Nat) (ws : List Int) (past : List (List Int)), es = [.own p, DL.I n, .dat (lstI ws), .own r] ∧ (Game n ws ∧ 0 ≤ t.k) ∧ ω = (r, t.oc K scr ns) :: DeskO C dx p d q n ws past ∧ e = B true ∧ ω' = (r, (takenS ns t 8).oc K scr ns) :: DeskO C dx p d q n ws past
theorem toS_oks : ∀ i ∈ List.range 2001, PyData.strOk (toS ((i : Int) - 1000)) = true := by decide +kernel
theorem toS_strOk {v : Int} (h : -1000 ≤ v ∧ v ≤ 1000) : PyData.strOk (toS v) = true := by
  have q := toS_oks (v + 1000).toNat (List.mem_range.mpr (by omega))
  have e : (((v + 1000).toNat : Nat) : Int) - 1000 = v := by omega
  rw [e] at q
  exact q
theorem range_gs (l : List (List Int)) : (List.range l.length).map (fun k => GE (l.getD k [])) = (gsD l).map Ent.dat := by
  refine List.ext_getElem (by simp) fun i h1 h2 => ?_
  have hi : i < l.length := by simpa using h1
  simp [List.getD_eq_getElem?_getD, hi]
theorem range_ws {ws : List Int} {m : Nat} (h : ws.length = m) : (List.range m).map (fun k => PyData.str (toS (ws.getD k 0))) = (ws.map toS).map .str := by
  subst h
  refine List.ext_getElem (by simp) fun i h1 h2 => ?_
  have hi : i < ws.length := by simpa using h1
  simp [List.getD_eq_getElem?_getD, hi]
theorem grp_name : ∀ n ∈ [2, 3, 4], ∀ k ∈ List.range (gs n).length, grpT n k ∉ names8 := by decide +kernel
theorem ok_shn {C : Addr} {gp pr : Addr} {fp : FuncData} {CI CN : Addr} (F : Fun K "_law_shown" "_law_shown" s_shn f fd) (hm : mg "_law_shown" = some (.ref f)) (b : Bare mg) (c : DCl K C) (hp : PropOf K C "game" pr gp) (G : FnOk P w K mg base CX0 1 gp fp ["self"] (dsp (R_gm C))) (hbp : Binds K fp ["self"] []) (M : DMx P w K mg base 7 C "run" (R_run C) (RX_run C CI CN))
    (I1 : DFn P w K mg base 1 "_law_groups" R_lgs) (I2 : DFn P w K mg base 2 "_law_alike" (R_alike 1)) (I3 : DFn P w K mg base 1 "_law_name" R_gt) (I4 : DFn P w K mg base 2 "_law_pick" (R_pick K)) (I5 : DFn P w K mg base 1 "_law_names" R_lnm) (I6 : DFn P w K mg base 3 "_law_shares" R_lsh) (I7 : DFn P w K mg base 6 "_law_rule" R_told) :
    DFn P w K mg base 8 "_law_shown" (R_shn K C) := by
  refine dfn_ret F hm (F.binds (ps := ["desk", "many", "game", "row"]) fun _ _ _ _ _ _ us hl => match us, hl with | [_, _, _, _], _ => rfl) sc_shn ?_ ?_
  · rintro es ω e ω' ⟨_, _, _, _, _, _, _, _, _, _, _, rfl, _⟩; rfl
  · rintro cdv A outer s H E hr es ω e ω' ⟨r, scr, ns, t, dx, p, d, q, n, ws, past, rfl, ⟨g, hk⟩, rfl, rfl, rfl⟩
    have hu := hr.units
    have hr1 : Room 1 _ := hr.mono (by decide)
    have hr2 : Room 2 _ := hr.mono (by decide)
    have hr3 : Room 3 _ := hr.mono (by decide)
    have hr6 : Room 6 _ := hr.mono (by decide)
    have hn := g.len.hn
    have hz := g.len.z
    have hwl := g.len.l
    have hz15 : (gs n).length ≤ 15 := gsN_len hn (Nat.le_refl n)
    refine dr_cons (dn_set 4 (e := .dat (.list (gsD (gs n)))) sc_shn.nd (de_call I1 hr1 (da_cons (de_var 1) da_nil) ⟨n, rfl, hn, rfl, rfl⟩)) ?_
    refine dr_ifF (ω1 := (r, t.oc K scr ns) :: DeskO C dx p d q n ws past) (dt_w (dw_or (k := false) (l := false) (dt_not (k := true) (dt_val (de_call I2 hr2 (da_cons (de_prop (p := p) (C := C) (dx := dx) (fs := deskFs n d q ws) hp G hbp hr2 c.cl (de_var 0) (mem_p (ωa := [(r, t.oc K scr ns)]) (ωb := [])) ⟨[(r, t.oc K scr ns)], [], dx, p, d, q, n, ws, past, rfl, rfl, rfl, rfl⟩) (da_cons (de_callT c_tupleL b.tuple boot_tuple (da_cons (de_var 2) da_nil)) da_nil)) ⟨tupI ws, rfl, Pl.tupI (by omega), rfl, rfl⟩))) fun _ => dw_or1 ?_)) ?_
    · refine dt_cmp (ω1 := (r, t.oc K scr ns) :: DeskO C dx p d q n ws past) (o_neStrs hu (l := ws.map toS) fun y hy => ?_) ?_ ?_
      · obtain ⟨v, hv, rfl⟩ := List.mem_map.mp hy
        exact toS_strOk (g.le v hv)
      · rw [← range_ws hwl]
        refine de_mapA [("group", 5)] (as := List.range (gs n).length) (enc := fun k => GE ((gs n).getD k [])) _ (fun k => .str (toS (ws.getD k 0))) rfl sc_shn.nd (by rw [range_gs]; exact di_list (de_var 4)) (fun _ _ _ _ _ => pg_name (i := 5) sc_shn.nd rfl (Or.inl rfl)) (fun x hx => bnd_name) (fun s2 H2 C2 cl fp ωd k hk => ?_) (by rw [List.length_range]; omega)
        have hlt := List.mem_range.mp hk
        exact de_meth M (by exact hr) c.cl (p := p) (dx := dx) (fs := deskFs n d q ws) (de_var 0) (mem_p (ωa := [(r, t.oc K scr ns)]) (ωb := ωd)) (da_cons (de_call I3 (by exact hr1) (da_cons (de_var 5) da_nil) ⟨_, rfl, gs_grp n hn _ (getD_gs hlt), rfl, rfl⟩) da_nil)
          ⟨[(r, t.oc K scr ns)], ωd, dx, p, d, q, n, ws, past, grpT n k, ws, past, rfl, ⟨g, .grp k (grp_name n hn k hk) (plK_at n hn k hk) hlt⟩, rfl, rfl⟩ (by kernel_rfl)
      · rw [List.map_map]
        exact de_mapA [("own", 6)] (as := ws) (enc := DL.I) _ (fun v => .str (toS v)) rfl sc_shn.nd (di_lstI (de_var 2)) (fun _ _ _ _ _ => pg_name (i := 6) sc_shn.nd rfl (Or.inl rfl)) (fun x hx => bnd_name) (fun _ _ _ _ _ ωd v hv => de_callT (c_strI (log_1000 (g.le v hv))) b.str boot_str (da_cons (de_var 6) da_nil)) (by omega)
    have hv8 := takenV_range (ns := ns) (t := t) (m := 8) (by decide)
    obtain ⟨x, hx, ex⟩ : ∃ x : Str, x ∈ names8 ∧ (names8.map PyData.str).getD (takenV ns t 8).toNat .none = .str x := by
      have hl : (takenV ns t 8).toNat < names8.length := by show _ < 8; omega
      refine ⟨names8[(takenV ns t 8).toNat], List.getElem_mem hl, ?_⟩
      rw [List.getD_eq_getElem?_getD, List.getElem?_map, List.getElem?_eq_getElem hl]
      rfl
    refine dr_cons (dn_set 7 (e := S x) (ω1 := (r, (takenS ns t 8).oc K scr ns) :: DeskO C dx p d q n ws past) sc_shn.nd (de_call I4 hr2 (da_cons (de_var 3) (da_cons (de_call0 I5 hr1 ⟨rfl, rfl, rfl⟩) da_nil)) ⟨r, scr, ns, t, names8.map .str, [], DeskO C dx p d q n ws past, rfl, ⟨(show 1 ≤ 8 by decide), (show 8 < 1000 by decide), hk⟩, rfl, congrArg Ent.dat ex.symm, rfl⟩)) ?_
    have R := told_rule hn hx
    have hs := share_ok R g
    have hl4 : (sharesL (toldL x n) ws).length ≤ 4 := by
      show ((toldL x n).map _).length ≤ 4
      rw [List.length_map, R.l]
      exact hn.le.2
    have em : (sharesL (toldL x n) ws).map (fun r => Ent.dat (ratD r)) = ((sharesL (toldL x n) ws).map ratD).map Ent.dat := by rw [List.map_map]; rfl
    refine dr_cons (dn_setA (S := [8, 9]) (g := gTup K 2 (gCons (gName 8) (gCons (gName 9) gNil))) 10 [("top", 8), ("low", 9)] (as := sharesL (toldL x n) ws) (enc := fun r => .dat (ratD r)) (fun r' => [some (.own p), some (DL.I n), some (.dat (lstI ws)), some (.own r), some (.dat (.list (gsD (gs n)))), none, none, some (S x), some (DL.I r'.1), some (DL.I r'.2), none]) (fun r => .str (ratT r)) rfl sc_shn.nd ?_ ?_ (fun y hy => bnd_pair (i := 8) (j := 9) (d := .int y.1) (e := .int y.2)) (fun _ _ _ _ _ ωd y hy => ?_) (by omega)) ?_
    · rw [em]
      exact di_tup (de_call I6 hr3 (da_cons (de_call I7 hr6 (da_cons (de_var 7) (da_cons (de_var 1) da_nil)) ⟨x, n, rfl, ⟨hx, hn⟩, rfl, rfl⟩) (da_cons (de_callT c_tupleL b.tuple boot_tuple (da_cons (de_var 2) da_nil)) da_nil)) ⟨n, toldL x n, ws, rfl, ⟨R, g⟩, rfl, rfl⟩)
    · exact fun _ _ _ _ _ => pg_tup rfl (pgs_cons (pg_name (i := 8) sc_shn.nd rfl (Or.inl rfl)) (pgs_cons (pg_name (i := 9) sc_shn.nd rfl (Or.inl rfl)) pgs_nil))
    · have hy' := hs y hy
      have l1 := toS_len hy'.t
      have l2 := toS_len hy'.b
      have e : Ent.dat (.str (ratT y)) = .dat (cond (decide (y.2 = 1)) (.str (toS y.1)) (.str (toS y.1 ++ "/" ++ toS y.2))) := by
        unfold ratT
        cases decide (y.2 = 1) <;> rfl
      rw [e]
      exact de_ifD (dt_cmp o_eqI (de_var 9) de_int) (de_callT (c_strI (log_60 hy'.t)) b.str boot_str (da_cons (de_var 8) da_nil)) (de_op (o_addS (by rw [app_len, slash_len, sizeLine_eq]; omega)) (de_op (o_addS (by rw [slash_len, sizeLine_eq]; omega)) (de_callT (c_strI (log_60 hy'.t)) b.str boot_str (da_cons (de_var 8) da_nil)) de_str) (de_callT (c_strI (log_60 hy'.b)) b.str boot_str (da_cons (de_var 9) da_nil)))
    · refine dr_ret (de_cmp o_eqST (de_meth M hr c.cl (p := p) (dx := dx) (fs := deskFs n d q ws) (de_var 0) (mem_p (ωa := [(r, (takenS ns t 8).oc K scr ns)]) (ωb := [])) (da_cons (de_var 7) da_nil) ⟨[(r, (takenS ns t 8).oc K scr ns)], [], dx, p, d, q, n, ws, past, x, ws, past, rfl, ⟨g, .name hx⟩, rfl, rfl⟩ (by kernel_rfl)) (de_join (x := " ") (ys := (sharesL (toldL x n) ws).map ratT) de_str (by rw [List.map_map]; exact de_var 10) ?_))
      have h1 := sum_le 4000 (((sharesL (toldL x n) ws).map ratT).map (·.length)) fun y hy => by
        obtain ⟨s, hs', rfl⟩ := List.mem_map.mp hy
        obtain ⟨r, hr', rfl⟩ := List.mem_map.mp hs'
        exact ratT_len (hs r hr')
      rw [List.length_map, List.length_map] at h1
      rw [List.length_map, show (" " : Str).length = 1 by decide +kernel]
      omega
end
end G0

set_option Elab.async false
set_option linter.all false
set_option maxRecDepth 100000
set_option maxHeartbeats 4000000
namespace ZM
open PySem PySem.Spec PyProof.Rows L2 DL CB
section
variable {X : Cx}
theorem o_isnotNN : Op2 X (compareOp .IsNot) (.dat .none) (.dat .none) (B false) :=
  ⟨_, op_notN, fun ω x y H Q o rx ry q => by
    cases rx
    cases ry
    exact ⟨rfl, q _ H (.refl o) (.ofBool _)⟩⟩
theorem o_repL1 {d : PyData} {k : Int} (hk : 0 ≤ k ∧ k ≤ 1000) : Op2 X (binaryOp .Mult) (.dat (.list [d])) (DL.I k) (.dat (.list (List.replicate k.toNat d))) :=
  ⟨_, op_rep, fun ω x y H Q o rx ry q => by
    obtain ⟨p, xs, rfl, n, e1, r⟩ := rx.lst
    cases ry.int
    cases r with
    | cons r t =>
      cases t
      refine ⟨p, k, _, rfl, rfl, e1, by omega, by omega, Nat.le_of_lt (small1000 (by show 1 * k.toNat ≤ 1000; omega)), fun t nt => ?_⟩
      refine q _ _ (Xt.upd o nt) (.newL o nt ?_)
      have key : ∀ n : Nat, RpAll (hide (dom ω) H) (List.replicate n [_]).flatten (List.replicate n d) := fun n => by
        induction n with
        | zero => exact .nil
        | succ n ih =>
          rw [List.replicate_succ, List.replicate_succ, List.flatten_cons]
          exact .cons r ih
      exact key _⟩
theorem lay_lists : ∀ l : List (List Int), PyData.canLayAll0 (l.map lstI) = true ∧ PyData.depthAll (l.map lstI) ≤ 2
  | [] => ⟨rfl, by decide⟩
  | x :: l => by
    obtain ⟨h1, h2⟩ := lay_lists l
    have hx : ∀ g : List Int, PyData.canLayAll0 (g.map .int) = true ∧ PyData.depthAll (g.map .int) ≤ 1 := fun g => by
      induction g with
      | nil => exact ⟨rfl, by decide⟩
      | cons y g ih =>
        refine ⟨?_, ?_⟩
        · show (true && PyData.canLayAll0 (g.map .int)) = true
          rw [ih.1]; rfl
        · show max 0 (PyData.depthAll (g.map .int)) ≤ 1
          have := ih.2
          omega
    obtain ⟨h3, h4⟩ := hx x
    refine ⟨?_, ?_⟩
    · show (PyData.canLayAll0 (x.map .int) && PyData.canLayAll0 (l.map lstI)) = true
      rw [h3, h1]; rfl
    · show max (PyData.depthAll (x.map .int) + 1) (PyData.depthAll (l.map lstI)) ≤ 2
      omega
theorem shaped_lists (l : List (List Int)) : SeqAt.shaped (.list (l.map lstI)) = true := by
  obtain ⟨h1, h2⟩ := lay_lists l
  unfold SeqAt.shaped
  have e1 : PyData.canLay0 (.list (l.map lstI)) = true := h1
  have e2 : PyData.depth (.list (l.map lstI)) ≤ 64 := by
    show (PyData.depthAll (l.map lstI)) + 1 ≤ 64
    omega
  rw [e1, decide_eq_true e2]
  rfl
theorem o_nePast (hu : X.A.units + 64 < cLine) (l : List (List Int)) : Op2 X (compareOp .NotEq) (.dat (.list (l.map lstI))) (.dat (.list [])) (B (!l.isEmpty)) := by
  have q := o_neD hu (d := .list (l.map lstI)) (e := .list []) (shaped_lists l) (shaped_lists [])
  have e : PyData.eqv (.list (l.map lstI)) (.list []) = l.isEmpty := by
    cases l with
    | nil => rfl
    | cons x l => exact SeqAt.eqvAll_other_length (xs := lstI x :: l.map lstI) (ys := []) (fun z => nomatch z)
  rw [e] at q
  exact q
end
theorem cut_last (l : List PyData) (x : PyData) : DL.cutD (l ++ [x]) none (some (-1)) = l := by
  unfold DL.cutD
  simp only [HT.sIx, List.length_append, List.length_singleton]
  rw [show ((-1 : Int) + ((l.length + 1 : Nat) : Int)).toNat = l.length by omega]
  simp
end ZM
namespace G0
open PySem PySem.Spec PyProof.Rows L2 DL CB ZM
/-! ### lines -/
def oddLs (n k : Nat) : List Str := ["", grpT n k ++ " ", grpT n k ++ " 1001", grpT n k ++ " 01", grpT n k ++ " x", grpT n k ++ " 1 2", "1+0", "0+0", toS n, "0+" ++ toS n, "+0", "0 +1", "Even", "even ", "turn", "0,1"]
def oddB (n : Nat) (l : Str) : Bool := !decide (l ∈ names8) && (valV (plK n) (.inr l)).isNone && (!(valV (plK n) (.inr (prt l).1)).isSome || (wwI (prt l).2.2).isNone) && wOkB (prt l).2.2 && decide (l.length ≤ 600)
theorem odd_all : ∀ n ∈ [2, 3, 4], ∀ k ∈ List.range (gs n).length, ∀ l ∈ oddLs n k, oddB n l = true := by decide +kernel
theorem odd_of {n : Nat} {l : Str} (h : oddB n l = true) : l ∉ names8 ∧ valV (plK n) (.inr l) = none ∧ OddL n l := by
  unfold oddB at h
  rw [Bool.and_eq_true, Bool.and_eq_true, Bool.and_eq_true, Bool.and_eq_true] at h
  obtain ⟨⟨⟨⟨h1, h2⟩, h3⟩, h4⟩, h5⟩ := h
  refine ⟨fun z => ?_, Option.isNone_iff_eq_none.mp h2, fun z => ?_, wok_of h4, of_decide_eq_true h5⟩
  · rw [decide_eq_true z] at h1
    cases h1
  · rw [z] at h3
    exact Option.isNone_iff_eq_none.mp h3
abbrev ownVs : List Int := [0, 1, -7, 60, 1000, -1000]
def setT (n k : Nat) (v : Int) : Str := grpT n k ++ " " ++ toS v
def setB (n k : Nat) (v : Int) (l : Str) : Bool := !decide (l ∈ names8) && (valV (plK n) (.inr l)).isNone && decide (valV (plK n) (.inr (prt l).1) = some (.int (k : Int))) && wOkB (prt l).2.2 && decide (wwI (prt l).2.2 = some v) && decide (l.length ≤ 600)
theorem set_all : ∀ n ∈ [2, 3, 4], ∀ k ∈ List.range (gs n).length, ∀ v ∈ ownVs, setB n k v (setT n k v) = true := by decide +kernel
theorem set_of {n k : Nat} {v : Int} {l : Str} (hk : k < (gs n).length) (h : setB n k v l = true) : l ∉ names8 ∧ valV (plK n) (.inr l) = none ∧ SetL n l k v := by
  unfold setB at h
  rw [Bool.and_eq_true, Bool.and_eq_true, Bool.and_eq_true, Bool.and_eq_true, Bool.and_eq_true] at h
  obtain ⟨⟨⟨⟨⟨h1, h2⟩, h3⟩, h4⟩, h5⟩, h6⟩ := h
  refine ⟨fun z => ?_, Option.isNone_iff_eq_none.mp h2, of_decide_eq_true h3, hk, wok_of h4, of_decide_eq_true h5, of_decide_eq_true h6⟩
  rw [decide_eq_true z] at h1
  cases h1
theorem grpT_len : ∀ n ∈ [2, 3, 4], ∀ k ∈ List.range (gs n).length, (grpT n k).length ≤ 20 := by decide +kernel
theorem own_le : ∀ v ∈ ownVs, -1000 ≤ v ∧ v ≤ 1000 := by decide
theorem setG_len {ws : List Int} {k : Nat} {v : Int} (h : k < ws.length) : (setG ws k v).length = ws.length := by
  unfold setG
  rw [List.length_append, List.length_append, List.length_take, List.length_drop, List.length_singleton]
  omega
theorem setG_game {n : Nat} {ws : List Int} {k : Nat} {v : Int} (g : Game n ws) (h : k < (gs n).length) (hv : -1000 ≤ v ∧ v ≤ 1000) : Game n (setG ws k v) := by
  have hl := g.len.l
  refine ⟨⟨g.len.hn, by rw [setG_len (by omega)]; exact hl⟩, fun x hx => ?_⟩
  unfold setG at hx
  rcases List.mem_append.mp hx with hx | hx
  · rcases List.mem_append.mp hx with hx | hx
    · exact g.le x (List.mem_of_mem_take hx)
    · rw [List.mem_singleton.mp hx]; exact hv
  · exact g.le x (List.mem_of_mem_drop hx)
theorem zero_game {n : Nat} (hn : Ns n) : Game n (List.replicate (gs n).length 0) := ⟨⟨hn, by rw [List.length_replicate]⟩, fun x hx => by rw [(List.mem_replicate.mp hx).2]; decide⟩
/-! ### Desk(many) -/
def tMk (ω : Own) (ρ : Rho) (C : Addr) (n : Nat) : TE := fun σ H Q => EOk ω ρ σ H ∧ ∀ p dx d q H', Keep (dom ω) H H' → EOk (ω ++ DeskO C dx p d q n (List.replicate (gs n).length 0) []) ρ σ H' → Q (.ref p) H'
section
variable {X : Cx} {a b1 b2 : Expr} {es : List Expr} {ω ω1 : Own} {ρ : Rho} {pos p2 : Pos} {C fI : Addr} {n : Nat} {fd : FuncData}
theorem pe_mk (hn : Ns n) (M : Mk X.K C fI) (G : FnOk X.prog X.w X.K X.mg X.base CX0 3 fI fd ["self", "many"] (spInit C)) (hb : Binds X.K fd ["self", "many"] []) (hm : X.mg "Desk" = some (.ref C)) (hr : Room 4 X.A) (ha : DA X ω ρ [a] [DL.I n] ω) (hg : Gl X "Desk" := by rfl)
    (he : starEach [a] X.env = (false, eval a X.env) :: starEach [] X.env := by rfl) (hpl : (backTo pos (starEach [] X.env)).any (·.1) = false := by rfl) : PE X (.Call (.Name "Desk" p2) [a] [] pos) (tMk ω ρ C n) := by
  refine pe_w (pe_make M G hr hg hm hb .nil pass0 ha (by decide) he hpl) fun σ H Q ⟨hE, q⟩ => ⟨hE, fun vs H1 x1 r1 => fun p dx np ndx ne => ?_⟩
  obtain ⟨v, rfl, r⟩ := REs.one r1
  have ev : v = .int n := r.int
  subst ev
  have E1 : EOk ω ρ σ H1 := hE.xt x1
  have Ea := E1.xt (Xt.upd (u := .own p) x1.own ndx)
  have np' : L2.upd H1 dx (.own p) p = none := by rw [L2.upd_ne ne.symm]; exact np
  have Eb := Ea.snoc (p := p) (o := .ins C dx []) (c := .obj C dx []) np' ⟨[], L2.upd_same, .nil⟩
  have free : ∀ a', L2.upd (L2.upd H1 dx (.own p)) p (.ins C dx []) a' = none → H1 a' = none := fun a' h => by
    by_cases z : a' = p
    · rw [z]; exact np
    · by_cases z2 : a' = dx
      · rw [z2]; exact ndx
      · rw [L2.upd_ne z, L2.upd_ne z2] at h
        exact h
  have kk1 : Keep (dom ω) H1 (L2.upd (L2.upd H1 dx (.own p)) p (.ins C dx [])) := (Keep.upd ndx).trans (Keep.upd np')
  refine ⟨ω, n, p, dx, rfl, hn, Eb.own, fun d e H' fd fe kk oo => ⟨rfl, ?_⟩⟩
  have k2 : Keep (dom ω) H1 H' := fun b o nb hb => by
    refine kk b o (fun z => ?_) (kk1 b o nb hb)
    have z : b ∈ dom ω ++ [p] := by simpa [dom] using z
    rcases List.mem_append.mp z with z | z
    · exact nb z
    · exact ne_of_none hb np (by simpa using z)
  refine q p dx d e H' (x1.keep.trans k2) ⟨oo, hE.len, fun i en h => ?_⟩
  obtain ⟨v, h1, h2⟩ := E1.val i en h
  refine ⟨v, h1, ZM.RE.grow (fun a' ha' na' => ?_) k2 h2⟩
  have ha' : a' ∈ dom ω ++ [p, d, e] := by
    rw [dom_app] at ha'
    exact ha'
  rcases List.mem_append.mp ha' with z | z
  · exact absurd z na'
  · simp only [List.mem_cons, List.not_mem_nil, or_false] at z
    rcases z with z | z | z
    · rw [z]; exact np
    · rw [z]; exact free d fd
    · rw [z]; exact free e fe
/-- x, y = Desk(..), z (x is a cell) -/
theorem df_desk (i j : Nat) {x y : Str} {k k' : Nat} {px py pt pv' : Pos} {T : List (Addr × Str)} {ss : List Stmt} {e2 : Ent} (hc : X.calm = true) (hN : X.N.Nodup) (hm : PE X b1 (tMk ω ρ C n))
    (hl : ∀ p dx d q, DE X (ω ++ DeskO C dx p d q n (List.replicate (gs n).length 0) []) ρ b2 e2 (ω ++ DeskO C dx p d q n (List.replicate (gs n).length 0) []))
    (h : ∀ p dx d q, PSs X ss (tDF T (ω ++ DeskO C dx p d q n (List.replicate (gs n).length 0) []) ((ρ.set i (some (.own p))).set j (some e2))))
    (hi : X.N[i]? = some x := by rfl) (hj : X.N[j]? = some y := by rfl)
    (hx : Loc X.env.scope x := by first | exact Or.inl rfl | exact Or.inr rfl) (hy : Loc X.env.scope y := by first | exact Or.inl rfl | exact Or.inr rfl)
    (hs : swapsWithSole [Expr.Tuple [.Name x px, .Name y py] k pt] (.Tuple [b1, b2] k' pv') pos.line X.env = pure false := by rfl) (hw : swappedStores [Expr.Tuple [.Name x px, .Name y py] k pt] (.Tuple [b1, b2] k' pv') X.env = pure none := by rfl)
    (h1 : (assignEach [Expr.Tuple [.Name x px, .Name y py] k pt] X.env).map (·.2) = [assign (Expr.Tuple [.Name x px, .Name y py] k pt) X.env] := by rfl)
    (hf : X.fn x = true ∨ X.env.scope.names.lookup x = some .local := by first | exact .inl rfl | exact .inr rfl | assumption) (hf' : X.fn y = true ∨ X.env.scope.names.lookup y = some .local := by first | exact .inl rfl | exact .inr rfl | assumption)
    (hn : (assignEach [Expr.Name x px, .Name y py] X.env).length = 2 := by rfl) (hst : (assignEach [Expr.Name x px, .Name y py] X.env).findIdx? (·.1) = none := by rfl)
    (ha1 : (assignEach [Expr.Name x px, .Name y py] X.env).map (·.2) = assign (.Name x px) X.env :: (assignEach [Expr.Name y py] X.env).map (·.2) := by rfl) (ha2 : (assignEach [Expr.Name y py] X.env).map (·.2) = assign (.Name y py) X.env :: (assignEach [] X.env).map (·.2) := by rfl)
    (s1 : starEach [b1, b2] X.env = (false, eval b1 X.env) :: starEach [b2] X.env := by rfl) (s2 : starEach [b2] X.env = (false, eval b2 X.env) :: starEach [] X.env := by rfl) :
    PSs X (.Assign [.Tuple [.Name x px, .Name y py] k pt] (.Tuple [b1, b2] k' pv') pos :: ss) (tDF T ω ρ) := by
  have hl' : PE X b2 (fun σ H Q => ∃ u : Addr × Addr × Addr × Addr, True ∧ tD (ω ++ DeskO C u.2.1 u.1 u.2.2.1 u.2.2.2 n (List.replicate (gs n).length 0) []) ρ e2 (ω ++ DeskO C u.2.1 u.1 u.2.2.1 u.2.2.2 n (List.replicate (gs n).length 0) []) σ H Q) :=
    pe_ex (p := fun _ => True) (t := fun u : Addr × Addr × Addr × Addr => tD (ω ++ DeskO C u.2.1 u.1 u.2.2.1 u.2.2.2 n (List.replicate (gs n).length 0) []) ρ e2 (ω ++ DeskO C u.2.1 u.1 u.2.2.1 u.2.2.2 n (List.replicate (gs n).length 0) [])) fun u _ => hl u.1 u.2.1 u.2.2.1 u.2.2.2
  have hall : PSs X ss (fun D σ H => ∃ u : Addr × Addr × Addr × Addr, True ∧ tDF T (ω ++ DeskO C u.2.1 u.1 u.2.2.1 u.2.2.2 n (List.replicate (gs n).length 0) []) ((ρ.set i (some (.own u.1))).set j (some e2)) D σ H) :=
    pss_ex (p := fun _ => True) (t := fun u : Addr × Addr × Addr × Addr => tDF T (ω ++ DeskO C u.2.1 u.1 u.2.2.1 u.2.2.2 n (List.replicate (gs n).length 0) []) ((ρ.set i (some (.own u.1))).set j (some e2))) fun u _ => h u.1 u.2.1 u.2.2.1 u.2.2.2
  refine pss_w (pss_cons (ps_asg (pe_tup (pa_cons hm (pa_cons hl' pa_nil s2) s1)) (pg_tup hc (pgs_cons (pg_name hN hi hx hf) (pgs_cons (pg_name hN hj hy hf') pgs_nil ha2) ha1) hn hst) hs hw h1) hall) fun D σ H ⟨hE, hT, q⟩ => ⟨hE, fun p dx d qq H1 k1 E1 => ⟨(p, dx, d, qq), trivial, E1, fun v H2 x2 r2 => ⟨by show 2 ≤ sizeLine; decide, fun t nt => ?_⟩⟩⟩
  refine ⟨t, _, rfl, SqT.of L2.upd_same, rfl, _, _, rfl, _, _, rfl, rfl, (p, dx, d, qq), trivial, ?_, tabs_keep (tabs_keep (tabs_keep hT hE.own k1) E1.own x2.keep) x2.own (Keep.upd nt), q⟩
  have E3 := (E1.xt x2).xt (Xt.upd (u := .tup [.ref p, v]) x2.own nt)
  exact (E3.set (e := .own p) rfl).set (r2.keep (Keep.upd nt))
end
end G0

set_option Elab.async false
set_option linter.all false
set_option maxRecDepth 100000
set_option maxHeartbeats 4000000
namespace G0
open PySem PySem.Spec PyProof.Rows L2 DL CB ZM
abbrev oddD : List PyData := [.none, .int 5, .list [.str "0"], .tuple [.str "even"]]
theorem odd4 : ∀ d ∈ oddD, kitB (tyD d) "str" = some false := by
  intro d hd
  simp only [oddD, List.mem_cons, List.not_mem_nil, or_false] at hd
  rcases hd with e | e | e | e <;> subst e <;> rfl
theorem spl_one : (" " : Str).length = 1 := by decide +kernel
abbrev NL : List Str := ["script", "many", "past", "some", "game", "turn", "deed", "at", "word", "own", "desk", "odd", "row"]
abbrev s_law : Stmt := topS 71
theorem sc_law : FnScope NL ["script"] (defScope s_law) := ⟨rfl, rfl, rfl, by decide +kernel, rfl, by decide +kernel, by decide +kernel⟩
structure Defs (P : Program) (w : World) (K : PySem.W.Frag) (mg : Str → Option Value) (base : Heap) (C CI CN CU fI : Addr) (fdI : FuncData) : Prop where
  taken : DFn P w K mg base 1 "_law_taken" (R_taken K)
  pick : DFn P w K mg base 2 "_law_pick" (R_pick K)
  lgs : DFn P w K mg base 1 "_law_groups" R_lgs
  lname : DFn P w K mg base 1 "_law_name" R_gt
  shn : DFn P w K mg base 8 "_law_shown" (R_shn K C)
  run : DMx P w K mg base 7 C "run" (R_run C) (RX_run C CI CN)
  undo : DMx P w K mg base 1 C "undo" (R_undo C) (RX_undo C CU)
  cl : DCl K C
  made : Mk K C fI
  init : FnOk P w K mg base CX0 3 fI fdI ["self", "many"] (spInit C)
  bi : Binds K fdI ["self", "many"] []
  gD : mg "Desk" = some (.ref C)
structure ErrA (K : PySem.W.Frag) (mg : Str → Option Value) (CS CI CN CU : Addr) : Prop where
  d : ErrD K mg CS CI CN CU
  i : ErrC K CS CI CN CU CI true false false
  n : ErrC K CS CI CN CU CN false true false
  u : ErrC K CS CI CN CU CU false false true
section
variable {P : Program} {w : World} {K : PySem.W.Frag} {mg : Str → Option Value} {base : Heap} {f : Addr} {fd : FuncData}
theorem told_I {X : Cx} {g CS CI CN CU : Addr} {cdg : Value} {q : Str} (T : ErrA X.K X.mg CS CI CN CU) (bi : X.mg "isinstance" = none) : LamX.GivesTo X NT "_law_told" (defScope s_lt) g cdg (defBody s_lt) "work" q (TTw CS CI "invalid") :=
  told_C 0 T.d T.i bi rfl (fun m h => absurd h (Nat.not_lt_zero _)) rfl rfl
theorem told_N {X : Cx} {g CS CI CN CU : Addr} {cdg : Value} {q : Str} (T : ErrA X.K X.mg CS CI CN CU) (bi : X.mg "isinstance" = none) : LamX.GivesTo X NT "_law_told" (defScope s_lt) g cdg (defBody s_lt) "work" q (TTw CS CN "text") :=
  told_C 1 T.d T.n bi rfl (fun m h => by obtain rfl : m = 0 := by omega
                                         rfl) rfl rfl
theorem told_U {X : Cx} {g CS CI CN CU : Addr} {cdg : Value} {q : Str} (T : ErrA X.K X.mg CS CI CN CU) (bi : X.mg "isinstance" = none) : LamX.GivesTo X NT "_law_told" (defScope s_lt) g cdg (defBody s_lt) "work" q (TTw CS CU "undo") :=
  told_C 2 T.d T.u bi rfl (fun m h => by
    have : m = 0 ∨ m = 1 := by omega
    rcases this with e | e <;> (subst e; rfl)) rfl rfl
/-- what holds ahead of the j-th turn -/
def Iv (K : PySem.W.Frag) (C scr r p dx d q : Addr) (ns : List Int) (n : Nat) : Nat → Own → Rho → Prop := fun j ω ρ => ∃ (t : St3) (ws : List Int) (past : List (List Int)), (Game n ws ∧ (∀ g ∈ past, Game n g) ∧ past.length ≤ j ∧ 0 ≤ t.k) ∧
  ω = (r, t.oc K scr ns) :: DeskO C dx p d q n ws past ∧ ρ = [some (.raw (.ref scr)), some (DL.I n), some (.dat (.list (past.map lstI))), some (.dat (.list (gsD (gs n)))), some (.dat (lstI ws)), none, none, none, none, none, some (.own p), none, some (.own r)]
abbrev loopBody : List Stmt := match (defBody s_law).getD 5 (.Pass ⟨0, 0, 0, 0⟩) with
  | .For _ _ b _ _ => b
  | _ => []
abbrev XL (P : Program) (w : World) (K : PySem.W.Frag) (mg : Str → Option Value) (base : Heap) (f c : Addr) (A : Around) (outer : List Env) (s : Shared) (H : Hp) (E : XK) : Cx := CxF P w K mg base NL "law" s_law f (.ref c) A outer s H E
theorem turn_body {CS CI CN CU C c Pt g fI scr r p dx d q : Addr} {cdg : Value} {fdI : FuncData} {ns : List Int} {n : Nat} (hn : Ns n) (D : Defs P w K mg base C CI CN CU fI fdI) (b : Bare mg) (T : ErrA K mg CS CI CN CU) (TD : ToldD P w K mg "_law_told" "work" NT (defArgs s_lt) (defBody s_lt) (defScope s_lt) g cdg) (TB : LamX.TabB base mg c Pt) (A : Around) (outer : List Env) (s : Shared) (H : Hp) (E : XK) (hr : Room 9 (XL P w K mg base f c A outer s H E).A)
    (j : Nat) (hj : j < 10) (ω : Own) (ρ : Rho) (hI : Iv K C scr r p dx d q ns n j ω ρ) :
    PSs (XL P w K mg base f c A outer s H E) loopBody (tX [(Pt, (XL P w K mg base f c A outer s H E).env.qual ++ "<lambda>")] ω (ρ.set 5 (some (DL.I (j : Nat)))) (Iv K C scr r p dx d q ns n (j + 1))) := by
  obtain ⟨t, ws, past, ⟨g0, gp, hl, k0⟩, rfl, rfl⟩ := hI
  have hu := hr.units
  have hr1 : Room 1 _ := hr.mono (by decide)
  have hr2 : Room 2 _ := hr.mono (by decide)
  have hr7 : Room 7 _ := hr.mono (by decide)
  have hz15 : (gs n).length ≤ 15 := gsN_len hn (Nat.le_refl n)
  have hz3 := gs_ge hn
  have hwl := g0.len.l
  have k1 : 0 ≤ (takenS ns t 6).k := takenS_k k0
  have hv6 := takenV_range (ns := ns) (t := t) (m := 6) (by decide)
  have hm : (((gsD (gs n)).length : Nat) : Int) = ((gs n).length : Int) := by rw [List.length_map]
  have hva := takenV_range (ns := ns) (t := takenS ns t 6) (m := ((gs n).length : Int)) (by omega)
  have k2 : 0 ≤ (takenS ns (takenS ns t 6) ((gs n).length : Int)).k := takenS_k k1
  -- deed, at
  refine tx_cons (ω1 := (r, (takenS ns (takenS ns t 6) ((gs n).length : Int)).oc K scr ns) :: DeskO C dx p d q n ws past) (dn_par (e1 := DL.I (takenV ns t 6)) (e2 := DL.I (takenV ns (takenS ns t 6) ((gs n).length : Int))) 6 7 rfl sc_law.nd (da_cons (ω1 := (r, (takenS ns t 6).oc K scr ns) :: DeskO C dx p d q n ws past) (de_call D.taken hr1 (da_cons (de_var 12) (da_cons de_int da_nil)) ⟨r, scr, ns, t, 6, [], _, rfl, ⟨by decide, by decide, k0⟩, rfl, rfl, rfl⟩)
    (da_cons (ω1 := (r, (takenS ns (takenS ns t 6) ((gs n).length : Int)).oc K scr ns) :: DeskO C dx p d q n ws past) (de_call D.taken hr1 (da_cons (de_var 12) (da_cons (de_callB c_lenL b.len boot_len (da_cons (de_var 3) da_nil)) da_nil)) ⟨r, scr, ns, takenS ns t 6, ((gs n).length : Int), [], _, by rw [hm], ⟨by omega, by omega, k1⟩, rfl, rfl, rfl⟩) da_nil))) ?_
  generalize takenV ns (takenS ns t 6) ((gs n).length : Int) = va at hva ⊢
  generalize takenS ns (takenS ns t 6) ((gs n).length : Int) = t2 at k2 ⊢
  generalize takenV ns t 6 = vd at hv6 ⊢
  obtain ⟨k, rfl⟩ : ∃ k : Nat, va = (k : Int) := ⟨va.toNat, by omega⟩
  have hk : k < (gs n).length := by omega
  have hkr := List.mem_range.mpr hk
  have gl := grpT_len n hn k hkr
  have hat : L2.atI (gsD (gs n)) (k : Int) = some (tupI ((gs n).getD k [])) := atI_map (l := gs n) (g := fun g => tupI g) (i := (k : Int)) (d := []) (by omega) (by show k < _; exact hk)
  have hgr := gs_grp n hn _ (getD_gs hk)
  have szw : ∀ y : Str, y.length ≤ 100 → (grpT n k).length + y.length ≤ sizeLine := fun y hy => by rw [sizeLine_eq]; omega
  have hn4 := hn.le
  have ln := toS_len (v := (n : Int)) (by omega)
  refine tx_if (dt_cmp o_eqI (de_var 6) de_int) (fun h0 => ?_) (fun h0 => ?_)
  · have hv16 := takenV_range (ns := ns) (t := t2) (m := 16) (by decide)
    have k3 : 0 ≤ (takenS ns t2 16).k := takenS_k k2
    obtain ⟨line, hline, eline⟩ : ∃ line : Str, line ∈ oddLs n k ∧ ((oddLs n k).map PyData.str).getD (takenV ns t2 16).toNat .none = .str line := by
      have hl : (takenV ns t2 16).toNat < (oddLs n k).length := by show _ < 16; omega
      refine ⟨(oddLs n k)[(takenV ns t2 16).toNat], List.getElem_mem hl, ?_⟩
      rw [List.getD_eq_getElem?_getD, List.getElem?_map, List.getElem?_eq_getElem hl]
      rfl
    obtain ⟨o1, o2, o3⟩ := odd_of (odd_all n hn k hkr line hline)
    refine tx_cons (dn_set 8 (e := S (grpT n k)) sc_law.nd (de_call D.lname hr1 (da_cons (de_ixL (ds := gsD (gs n)) (i := (k : Int)) (de_var 3) (de_var 7) hat) da_nil) ⟨_, rfl, hgr, rfl, rfl⟩)) ?_
    refine tx_cons (dn_set 11 (e := .dat (.list ((oddLs n k).map .str))) sc_law.nd (de_lst (ds := (oddLs n k).map .str) (da_cons de_str (da_cons (de_op (o_addS (szw _ (by decide +kernel))) (de_var 8) de_str) (da_cons (de_op (o_addS (szw _ (by decide +kernel))) (de_var 8) de_str) (da_cons (de_op (o_addS (szw _ (by decide +kernel))) (de_var 8) de_str) (da_cons (de_op (o_addS (szw _ (by decide +kernel))) (de_var 8) de_str) (da_cons (de_op (o_addS (szw _ (by decide +kernel))) (de_var 8) de_str) (da_cons de_str (da_cons de_str
      (da_cons (de_callT (c_strI (log_60 (by omega))) b.str boot_str (da_cons (de_var 1) da_nil)) (da_cons (de_op (o_addS (by show 2 + (toS (n : Int)).length ≤ sizeLine; rw [sizeLine_eq]; omega)) de_str (de_callT (c_strI (log_60 (by omega))) b.str boot_str (da_cons (de_var 1) da_nil))) (da_cons de_str (da_cons de_str (da_cons de_str (da_cons de_str (da_cons de_str (da_cons de_str da_nil)))))))))))))))) (show 16 ≤ sizeLine by decide))) ?_
    refine tx_iff (ω1 := (r, (takenS ns t2 16).oc K scr ns) :: DeskO C dx p d q n ws past) (tt_told (pe_told (L := LamX.lamS_by (by kernel_rfl)) (C := CI) (k := 7) TD (told_I T b.isinst) TB rfl List.mem_cons_self (fun q hq _ => by rw [List.mem_singleton.mp hq]) hr (fun A2 outer2 s2 H2 E2 f2 c2 hr2' => ?_) rfl)) (tx_nil ⟨takenS ns t2 16, ws, past, ⟨g0, gp, by omega, k3⟩, rfl, rfl⟩ (LeL.le (.same (.same (.same (.same (.same (.drop (.drop (.drop (.drop (.drop (.same (.drop (.same .nil)))))))))))))))
    exact dex_meth D.run (takes_of rfl rfl rfl rfl) hr2' D.cl.cl (p := p) (dx := dx) (fs := deskFs n d q ws) (de_var 10) (mem_p (ωa := [(r, t2.oc K scr ns)]) (ωb := [])) (da_cons (ω1 := (r, (takenS ns t2 16).oc K scr ns) :: DeskO C dx p d q n ws past) (de_call D.pick (hr2'.mono (by decide)) (da_cons (de_var 12) (da_cons (de_var 11) da_nil)) ⟨r, scr, ns, t2, (oddLs n k).map .str, [], DeskO C dx p d q n ws past, rfl, ⟨(show 1 ≤ 16 by decide), (show 16 < 1000 by decide), k2⟩, rfl, congrArg Ent.dat eline.symm, rfl⟩) da_nil)
      (.inr ⟨[(r, (takenS ns t2 16).oc K scr ns)], [], dx, p, d, q, n, ws, past, line, rfl, ⟨o1, o2, o3⟩, rfl, rfl, rfl⟩) (by kernel_rfl)
  · refine tx_if (dt_cmp o_eqI (de_var 6) de_int) (fun h1 => ?_) (fun h1 => ?_)
    · have hv4 := takenV_range (ns := ns) (t := t2) (m := 4) (by decide)
      have k3 : 0 ≤ (takenS ns t2 4).k := takenS_k k2
      obtain ⟨dd, ed, hd⟩ : ∃ dd : PyData, oddD.getD (takenV ns t2 4).toNat .none = dd ∧ kitB (tyD dd) "str" = some false := by
        have hl : (takenV ns t2 4).toNat < oddD.length := by show _ < 4; omega
        refine ⟨_, rfl, odd4 _ ?_⟩
        rw [List.getD_eq_getElem?_getD, List.getElem?_eq_getElem hl]
        exact List.getElem_mem hl
      refine tx_iff (ω1 := (r, (takenS ns t2 4).oc K scr ns) :: DeskO C dx p d q n ws past) (tt_told (pe_told (L := LamX.lamS_by (by kernel_rfl)) (C := CN) (k := 7) TD (told_N T b.isinst) TB rfl List.mem_cons_self (fun q hq _ => by rw [List.mem_singleton.mp hq]) hr (fun A2 outer2 s2 H2 E2 f2 c2 hr2' => ?_) rfl)) (tx_nil ⟨takenS ns t2 4, ws, past, ⟨g0, gp, by omega, k3⟩, rfl, rfl⟩ (LeL.le (.same (.same (.same (.same (.same (.drop (.drop (.drop (.drop (.drop (.same (.drop (.same .nil)))))))))))))))
      exact dex_meth D.run (takes_of rfl rfl rfl rfl) hr2' D.cl.cl (p := p) (dx := dx) (fs := deskFs n d q ws) (de_var 10) (mem_p (ωa := [(r, t2.oc K scr ns)]) (ωb := [])) (da_cons (ω1 := (r, (takenS ns t2 4).oc K scr ns) :: DeskO C dx p d q n ws past) (de_call D.pick (hr2'.mono (by decide)) (da_cons (de_var 12) (da_cons (de_lst (ds := oddD) (da_cons de_non (da_cons de_int (da_cons (de_lst (ds := [.str "0"]) (da_cons de_str da_nil) (show 1 ≤ sizeLine by decide)) (da_cons (de_tup (ds := [.str "even"]) (da_cons de_str da_nil) (show 1 ≤ sizeLine by decide)) da_nil)))) (show 4 ≤ sizeLine by decide)) da_nil)) ⟨r, scr, ns, t2, oddD, [], DeskO C dx p d q n ws past, rfl, ⟨(show 1 ≤ 4 by decide), (show 4 < 1000 by decide), k2⟩, rfl, congrArg Ent.dat ed.symm, rfl⟩) da_nil)
        (.inl ⟨p, dd, rfl, hd, rfl, rfl⟩) (by kernel_rfl)
    · refine tx_if (dt_w (dw_and (dt_cmp o_eqI (de_var 6) de_int) fun _ => dw_and1 (dt_cmp (o_nePast hu past) (de_var 2) (de_lst (ds := []) da_nil (Nat.zero_le _))))) (fun h2 => ?_) (fun h2 => ?_)
      · rcases List.eq_nil_or_concat past with e | ⟨pre, u, e⟩
        · subst e
          rw [Bool.and_eq_true] at h2
          exact absurd h2.2 (by decide)
        · rw [List.concat_eq_append] at e
          subst e
          have hlp : pre.length ≤ j := by rw [List.length_append, List.length_singleton] at hl; omega
          refine tx_cons (ω1 := (r, t2.oc K scr ns) :: DeskO C dx p d q n u pre) (dn_expr (de_meth0 D.undo hr1 D.cl.cl (p := p) (dx := dx) (fs := deskFs n d q ws) (de_var 10) (mem_p (ωa := [(r, t2.oc K scr ns)]) (ωb := [])) ⟨[(r, t2.oc K scr ns)], [], dx, p, d, q, n, ws, u, pre, rfl, rfl, rfl, rfl⟩ (by kernel_rfl) (by simp [dom, DeskO]))) ?_
          refine tx_cons (dn_set 4 (e := .dat (lstI u)) sc_law.nd (de_ixL (ds := (pre ++ [u]).map lstI) (i := -1) (de_var 2) (de_neg de_int) (by rw [List.map_append]; exact atI_last _ _))) ?_
          refine tx_cons (dn_set 2 (e := .dat (.list (pre.map lstI))) sc_law.nd ?_) (tx_nil ⟨t2, u, pre, ⟨gp u (by simp), fun g hg => gp g (by simp [hg]), by omega, k2⟩, rfl, rfl⟩ (LeL.le (.same (.same (.same (.same (.same (.drop (.drop (.drop (.drop (.drop (.same (.drop (.same .nil)))))))))))))))
          rw [← cut_last (pre.map lstI) (lstI u)]
          exact de_sliceL (ds := (pre.map lstI) ++ [lstI u]) (by rw [show (pre.map lstI) ++ [lstI u] = (pre ++ [u]).map lstI by rw [List.map_append]; rfl]; exact de_var 2) dp_none (dp_some (de_neg de_int))
      · have hv6b := takenV_range (ns := ns) (t := t2) (m := 6) (by decide)
        have k3 : 0 ≤ (takenS ns t2 6).k := takenS_k k2
        obtain ⟨v, hv, ev⟩ : ∃ v : Int, v ∈ ownVs ∧ (ownVs.map PyData.int).getD (takenV ns t2 6).toNat .none = .int v := by
          have hl : (takenV ns t2 6).toNat < ownVs.length := by show _ < 6; omega
          refine ⟨ownVs[(takenV ns t2 6).toNat], List.getElem_mem hl, ?_⟩
          rw [List.getD_eq_getElem?_getD, List.getElem?_map, List.getElem?_eq_getElem hl]
          rfl
        have hvr := own_le v hv
        obtain ⟨l1, l2, l3⟩ := set_of hk (set_all n hn k hkr v hv)
        have lv := (toS_ok hvr).2.2
        have eg : PyData.list ((ws.map PyData.int).take (k : Int).toNat ++ [.int v] ++ (ws.map PyData.int).drop ((k : Int) + 1).toNat) = lstI (setG ws k v) := by
          show _ = PyData.list ((ws.take k ++ [v] ++ ws.drop (k + 1)).map .int)
          rw [List.map_append, List.map_append, List.map_take, List.map_drop, show ((k : Int) + 1).toNat = k + 1 by omega, show (k : Int).toNat = k by omega]
          rfl
        refine tx_cons (ω1 := (r, (takenS ns t2 6).oc K scr ns) :: DeskO C dx p d q n ws past) (dn_set 9 (e := DL.I v) sc_law.nd (de_call D.pick hr2 (da_cons (de_var 12) (da_cons (de_lst (ds := ownVs.map .int) (da_cons de_int (da_cons de_int (da_cons (de_neg de_int) (da_cons de_int (da_cons de_int (da_cons (de_neg de_int) da_nil)))))) (show 6 ≤ sizeLine by decide)) da_nil)) ⟨r, scr, ns, t2, ownVs.map .int, [], DeskO C dx p d q n ws past, rfl, ⟨(show 1 ≤ 6 by decide), (show 6 < 1000 by decide), k2⟩, rfl, congrArg Ent.dat ev.symm, rfl⟩)) ?_
        refine tx_cons (dn_set 2 (e := .dat (.list ((past ++ [ws]).map lstI))) sc_law.nd (by
          rw [List.map_append]
          exact de_op (o_cat (by simp only [List.length_map, List.length_singleton, sizeLine_eq]; omega)) (de_var 2) (de_lst (ds := [lstI ws]) (da_cons (de_callT c_listL b.list boot_list (da_cons (de_var 4) da_nil)) da_nil) (show 1 ≤ sizeLine by decide)))) ?_
        refine tx_cons (dn_set 4 (e := .dat (lstI (setG ws k v))) sc_law.nd (by
          rw [← eg]
          refine de_op (o_cat ?_) (de_op (o_cat ?_) (de_takeL (de_var 4) (de_var 7) (by omega)) (de_lst (ds := [.int v]) (da_cons (de_var 9) da_nil) (show 1 ≤ sizeLine by decide))) (de_dropL (de_var 4) (de_op o_add (de_var 7) de_int) (by omega))
          · simp only [List.length_append, List.length_take, List.length_drop, List.length_map, List.length_singleton, sizeLine_eq]
            omega
          · simp only [List.length_append, List.length_take, List.length_drop, List.length_map, List.length_singleton, sizeLine_eq]
            omega)) ?_
        refine tx_iff (ω1 := (r, (takenS ns t2 6).oc K scr ns) :: DeskO C dx p d q n (setG ws k v) (past ++ [ws])) (tt_of (dt_cmp o_isnotNN (de_meth D.run hr7 D.cl.cl (p := p) (dx := dx) (fs := deskFs n d q ws) (de_var 10) (mem_p (ωa := [(r, (takenS ns t2 6).oc K scr ns)]) (ωb := [])) (da_cons (e1 := S (setT n k v)) ?_ da_nil) ⟨[(r, (takenS ns t2 6).oc K scr ns)], [], dx, p, d, q, n, ws, past, setT n k v, setG ws k v, past ++ [ws], rfl, ⟨g0, .set k v l1 l2 l3 (by omega)⟩, rfl, rfl⟩ (by kernel_rfl) (by simp [dom, DeskO])) de_non))
          (tx_nil ⟨takenS ns t2 6, setG ws k v, past ++ [ws], ⟨setG_game g0 hk hvr, fun g hg => ?_, by rw [List.length_append, List.length_singleton]; omega, k3⟩, rfl, rfl⟩ (LeL.le (.same (.same (.same (.same (.same (.drop (.drop (.drop (.drop (.drop (.same (.drop (.same .nil)))))))))))))))
        · exact de_op (o_addS (by rw [app_len]; have := spl_one; rw [sizeLine_eq]; omega)) (de_op (o_addS (szw _ (by decide +kernel))) (de_call D.lname hr1 (da_cons (de_ixL (ds := gsD (gs n)) (i := (k : Int)) (de_var 3) (de_var 7) hat) da_nil) ⟨_, rfl, hgr, rfl, rfl⟩) de_str) (de_callT (c_strI (log_1000 hvr)) b.str boot_str (da_cons (de_var 9) da_nil))
        · rcases List.mem_append.mp hg with hg | hg
          · exact gp g hg
          · rw [List.mem_singleton.mp hg]; exact g0
end
end G0

set_option Elab.async false
set_option linter.all false
set_option maxRecDepth 100000
set_option maxHeartbeats 4000000
namespace G0
open PySem PySem.Spec PyProof.Rows L2 DL CB ZM
/-- the law, from the script -/
def spLaw (K : PySem.W.Frag) (Pt : Addr) : Sp := fun vs H Q _ => ∃ (a : Addr) (ns : List Int), vs = [.ref a] ∧ H Pt = some (.tbl #[]) ∧ SqL K H a (ns.map V.int) ∧ ns.length ≤ 63 ∧ ∀ H', Q (.bl true) H'
section
variable {P : Program} {w : World} {K : PySem.W.Frag} {mg : Str → Option Value} {base : Heap} {f : Addr} {fd : FuncData}
theorem law_body {CS CI CN CU C c Pt g fI scr r : Addr} {cdg : Value} {fdI : FuncData} {ns : List Int} (D : Defs P w K mg base C CI CN CU fI fdI) (b : Bare mg) (T : ErrA K mg CS CI CN CU) (TD : ToldD P w K mg "_law_told" "work" NT (defArgs s_lt) (defBody s_lt) (defScope s_lt) g cdg) (TB : LamX.TabB base mg c Pt) (A : Around) (outer : List Env) (s : Shared) (H : Hp) (E : XK) (hr : Room 9 (XL P w K mg base f c A outer s H E).A) :
    PSs (XL P w K mg base f c A outer s H E) ((defBody s_law).drop 1) (tDF [(Pt, (XL P w K mg base f c A outer s H E).env.qual ++ "<lambda>")] [(r, (⟨0, 15669, 0⟩ : St3).oc K scr ns)] ((rho0 NL [.raw (.ref scr)]).set 12 (some (.own r)))) := by
  have hr1 : Room 1 _ := hr.mono (by decide)
  have hr4 : Room 4 _ := hr.mono (by decide)
  have hr8 : Room 8 _ := hr.mono (by decide)
  have k0 : 0 ≤ (⟨0, 15669, 0⟩ : St3).k := by decide
  generalize (⟨0, 15669, 0⟩ : St3) = t at k0 ⊢
  have hv := takenV_range (ns := ns) (t := t) (m := 3) (by decide)
  obtain ⟨n, en⟩ : ∃ n : Nat, 2 + takenV ns t 3 = (n : Int) := ⟨(2 + takenV ns t 3).toNat, by omega⟩
  have hn : Ns n := by
    simp only [Ns, List.mem_cons, List.not_mem_nil, or_false]
    omega
  have k1 : 0 ≤ (takenS ns t 3).k := takenS_k k0
  have hz15 : (gs n).length ≤ 15 := gsN_len hn (Nat.le_refl n)
  -- many, past
  refine df_cons (ω1 := [(r, (takenS ns t 3).oc K scr ns)]) (dn_par (e1 := DL.I n) (e2 := .dat (.list [])) 1 2 rfl sc_law.nd (da_cons (ω1 := [(r, (takenS ns t 3).oc K scr ns)]) (by rw [← en]; exact de_op o_add de_int (de_call D.taken hr1 (da_cons (de_var 12) (da_cons de_int da_nil)) ⟨r, scr, ns, t, 3, [], [], rfl, ⟨by decide, by decide, k0⟩, rfl, rfl, rfl⟩)) (da_cons (de_lst (ds := []) da_nil (Nat.zero_le _)) da_nil))) ?_
  generalize takenS ns t 3 = t1 at k1 ⊢
  -- some
  refine df_cons (ω1 := [(r, t1.oc K scr ns)]) (dn_set 3 (e := .dat (.list (gsD (gs n)))) sc_law.nd (de_call D.lgs hr1 (da_cons (de_var 1) da_nil) ⟨n, rfl, hn, rfl, rfl⟩)) ?_
  -- desk, game
  have hm : (((gsD (gs n)).length : Nat) : Int) = ((gs n).length : Int) := by rw [List.length_map]
  have ez : PyData.list (List.replicate ((gs n).length : Int).toNat (PyData.int 0)) = lstI (List.replicate (gs n).length 0) := by
    show _ = PyData.list ((List.replicate (gs n).length (0 : Int)).map .int)
    rw [List.map_replicate]
    rfl
  refine df_desk (n := n) (C := C) (e2 := .dat (lstI (List.replicate (gs n).length 0))) 10 4 rfl sc_law.nd (pe_mk hn D.made D.init D.bi D.gD hr4 (da_cons (de_var 1) da_nil)) (fun p dx d q => ?_) (fun p dx d q => ?_)
  · rw [← ez]
    exact de_op (o_repL1 (k := ((gs n).length : Int)) ⟨by omega, by omega⟩) (de_lst (ds := [.int 0]) (da_cons de_int da_nil) (show 1 ≤ sizeLine by decide)) (by rw [← hm]; exact de_callB c_lenL b.len boot_len (da_cons (de_var 3) da_nil))
  have g0 := zero_game hn
  generalize List.replicate (gs n).length (0 : Int) = ws at g0 ⊢
  -- the first test
  have k2 : 0 ≤ (takenS ns t1 8).k := takenS_k k1
  refine df_iff (ω1 := (r, (takenS ns t1 8).oc K scr ns) :: DeskO C dx p d q n ws []) (PW.pt (tw_or (ω1 := (r, t1.oc K scr ns) :: DeskO C dx p d q n ws []) (tt_told (pe_told (L := LamX.lamS_by (by kernel_rfl)) (C := CU) (k := 1) TD (told_U T b.isinst) TB rfl List.mem_cons_self (fun q hq _ => by rw [List.mem_singleton.mp hq]) (hr.mono (by decide)) (fun A2 outer2 s2 H2 E2 f2 c2 hr2' => ?_) rfl)) (pw_or1 (tt_of (dt_not (k := true) (dt_val (de_call D.shn hr8 (da_cons (de_var 10) (da_cons (de_var 1) (da_cons (de_var 4) (da_cons (de_var 12) da_nil)))) ⟨r, scr, ns, t1, dx, p, d, q, n, ws, [], rfl, ⟨g0, k1⟩, rfl, rfl, rfl⟩ (by simp [dom, DeskO])))))))) ?_
  · exact dex_meth0 D.undo (takes_of rfl rfl rfl rfl) hr2' D.cl.cl (p := p) (dx := dx) (fs := deskFs n d q ws) (de_var 10) (mem_p (ωa := [(r, t1.oc K scr ns)]) (ωb := []) (past := [])) ⟨[(r, t1.oc K scr ns)], [], dx, p, d, q, n, ws, rfl, rfl, rfl, rfl⟩ (by kernel_rfl)
  generalize takenS ns t1 8 = t2 at k2 ⊢
  -- the loop
  have hv10 := takenV_range (ns := ns) (t := t2) (m := 10) (by decide)
  have k3 : 0 ≤ (takenS ns t2 10).k := takenS_k k2
  refine df_consX (px_for 5 (Iv K C scr r p dx d q ns n) (ω1 := (r, (takenS ns t2 10).oc K scr ns) :: DeskO C dx p d q n ws []) PassesOwn.never rfl sc_law.nd b.range (de_call D.taken hr1 (da_cons (de_var 12) (da_cons de_int da_nil)) ⟨r, scr, ns, t2, 10, [], _, rfl, ⟨by decide, by decide, k2⟩, rfl, rfl, rfl⟩) ⟨hv10.1, by omega⟩ ⟨takenS ns t2 10, ws, [], ⟨g0, (fun g hg => absurd hg List.not_mem_nil), Nat.le_refl _, k3⟩, rfl, rfl⟩ (fun j ω ρ hj hI => ?_)) (fun ω ρ hI => ?_)
  · exact turn_body hn D b T TD TB A outer s H E hr j (by omega) ω ρ hI
  · obtain ⟨t3, us, past, ⟨g1, _, _, k4⟩, rfl, rfl⟩ := hI
    exact df_ret (ω1 := (r, (takenS ns t3 8).oc K scr ns) :: DeskO C dx p d q n us past) (de_call D.shn hr8 (da_cons (de_var 10) (da_cons (de_var 1) (da_cons (de_var 4) (da_cons (de_var 12) da_nil)))) ⟨r, scr, ns, t3, dx, p, d, q, n, us, past, rfl, ⟨g1, k4⟩, rfl, rfl, rfl⟩ (by simp [dom, DeskO]))
theorem ok_law {CS CI CN CU C c Pt g fI : Addr} {cdg oc kV doc pm ct : Value} {fdI : FuncData} {od an : Option Addr} {osl : Array (Option Value)} (lk : K.lookup f = some ⟨oc, od, .func (PySem.W.fnOf "law" "law" (defArgs s_law) (defBody s_law) (defScope s_law) .none kV doc pm an (.ref c) ct), osl⟩) (hcd : PySem.W.codeIn K (.ref c) "law" = true)
    (D : Defs P w K mg base C CI CN CU fI fdI) (b : Bare mg) (T : ErrA K mg CS CI CN CU) (TD : ToldD P w K mg "_law_told" "work" NT (defArgs s_lt) (defBody s_lt) (defScope s_lt) g cdg) (TB : LamX.TabB base mg c Pt) :
    FnOk P w K mg base CX0 10 f (PySem.W.fnOf "law" "law" (defArgs s_law) (defBody s_law) (defScope s_law) .none kV doc pm an (.ref c) ct) ["script"] (spLaw K Pt) := by
  refine fn_of lk hcd sc_law (fun vs H Q E h => ?_) fun A outer s H vs Q E hr h => ?_
  · obtain ⟨a, ns, rfl, _⟩ := h
    rfl
  · obtain ⟨a, ns, rfl, hP, hS, hl, q⟩ := h
    refine ⟨_, PSs.nox (df_first (X := CxF P w K mg base NL "law" s_law f (.ref c) A outer s H E) (ρ := rho0 NL [.raw (.ref a)]) (a := a) (ns := ns) (seed := 15669) (T := [(Pt, (CxF P w K mg base NL "law" s_law f (.ref c) A outer s H E).env.qual ++ "<lambda>")]) 12 sc_law.nd
      (da_cons (de_var 0) (da_cons de_int (da_cons de_int (da_cons de_int da_nil)))) (fun p => law_body D b T TD TB A outer s H E hr)), EOk_start ⟨.nil, fun p hp => nomatch hp⟩ (.cons rfl .nil), fun p hp => ?_, hS, hl, q⟩
    rw [List.mem_singleton.mp hp]
    exact LamX.TabS.nil hP
end
end G0

set_option Elab.async false
set_option linter.all false
set_option maxRecDepth 100000
set_option maxHeartbeats 4000000
namespace G0
open PySem PySem.Spec PyProof.Rows L2 DL CB ZM
/-! ## what the top has written -/
theorem all_mk {l : PySem.W.OpenLaw} {w : World} {K : PySem.W.Frag} {h : Heap} {mg : Str → Option Value} {fa cL PL d_PEOPLE_BY_ITEMS d_RATIOS CS CI CN CU CD PR f1 f2 f3 f4 f5 f6 f7 f8 f9 f10 f11 f12 f13 f14 f15 f16 f17 f18 f19 f20 f21 f22 f23 f24 f25 f26 f27 f28 f29 f30 f31 f32 f33 f34 f35 f36 f37 f38 f39 f40 f41 f42 f43 f44 f45 f46 f47 f48 f49 f50 f51 f52 : Addr} (X : K.In h) (G : h.Ns mainGlobals mg) (hfa : mg "law" = some (.ref fa)) (own : LamX.OwnTab K fa h) {t1 t2 t3 t4 t5 : Tok} {es_PEOPLE_BY_ITEMS : Array DictEntry} {n_PEOPLE_BY_ITEMS : Nat} {es_RATIOS : Array DictEntry} {n_RATIOS : Nat} {restP : List Value} {eL : Value} {ddL : Option Addr} {vsL : Array Value} {slL : Array (Option Value)}
    {od1 an1 od2 an2 od3 an3 od4 an4 od5 an5 od6 an6 od7 an7 od8 an8 od9 an9 od10 an10 od11 an11 od12 an12 od13 an13 od14 an14 od15 an15 od16 an16 od17 an17 od18 an18 od19 an19 od20 an20 od21 an21 od22 an22 od23 an23 od24 an24 od25 an25 od26 an26 od27 an27 od28 an28 od29 an29 od30 an30 od31 an31 od32 an32 od33 an33 od34 an34 od35 an35 od36 an36 od37 an37 od38 an38 od39 an39 od40 an40 od41 an41 od42 an42 od43 an43 od44 an44 od45 an45 od46 an46 od47 an47 od48 an48 od49 an49 od50 an50 od51 an51 od52 an52 : Option Addr} {sl1 sl2 sl3 sl4 sl5 sl6 sl7 sl8 sl9 sl10 sl11 sl12 sl13 sl14 sl15 sl16 sl17 sl18 sl19 sl20 sl21 sl22 sl23 sl24 sl25 sl26 sl27 sl28 sl29 sl30 sl31 sl32 sl33 sl34 sl35 sl36 sl37 sl38 sl39 sl40 sl41 sl42 sl43 sl44 sl45 sl46 sl47 sl48 sl49 sl50 sl51 sl52 : Array (Option Value)} {oc1 kV1 dc1 pm1 cd1 ct1 oc2 kV2 dc2 pm2 cd2 ct2 oc3 kV3 dc3 pm3 cd3 ct3 oc4 kV4 dc4 pm4 cd4 ct4 oc5 kV5 dc5 pm5 cd5 ct5 oc6 kV6 dc6 pm6 cd6 ct6 oc7 kV7 dc7 pm7 cd7 ct7 oc8 kV8 dc8 pm8 cd8 ct8 oc9 kV9 dc9 pm9 cd9 ct9 oc10 kV10 dc10 pm10 cd10 ct10 oc11 kV11 dc11 pm11 cd11 ct11 oc12 kV12 dc12 pm12 cd12 ct12 oc13 kV13 dc13 pm13 cd13 ct13 oc14 kV14 dc14 pm14 cd14 ct14 oc15 kV15 dc15 pm15 cd15 ct15 oc16 kV16 dc16 pm16 cd16 ct16 oc17 kV17 dc17 pm17 cd17 ct17 oc18 kV18 dc18 pm18 cd18 ct18 oc19 kV19 dc19 pm19 cd19 ct19 oc20 kV20 dc20 pm20 cd20 ct20 oc21 kV21 dc21 pm21 cd21 ct21 oc22 kV22 dc22 pm22 cd22 ct22 oc23 kV23 dc23 pm23 cd23 ct23 oc24 kV24 dc24 pm24 cd24 ct24 oc25 kV25 dc25 pm25 cd25 ct25 oc26 kV26 dc26 pm26 cd26 ct26 oc27 kV27 dc27 pm27 cd27 ct27 oc28 kV28 dc28 pm28 cd28 ct28 oc29 kV29 dc29 pm29 cd29 ct29 oc30 kV30 dc30 pm30 cd30 ct30 oc31 kV31 dc31 pm31 cd31 ct31 oc32 kV32 dc32 pm32 cd32 ct32 oc33 kV33 dc33 pm33 cd33 ct33 oc34 kV34 dc34 pm34 cd34 ct34 oc35 kV35 dc35 pm35 cd35 ct35 oc36 kV36 dc36 pm36 cd36 ct36 oc37 kV37 dc37 pm37 cd37 ct37 oc38 kV38 dc38 pm38 cd38 ct38 oc39 kV39 dc39 pm39 cd39 ct39 oc40 kV40 dc40 pm40 cd40 ct40 oc41 kV41 dc41 pm41 cd41 ct41 oc42 kV42 dc42 pm42 cd42 ct42 oc43 kV43 dc43 pm43 cd43 ct43 oc44 kV44 dc44 pm44 cd44 ct44 oc45 kV45 dc45 pm45 cd45 ct45 oc46 kV46 dc46 pm46 cd46 ct46 oc47 kV47 dc47 pm47 cd47 ct47 oc48 kV48 dc48 pm48 cd48 ct48 oc49 kV49 dc49 pm49 cd49 ct49 oc50 kV50 dc50 pm50 cd50 ct50 oc51 kV51 dc51 pm51 cd51 ct51 oc52 kV52 dc52 pm52 ct52 : Value}
    (a1 : PySem.W.nsIn K mainGlobals "is_integer" = some (some (.ref f1))) (l1 : K.lookup f1 = some ⟨oc1, od1, .func (PySem.W.fnOf "is_integer" "is_integer" (defArgs s_isint) (defBody s_isint) (defScope s_isint) .none kV1 dc1 pm1 an1 cd1 ct1), sl1⟩) (c1 : PySem.W.codeIn K cd1 "is_integer" = true) (k1 : PySem.W.keepIn K (.ref f1) = true)
    (a2 : PySem.W.nsIn K mainGlobals "check_many" = some (some (.ref f2))) (l2 : K.lookup f2 = some ⟨oc2, od2, .func (PySem.W.fnOf "check_many" "check_many" (defArgs s_chkmany) (defBody s_chkmany) (defScope s_chkmany) .none kV2 dc2 pm2 an2 cd2 ct2), sl2⟩) (c2 : PySem.W.codeIn K cd2 "check_many" = true) (k2 : PySem.W.keepIn K (.ref f2) = true)
    (a3 : PySem.W.nsIn K mainGlobals "head_count" = some (some (.ref f3))) (l3 : K.lookup f3 = some ⟨oc3, od3, .func (PySem.W.fnOf "head_count" "head_count" (defArgs s_head) (defBody s_head) (defScope s_head) .none kV3 dc3 pm3 an3 cd3 ct3), sl3⟩) (c3 : PySem.W.codeIn K cd3 "head_count" = true) (k3 : PySem.W.keepIn K (.ref f3) = true)
    (a4 : PySem.W.nsIn K mainGlobals "check_game" = some (some (.ref f4))) (l4 : K.lookup f4 = some ⟨oc4, od4, .func (PySem.W.fnOf "check_game" "check_game" (defArgs s_chkgame) (defBody s_chkgame) (defScope s_chkgame) .none kV4 dc4 pm4 an4 cd4 ct4), sl4⟩) (c4 : PySem.W.codeIn K cd4 "check_game" = true) (k4 : PySem.W.keepIn K (.ref f4) = true)
    (a5 : PySem.W.nsIn K mainGlobals "is_ratio" = some (some (.ref f5))) (l5 : K.lookup f5 = some ⟨oc5, od5, .func (PySem.W.fnOf "is_ratio" "is_ratio" (defArgs s_israt) (defBody s_israt) (defScope s_israt) .none kV5 dc5 pm5 an5 cd5 ct5), sl5⟩) (c5 : PySem.W.codeIn K cd5 "is_ratio" = true) (k5 : PySem.W.keepIn K (.ref f5) = true)
    (a6 : PySem.W.nsIn K mainGlobals "check_rule" = some (some (.ref f6))) (l6 : K.lookup f6 = some ⟨oc6, od6, .func (PySem.W.fnOf "check_rule" "check_rule" (defArgs s_chkrule) (defBody s_chkrule) (defScope s_chkrule) .none kV6 dc6 pm6 an6 cd6 ct6), sl6⟩) (c6 : PySem.W.codeIn K cd6 "check_rule" = true) (k6 : PySem.W.keepIn K (.ref f6) = true)
    (a7 : PySem.W.nsIn K mainGlobals "check_alike" = some (some (.ref f7))) (l7 : K.lookup f7 = some ⟨oc7, od7, .func (PySem.W.fnOf "check_alike" "check_alike" (defArgs s_chkalike) (defBody s_chkalike) (defScope s_chkalike) .none kV7 dc7 pm7 an7 cd7 ct7), sl7⟩) (c7 : PySem.W.codeIn K cd7 "check_alike" = true) (k7 : PySem.W.keepIn K (.ref f7) = true)
    (a8 : PySem.W.nsIn K mainGlobals "check_text" = some (some (.ref f8))) (l8 : K.lookup f8 = some ⟨oc8, od8, .func (PySem.W.fnOf "check_text" "check_text" (defArgs s_ctext) (defBody s_ctext) (defScope s_ctext) .none kV8 dc8 pm8 an8 cd8 ct8), sl8⟩) (c8 : PySem.W.codeIn K cd8 "check_text" = true) (k8 : PySem.W.keepIn K (.ref f8) = true)
    (a9 : PySem.W.nsIn K mainGlobals "all_groups" = some (some (.ref f9))) (l9 : K.lookup f9 = some ⟨oc9, od9, .func (PySem.W.fnOf "all_groups" "all_groups" (defArgs s_all) (defBody s_all) (defScope s_all) .none kV9 dc9 pm9 an9 cd9 ct9), sl9⟩) (c9 : PySem.W.codeIn K cd9 "all_groups" = true) (k9 : PySem.W.keepIn K (.ref f9) = true)
    (a10 : PySem.W.nsIn K mainGlobals "others" = some (some (.ref f10))) (l10 : K.lookup f10 = some ⟨oc10, od10, .func (PySem.W.fnOf "others" "others" (defArgs s_others) (defBody s_others) (defScope s_others) .none kV10 dc10 pm10 an10 cd10 ct10), sl10⟩) (c10 : PySem.W.codeIn K cd10 "others" = true) (k10 : PySem.W.keepIn K (.ref f10) = true)
    (a11 : PySem.W.nsIn K mainGlobals "lowest" = some (some (.ref f11))) (l11 : K.lookup f11 = some ⟨oc11, od11, .func (PySem.W.fnOf "lowest" "lowest" (defArgs s_low) (defBody s_low) (defScope s_low) .none kV11 dc11 pm11 an11 cd11 ct11), sl11⟩) (c11 : PySem.W.codeIn K cd11 "lowest" = true) (k11 : PySem.W.keepIn K (.ref f11) = true)
    (a12 : PySem.W.nsIn K mainGlobals "weighted_sum" = some (some (.ref f12))) (l12 : K.lookup f12 = some ⟨oc12, od12, .func (PySem.W.fnOf "weighted_sum" "weighted_sum" (defArgs s_wsum) (defBody s_wsum) (defScope s_wsum) .none kV12 dc12 pm12 an12 cd12 ct12), sl12⟩) (c12 : PySem.W.codeIn K cd12 "weighted_sum" = true) (k12 : PySem.W.keepIn K (.ref f12) = true)
    (a13 : PySem.W.nsIn K mainGlobals "banzhaf_ratio" = some (some (.ref f13))) (l13 : K.lookup f13 = some ⟨oc13, od13, .func (PySem.W.fnOf "banzhaf_ratio" "banzhaf_ratio" (defArgs s_ban) (defBody s_ban) (defScope s_ban) .none kV13 dc13 pm13 an13 cd13 ct13), sl13⟩) (c13 : PySem.W.codeIn K cd13 "banzhaf_ratio" = true) (k13 : PySem.W.keepIn K (.ref f13) = true)
    (a14 : PySem.W.nsIn K mainGlobals "even_ratio" = some (some (.ref f14))) (l14 : K.lookup f14 = some ⟨oc14, od14, .func (PySem.W.fnOf "even_ratio" "even_ratio" (defArgs s_even) (defBody s_even) (defScope s_even) .none kV14 dc14 pm14 an14 cd14 ct14), sl14⟩) (c14 : PySem.W.codeIn K cd14 "even_ratio" = true) (k14 : PySem.W.keepIn K (.ref f14) = true)
    (a15 : PySem.W.nsIn K mainGlobals "in_turn_ratio" = some (some (.ref f15))) (l15 : K.lookup f15 = some ⟨oc15, od15, .func (PySem.W.fnOf "in_turn_ratio" "in_turn_ratio" (defArgs s_turn) (defBody s_turn) (defScope s_turn) .none kV15 dc15 pm15 an15 cd15 ct15), sl15⟩) (c15 : PySem.W.codeIn K cd15 "in_turn_ratio" = true) (k15 : PySem.W.keepIn K (.ref f15) = true)
    (a16 : PySem.W.nsIn K mainGlobals "last_weight" = some (some (.ref f16))) (l16 : K.lookup f16 = some ⟨oc16, od16, .func (PySem.W.fnOf "last_weight" "last_weight" (defArgs s_lastw) (defBody s_lastw) (defScope s_lastw) .none kV16 dc16 pm16 an16 cd16 ct16), sl16⟩) (c16 : PySem.W.codeIn K cd16 "last_weight" = true) (k16 : PySem.W.keepIn K (.ref f16) = true)
    (a17 : PySem.W.nsIn K mainGlobals "last_ratio" = some (some (.ref f17))) (l17 : K.lookup f17 = some ⟨oc17, od17, .func (PySem.W.fnOf "last_ratio" "last_ratio" (defArgs s_last) (defBody s_last) (defScope s_last) .none kV17 dc17 pm17 an17 cd17 ct17), sl17⟩) (c17 : PySem.W.codeIn K cd17 "last_ratio" = true) (k17 : PySem.W.keepIn K (.ref f17) = true)
    (a18 : PySem.W.nsIn K mainGlobals "own_weight" = some (some (.ref f18))) (l18 : K.lookup f18 = some ⟨oc18, od18, .func (PySem.W.fnOf "own_weight" "own_weight" (defArgs s_ownw) (defBody s_ownw) (defScope s_ownw) .none kV18 dc18 pm18 an18 cd18 ct18), sl18⟩) (c18 : PySem.W.codeIn K cd18 "own_weight" = true) (k18 : PySem.W.keepIn K (.ref f18) = true)
    (a19 : PySem.W.nsIn K mainGlobals "own_ratio" = some (some (.ref f19))) (l19 : K.lookup f19 = some ⟨oc19, od19, .func (PySem.W.fnOf "own_ratio" "own_ratio" (defArgs s_own) (defBody s_own) (defScope s_own) .none kV19 dc19 pm19 an19 cd19 ct19), sl19⟩) (c19 : PySem.W.codeIn K cd19 "own_ratio" = true) (k19 : PySem.W.keepIn K (.ref f19) = true)
    (a20 : PySem.W.nsIn K mainGlobals "with_even_rest" = some (some (.ref f20))) (l20 : K.lookup f20 = some ⟨oc20, od20, .func (PySem.W.fnOf "with_even_rest" "with_even_rest" (defArgs s_wer) (defBody s_wer) (defScope s_wer) .none kV20 dc20 pm20 an20 cd20 ct20), sl20⟩) (c20 : PySem.W.codeIn K cd20 "with_even_rest" = true) (k20 : PySem.W.keepIn K (.ref f20) = true)
    (a21 : PySem.W.nsIn K mainGlobals "last_even_ratio" = some (some (.ref f21))) (l21 : K.lookup f21 = some ⟨oc21, od21, .func (PySem.W.fnOf "last_even_ratio" "last_even_ratio" (defArgs s_leven) (defBody s_leven) (defScope s_leven) .none kV21 dc21 pm21 an21 cd21 ct21), sl21⟩) (c21 : PySem.W.codeIn K cd21 "last_even_ratio" = true) (k21 : PySem.W.keepIn K (.ref f21) = true)
    (a22 : PySem.W.nsIn K mainGlobals "rest_even_ratio" = some (some (.ref f22))) (l22 : K.lookup f22 = some ⟨oc22, od22, .func (PySem.W.fnOf "rest_even_ratio" "rest_even_ratio" (defArgs s_reven) (defBody s_reven) (defScope s_reven) .none kV22 dc22 pm22 an22 cd22 ct22), sl22⟩) (c22 : PySem.W.codeIn K cd22 "rest_even_ratio" = true) (k22 : PySem.W.keepIn K (.ref f22) = true)
    (a23 : PySem.W.nsIn K mainGlobals "shapley_ratio" = some (some (.ref f23))) (l23 : K.lookup f23 = some ⟨oc23, od23, .func (PySem.W.fnOf "shapley_ratio" "shapley_ratio" (defArgs s_sha) (defBody s_sha) (defScope s_sha) .none kV23 dc23 pm23 an23 cd23 ct23), sl23⟩) (c23 : PySem.W.codeIn K cd23 "shapley_ratio" = true) (k23 : PySem.W.keepIn K (.ref f23) = true)
    (a24 : PySem.W.nsIn K mainGlobals "shares" = some (some (.ref f24))) (l24 : K.lookup f24 = some ⟨oc24, od24, .func (PySem.W.fnOf "shares" "shares" (defArgs s_shares) (defBody s_shares) (defScope s_shares) .none kV24 dc24 pm24 an24 cd24 ct24), sl24⟩) (c24 : PySem.W.codeIn K cd24 "shares" = true) (k24 : PySem.W.keepIn K (.ref f24) = true)
    (a25 : PySem.W.nsIn K mainGlobals "names" = some (some (.ref f25))) (l25 : K.lookup f25 = some ⟨oc25, od25, .func (PySem.W.fnOf "names" "names" (defArgs s_names) (defBody s_names) (defScope s_names) .none kV25 dc25 pm25 an25 cd25 ct25), sl25⟩) (c25 : PySem.W.codeIn K cd25 "names" = true) (k25 : PySem.W.keepIn K (.ref f25) = true)
    (a26 : PySem.W.nsIn K mainGlobals "told_rule" = some (some (.ref f26))) (l26 : K.lookup f26 = some ⟨oc26, od26, .func (PySem.W.fnOf "told_rule" "told_rule" (defArgs s_told) (defBody s_told) (defScope s_told) .none kV26 dc26 pm26 an26 cd26 ct26), sl26⟩) (c26 : PySem.W.codeIn K cd26 "told_rule" = true) (k26 : PySem.W.keepIn K (.ref f26) = true)
    (a27 : PySem.W.nsIn K mainGlobals "written_worth" = some (some (.ref f27))) (l27 : K.lookup f27 = some ⟨oc27, od27, .func (PySem.W.fnOf "written_worth" "written_worth" (defArgs s_ww) (defBody s_ww) (defScope s_ww) .none kV27 dc27 pm27 an27 cd27 ct27), sl27⟩) (c27 : PySem.W.codeIn K cd27 "written_worth" = true) (k27 : PySem.W.keepIn K (.ref f27) = true)
    (a28 : PySem.W.nsIn K mainGlobals "group_text" = some (some (.ref f28))) (l28 : K.lookup f28 = some ⟨oc28, od28, .func (PySem.W.fnOf "group_text" "group_text" (defArgs s_gt) (defBody s_gt) (defScope s_gt) .none kV28 dc28 pm28 an28 cd28 ct28), sl28⟩) (c28 : PySem.W.codeIn K cd28 "group_text" = true) (k28 : PySem.W.keepIn K (.ref f28) = true)
    (a29 : PySem.W.nsIn K mainGlobals "ratio_text" = some (some (.ref f29))) (l29 : K.lookup f29 = some ⟨oc29, od29, .func (PySem.W.fnOf "ratio_text" "ratio_text" (defArgs s_rt) (defBody s_rt) (defScope s_rt) .none kV29 dc29 pm29 an29 cd29 ct29), sl29⟩) (c29 : PySem.W.codeIn K cd29 "ratio_text" = true) (k29 : PySem.W.keepIn K (.ref f29) = true)
    (a30 : PySem.W.findIn K (.ref CD) "__init__" = some (some (.ref f30))) (l30 : K.lookup f30 = some ⟨oc30, od30, .func (PySem.W.fnOf "__init__" "Desk.__init__" (defArgs s_dinit) (defBody s_dinit) (defScope s_dinit) .none kV30 dc30 pm30 an30 cd30 ct30), sl30⟩) (c30 : PySem.W.codeIn K cd30 "Desk.__init__" = true) (k30 : PySem.W.keepIn K (.ref f30) = true)
    (i30 : PySem.W.isFn K (.ref f30) = true)
    (a31 : PySem.W.recIn K PR "property" = some (.ref f31 :: restP)) (l31 : K.lookup f31 = some ⟨oc31, od31, .func (PySem.W.fnOf "game" "Desk.game" (defArgs s_dgame) (defBody s_dgame) (defScope s_dgame) .none kV31 dc31 pm31 an31 cd31 ct31), sl31⟩) (c31 : PySem.W.codeIn K cd31 "Desk.game" = true) (k31 : PySem.W.keepIn K (.ref f31) = true)
    (a32 : PySem.W.findIn K (.ref CD) "_shares_text" = some (some (.ref f32))) (l32 : K.lookup f32 = some ⟨oc32, od32, .func (PySem.W.fnOf "_shares_text" "Desk._shares_text" (defArgs s_dsht) (defBody s_dsht) (defScope s_dsht) .none kV32 dc32 pm32 an32 cd32 ct32), sl32⟩) (c32 : PySem.W.codeIn K cd32 "Desk._shares_text" = true) (k32 : PySem.W.keepIn K (.ref f32) = true)
    (i32 : PySem.W.isFn K (.ref f32) = true)
    (a33 : PySem.W.findIn K (.ref CD) "_set_worth" = some (some (.ref f33))) (l33 : K.lookup f33 = some ⟨oc33, od33, .func (PySem.W.fnOf "_set_worth" "Desk._set_worth" (defArgs s_dset) (defBody s_dset) (defScope s_dset) .none kV33 dc33 pm33 an33 cd33 ct33), sl33⟩) (c33 : PySem.W.codeIn K cd33 "Desk._set_worth" = true) (k33 : PySem.W.keepIn K (.ref f33) = true)
    (i33 : PySem.W.isFn K (.ref f33) = true)
    (a34 : PySem.W.findIn K (.ref CD) "run" = some (some (.ref f34))) (l34 : K.lookup f34 = some ⟨oc34, od34, .func (PySem.W.fnOf "run" "Desk.run" (defArgs s_drun) (defBody s_drun) (defScope s_drun) .none kV34 dc34 pm34 an34 cd34 ct34), sl34⟩) (c34 : PySem.W.codeIn K cd34 "Desk.run" = true) (k34 : PySem.W.keepIn K (.ref f34) = true)
    (i34 : PySem.W.isFn K (.ref f34) = true)
    (a35 : PySem.W.findIn K (.ref CD) "undo" = some (some (.ref f35))) (l35 : K.lookup f35 = some ⟨oc35, od35, .func (PySem.W.fnOf "undo" "Desk.undo" (defArgs s_dundo) (defBody s_dundo) (defScope s_dundo) .none kV35 dc35 pm35 an35 cd35 ct35), sl35⟩) (c35 : PySem.W.codeIn K cd35 "Desk.undo" = true) (k35 : PySem.W.keepIn K (.ref f35) = true)
    (i35 : PySem.W.isFn K (.ref f35) = true)
    (a36 : PySem.W.nsIn K mainGlobals "_law_taken" = some (some (.ref f36))) (l36 : K.lookup f36 = some ⟨oc36, od36, .func (PySem.W.fnOf "_law_taken" "_law_taken" (defArgs s_taken) (defBody s_taken) (defScope s_taken) .none kV36 dc36 pm36 an36 cd36 ct36), sl36⟩) (c36 : PySem.W.codeIn K cd36 "_law_taken" = true) (k36 : PySem.W.keepIn K (.ref f36) = true)
    (a37 : PySem.W.nsIn K mainGlobals "_law_pick" = some (some (.ref f37))) (l37 : K.lookup f37 = some ⟨oc37, od37, .func (PySem.W.fnOf "_law_pick" "_law_pick" (defArgs s_pick) (defBody s_pick) (defScope s_pick) .none kV37 dc37 pm37 an37 cd37 ct37), sl37⟩) (c37 : PySem.W.codeIn K cd37 "_law_pick" = true) (k37 : PySem.W.keepIn K (.ref f37) = true)
    (a38 : PySem.W.nsIn K mainGlobals "_law_alike" = some (some (.ref f38))) (l38 : K.lookup f38 = some ⟨oc38, od38, .func (PySem.W.fnOf "_law_alike" "_law_alike" (defArgs s_alike) (defBody s_alike) (defScope s_alike) .none kV38 dc38 pm38 an38 cd38 ct38), sl38⟩) (c38 : PySem.W.codeIn K cd38 "_law_alike" = true) (k38 : PySem.W.keepIn K (.ref f38) = true)
    (a39 : PySem.W.nsIn K mainGlobals "_law_groups" = some (some (.ref f39))) (l39 : K.lookup f39 = some ⟨oc39, od39, .func (PySem.W.fnOf "_law_groups" "_law_groups" (defArgs s_lgs) (defBody s_lgs) (defScope s_lgs) .none kV39 dc39 pm39 an39 cd39 ct39), sl39⟩) (c39 : PySem.W.codeIn K cd39 "_law_groups" = true) (k39 : PySem.W.keepIn K (.ref f39) = true)
    (a40 : PySem.W.nsIn K mainGlobals "_law_with" = some (some (.ref f40))) (l40 : K.lookup f40 = some ⟨oc40, od40, .func (PySem.W.fnOf "_law_with" "_law_with" (defArgs s_with) (defBody s_with) (defScope s_with) .none kV40 dc40 pm40 an40 cd40 ct40), sl40⟩) (c40 : PySem.W.codeIn K cd40 "_law_with" = true) (k40 : PySem.W.keepIn K (.ref f40) = true)
    (a41 : PySem.W.nsIn K mainGlobals "_law_less" = some (some (.ref f41))) (l41 : K.lookup f41 = some ⟨oc41, od41, .func (PySem.W.fnOf "_law_less" "_law_less" (defArgs s_less) (defBody s_less) (defScope s_less) .none kV41 dc41 pm41 an41 cd41 ct41), sl41⟩) (c41 : PySem.W.codeIn K cd41 "_law_less" = true) (k41 : PySem.W.keepIn K (.ref f41) = true)
    (a42 : PySem.W.nsIn K mainGlobals "_law_ratio" = some (some (.ref f42))) (l42 : K.lookup f42 = some ⟨oc42, od42, .func (PySem.W.fnOf "_law_ratio" "_law_ratio" (defArgs s_lrat) (defBody s_lrat) (defScope s_lrat) .none kV42 dc42 pm42 an42 cd42 ct42), sl42⟩) (c42 : PySem.W.codeIn K cd42 "_law_ratio" = true) (k42 : PySem.W.keepIn K (.ref f42) = true)
    (a43 : PySem.W.nsIn K mainGlobals "_law_sum" = some (some (.ref f43))) (l43 : K.lookup f43 = some ⟨oc43, od43, .func (PySem.W.fnOf "_law_sum" "_law_sum" (defArgs s_lsum) (defBody s_lsum) (defScope s_lsum) .none kV43 dc43 pm43 an43 cd43 ct43), sl43⟩) (c43 : PySem.W.codeIn K cd43 "_law_sum" = true) (k43 : PySem.W.keepIn K (.ref f43) = true)
    (a44 : PySem.W.nsIn K mainGlobals "_law_shares" = some (some (.ref f44))) (l44 : K.lookup f44 = some ⟨oc44, od44, .func (PySem.W.fnOf "_law_shares" "_law_shares" (defArgs s_lsh) (defBody s_lsh) (defScope s_lsh) .none kV44 dc44 pm44 an44 cd44 ct44), sl44⟩) (c44 : PySem.W.codeIn K cd44 "_law_shares" = true) (k44 : PySem.W.keepIn K (.ref f44) = true)
    (a45 : PySem.W.nsIn K mainGlobals "_law_orders" = some (some (.ref f45))) (l45 : K.lookup f45 = some ⟨oc45, od45, .func (PySem.W.fnOf "_law_orders" "_law_orders" (defArgs s_ord) (defBody s_ord) (defScope s_ord) .none kV45 dc45 pm45 an45 cd45 ct45), sl45⟩) (c45 : PySem.W.codeIn K cd45 "_law_orders" = true) (k45 : PySem.W.keepIn K (.ref f45) = true)
    (a46 : PySem.W.nsIn K mainGlobals "_law_part" = some (some (.ref f46))) (l46 : K.lookup f46 = some ⟨oc46, od46, .func (PySem.W.fnOf "_law_part" "_law_part" (defArgs s_part) (defBody s_part) (defScope s_part) .none kV46 dc46 pm46 an46 cd46 ct46), sl46⟩) (c46 : PySem.W.codeIn K cd46 "_law_part" = true) (k46 : PySem.W.keepIn K (.ref f46) = true)
    (a47 : PySem.W.nsIn K mainGlobals "_law_names" = some (some (.ref f47))) (l47 : K.lookup f47 = some ⟨oc47, od47, .func (PySem.W.fnOf "_law_names" "_law_names" (defArgs s_lnm) (defBody s_lnm) (defScope s_lnm) .none kV47 dc47 pm47 an47 cd47 ct47), sl47⟩) (c47 : PySem.W.codeIn K cd47 "_law_names" = true) (k47 : PySem.W.keepIn K (.ref f47) = true)
    (a48 : PySem.W.nsIn K mainGlobals "_law_rule" = some (some (.ref f48))) (l48 : K.lookup f48 = some ⟨oc48, od48, .func (PySem.W.fnOf "_law_rule" "_law_rule" (defArgs s_lrule) (defBody s_lrule) (defScope s_lrule) .none kV48 dc48 pm48 an48 cd48 ct48), sl48⟩) (c48 : PySem.W.codeIn K cd48 "_law_rule" = true) (k48 : PySem.W.keepIn K (.ref f48) = true)
    (a49 : PySem.W.nsIn K mainGlobals "_law_told" = some (some (.ref f49))) (l49 : K.lookup f49 = some ⟨oc49, od49, .func (PySem.W.fnOf "_law_told" "_law_told" (defArgs s_lt) (defBody s_lt) (defScope s_lt) .none kV49 dc49 pm49 an49 cd49 ct49), sl49⟩) (c49 : PySem.W.codeIn K cd49 "_law_told" = true) (k49 : PySem.W.keepIn K (.ref f49) = true)
    (a50 : PySem.W.nsIn K mainGlobals "_law_name" = some (some (.ref f50))) (l50 : K.lookup f50 = some ⟨oc50, od50, .func (PySem.W.fnOf "_law_name" "_law_name" (defArgs s_lname) (defBody s_lname) (defScope s_lname) .none kV50 dc50 pm50 an50 cd50 ct50), sl50⟩) (c50 : PySem.W.codeIn K cd50 "_law_name" = true) (k50 : PySem.W.keepIn K (.ref f50) = true)
    (a51 : PySem.W.nsIn K mainGlobals "_law_shown" = some (some (.ref f51))) (l51 : K.lookup f51 = some ⟨oc51, od51, .func (PySem.W.fnOf "_law_shown" "_law_shown" (defArgs s_shn) (defBody s_shn) (defScope s_shn) .none kV51 dc51 pm51 an51 cd51 ct51), sl51⟩) (c51 : PySem.W.codeIn K cd51 "_law_shown" = true) (k51 : PySem.W.keepIn K (.ref f51) = true)
    (a52 : PySem.W.nsIn K mainGlobals "law" = some (some (.ref f52))) (l52 : K.lookup f52 = some ⟨oc52, od52, .func (PySem.W.fnOf "law" "law" (defArgs s_law) (defBody s_law) (defScope s_law) .none kV52 dc52 pm52 an52 (.ref cL) ct52), sl52⟩) (c52 : PySem.W.codeIn K (.ref cL) "law" = true) (k52 : PySem.W.keepIn K (.ref f52) = true)
    (q_FEWEST_PEOPLE : PySem.W.nsIn K mainGlobals "FEWEST_PEOPLE" = some (some (.int 2 t1)))    (q_MOST_PEOPLE : PySem.W.nsIn K mainGlobals "MOST_PEOPLE" = some (some (.int 4 t2)))    (q_WORTH_LIMIT : PySem.W.nsIn K mainGlobals "WORTH_LIMIT" = some (some (.int 1000 t3)))    (q_RATIO_LIMIT : PySem.W.nsIn K mainGlobals "RATIO_LIMIT" = some (some (.int 1000000000000 t4)))    (q_MOST_SIGNS : PySem.W.nsIn K mainGlobals "MOST_SIGNS" = some (some (.int 5 t5)))    (q_combinations : PySem.W.nsIn K mainGlobals "combinations" = some (some (.type "itertools.combinations")))    (q_gcd : PySem.W.nsIn K mainGlobals "gcd" = some (some (.builtin "math.gcd")))    (q_lcm : PySem.W.nsIn K mainGlobals "lcm" = some (some (.builtin "math.lcm")))    (q_factorial : PySem.W.nsIn K mainGlobals "factorial" = some (some (.builtin "math.factorial")))
    (q_PEOPLE_BY_ITEMS : PySem.W.nsIn K mainGlobals "PEOPLE_BY_ITEMS" = some (some (.ref d_PEOPLE_BY_ITEMS))) (r_PEOPLE_BY_ITEMS : K.lookup d_PEOPLE_BY_ITEMS = some ⟨.type "dict", none, .dict es_PEOPLE_BY_ITEMS n_PEOPLE_BY_ITEMS, #[]⟩) (u_PEOPLE_BY_ITEMS : (d_PEOPLE_BY_ITEMS == sysModules) = false) (v_PEOPLE_BY_ITEMS : ILit es_PEOPLE_BY_ITEMS.toList tabP)
    (q_RATIOS : PySem.W.nsIn K mainGlobals "RATIOS" = some (some (.ref d_RATIOS))) (r_RATIOS : K.lookup d_RATIOS = some ⟨.type "dict", none, .dict es_RATIOS n_RATIOS, #[]⟩) (u_RATIOS : (d_RATIOS == sysModules) = false) (v_RATIOS : SLit w.params es_RATIOS.toList [("banzhaf", f13), ("even", f14), ("in turn", f15), ("last", f17), ("last even", f21), ("own", f19), ("rest even", f22), ("shapley", f23)])
    (gS : PySem.W.nsIn K mainGlobals "ShareError" = some (some (.ref CS)))
    (gI : PySem.W.nsIn K mainGlobals "InvalidText" = some (some (.ref CI)))
    (gN : PySem.W.nsIn K mainGlobals "NotText" = some (some (.ref CN)))
    (gU : PySem.W.nsIn K mainGlobals "NothingToUndo" = some (some (.ref CU)))
    (gD : PySem.W.nsIn K mainGlobals "Desk" = some (some (.ref CD)))
    (xI1 : PySem.W.excIn K CI [.type "ValueError", .type "Exception", .type "BaseException", .type "object"] "ValueError.__new__" = true)
    (xI2 : PySem.W.keepIn K (.ref CI) = true)
    (xI3 : PySem.W.subIn K (.ref CI) (.type "BaseException") = some true)
    (xI4 : PySem.W.typeIn K (.ref CI) = some (.type "type"))
    (eI1 : PySem.W.findIn K (.ref CI) "__getattribute__" = some (some (.builtin "BaseException.__getattribute__")))
    (eI2 : PySem.W.findIn K (.ref CI) "__getattr__" = some none)
    (eI3 : PySem.W.hasDictIn K CI = true)
    (eI4 : PySem.W.findIn K (.ref CI) "__class__" = some (some (.builtin "object.__class__")))
    (eI5 : PySem.W.mroIn K CI (.type "object") = some true)
    (mI : PySem.W.exmOne K (.ref CI) (.ref CS) = some true)
    (xN1 : PySem.W.excIn K CN [.type "ValueError", .type "Exception", .type "BaseException", .type "object"] "ValueError.__new__" = true)
    (xN2 : PySem.W.keepIn K (.ref CN) = true)
    (xN3 : PySem.W.subIn K (.ref CN) (.type "BaseException") = some true)
    (xN4 : PySem.W.typeIn K (.ref CN) = some (.type "type"))
    (eN1 : PySem.W.findIn K (.ref CN) "__getattribute__" = some (some (.builtin "BaseException.__getattribute__")))
    (eN2 : PySem.W.findIn K (.ref CN) "__getattr__" = some none)
    (eN3 : PySem.W.hasDictIn K CN = true)
    (eN4 : PySem.W.findIn K (.ref CN) "__class__" = some (some (.builtin "object.__class__")))
    (eN5 : PySem.W.mroIn K CN (.type "object") = some true)
    (mN : PySem.W.exmOne K (.ref CN) (.ref CS) = some true)
    (xU1 : PySem.W.excIn K CU [.type "ValueError", .type "Exception", .type "BaseException", .type "object"] "ValueError.__new__" = true)
    (xU2 : PySem.W.keepIn K (.ref CU) = true)
    (xU3 : PySem.W.subIn K (.ref CU) (.type "BaseException") = some true)
    (xU4 : PySem.W.typeIn K (.ref CU) = some (.type "type"))
    (eU1 : PySem.W.findIn K (.ref CU) "__getattribute__" = some (some (.builtin "BaseException.__getattribute__")))
    (eU2 : PySem.W.findIn K (.ref CU) "__getattr__" = some none)
    (eU3 : PySem.W.hasDictIn K CU = true)
    (eU4 : PySem.W.findIn K (.ref CU) "__class__" = some (some (.builtin "object.__class__")))
    (eU5 : PySem.W.mroIn K CU (.type "object") = some true)
    (mU : PySem.W.exmOne K (.ref CU) (.ref CS) = some true)
    (h1 : PySem.W.specialIn K (.builtin "object.__class__") "__get__" = some (some (.builtin "getset_descriptor.__get__")))
    (h2 : PySem.W.takesIn K (.builtin "object.__class__") = some true)
    (iII : PySem.W.kitOne K (.ref CI) (.ref CI) = some true)
    (iIN : PySem.W.kitOne K (.ref CI) (.ref CN) = some false)
    (iIU : PySem.W.kitOne K (.ref CI) (.ref CU) = some false)
    (iNI : PySem.W.kitOne K (.ref CN) (.ref CI) = some false)
    (iNN : PySem.W.kitOne K (.ref CN) (.ref CN) = some true)
    (iNU : PySem.W.kitOne K (.ref CN) (.ref CU) = some false)
    (iUI : PySem.W.kitOne K (.ref CU) (.ref CI) = some false)
    (iUN : PySem.W.kitOne K (.ref CU) (.ref CN) = some false)
    (iUU : PySem.W.kitOne K (.ref CU) (.ref CU) = some true)
    (pg : PySem.W.plainGet K CD Str.empty = true)
    (hd : PySem.W.hasDictIn K CD = true)
    (po : PySem.W.plainOver K CD = true)
    (sa : PySem.W.findIn K (.ref CD) "__setattr__" = some (some (.builtin "object.__setattr__")))
    (mk : PySem.W.makesIn K CD = true)
    (kc : PySem.W.keepIn K (.ref CD) = true)
    (nM : PySem.W.findIn K (.ref CD) "_many" = some none)
    (nP : PySem.W.findIn K (.ref CD) "_places" = some none)
    (nG : PySem.W.findIn K (.ref CD) "_game" = some none)
    (nE : PySem.W.findIn K (.ref CD) "_earlier" = some none)
    (pA : PySem.W.findIn K (.ref CD) "game" = some (some (.ref PR)))
    (pB : PySem.W.specialIn K (.ref PR) "__get__" = some (some (.builtin "property.__get__")))
    (pC : PySem.W.takesIn K (.ref PR) = some true)
    (hcL : PySem.W.codeHdIn K cL PL = true)
    (lcL : K.lookup cL = some ⟨eL, ddL, .fields vsL, slL⟩)
    (v11 : vsL[11]? = some (.ref PL))
    (nPL : K.lookup PL = none)
    (z_isinstance : PySem.W.nsIn K mainGlobals "isinstance" = some none)    (z_int : PySem.W.nsIn K mainGlobals "int" = some none)    (z_bool : PySem.W.nsIn K mainGlobals "bool" = some none)    (z_str : PySem.W.nsIn K mainGlobals "str" = some none)    (z_tuple : PySem.W.nsIn K mainGlobals "tuple" = some none)    (z_list : PySem.W.nsIn K mainGlobals "list" = some none)    (z_dict : PySem.W.nsIn K mainGlobals "dict" = some none)    (z_len : PySem.W.nsIn K mainGlobals "len" = some none)    (z_range : PySem.W.nsIn K mainGlobals "range" = some none)    (z_all : PySem.W.nsIn K mainGlobals "all" = some none)    (z_sum : PySem.W.nsIn K mainGlobals "sum" = some none)    (z_sorted : PySem.W.nsIn K mainGlobals "sorted" = some none)    (z_zip : PySem.W.nsIn K mainGlobals "zip" = some none)    (z_enumerate : PySem.W.nsIn K mainGlobals "enumerate" = some none)    (z_abs : PySem.W.nsIn K mainGlobals "abs" = some none) :
    LamX.LawAtS l w K CX0 10 63 "script" mg fa h := by
  have e := hfa.symm.trans (PySem.W.mg_of X G a52)
  cases e
  have F1 := fun_mk (st := s_isint) l1 c1 k1
  have F2 := fun_mk (st := s_chkmany) l2 c2 k2
  have F3 := fun_mk (st := s_head) l3 c3 k3
  have F4 := fun_mk (st := s_chkgame) l4 c4 k4
  have F5 := fun_mk (st := s_israt) l5 c5 k5
  have F6 := fun_mk (st := s_chkrule) l6 c6 k6
  have F7 := fun_mk (st := s_chkalike) l7 c7 k7
  have F8 := fun_mk (st := s_ctext) l8 c8 k8
  have F9 := fun_mk (st := s_all) l9 c9 k9
  have F10 := fun_mk (st := s_others) l10 c10 k10
  have F11 := fun_mk (st := s_low) l11 c11 k11
  have F12 := fun_mk (st := s_wsum) l12 c12 k12
  have F13 := fun_mk (st := s_ban) l13 c13 k13
  have F14 := fun_mk (st := s_even) l14 c14 k14
  have F15 := fun_mk (st := s_turn) l15 c15 k15
  have F16 := fun_mk (st := s_lastw) l16 c16 k16
  have F17 := fun_mk (st := s_last) l17 c17 k17
  have F18 := fun_mk (st := s_ownw) l18 c18 k18
  have F19 := fun_mk (st := s_own) l19 c19 k19
  have F20 := fun_mk (st := s_wer) l20 c20 k20
  have F21 := fun_mk (st := s_leven) l21 c21 k21
  have F22 := fun_mk (st := s_reven) l22 c22 k22
  have F23 := fun_mk (st := s_sha) l23 c23 k23
  have F24 := fun_mk (st := s_shares) l24 c24 k24
  have F25 := fun_mk (st := s_names) l25 c25 k25
  have F26 := fun_mk (st := s_told) l26 c26 k26
  have F27 := fun_mk (st := s_ww) l27 c27 k27
  have F28 := fun_mk (st := s_gt) l28 c28 k28
  have F29 := fun_mk (st := s_rt) l29 c29 k29
  have F30 := fun_mk (st := s_dinit) l30 c30 k30
  have F31 := fun_mk (st := s_dgame) l31 c31 k31
  have F32 := fun_mk (st := s_dsht) l32 c32 k32
  have F33 := fun_mk (st := s_dset) l33 c33 k33
  have F34 := fun_mk (st := s_drun) l34 c34 k34
  have F35 := fun_mk (st := s_dundo) l35 c35 k35
  have F36 := fun_mk (st := s_taken) l36 c36 k36
  have F37 := fun_mk (st := s_pick) l37 c37 k37
  have F38 := fun_mk (st := s_alike) l38 c38 k38
  have F39 := fun_mk (st := s_lgs) l39 c39 k39
  have F40 := fun_mk (st := s_with) l40 c40 k40
  have F41 := fun_mk (st := s_less) l41 c41 k41
  have F42 := fun_mk (st := s_lrat) l42 c42 k42
  have F43 := fun_mk (st := s_lsum) l43 c43 k43
  have F44 := fun_mk (st := s_lsh) l44 c44 k44
  have F45 := fun_mk (st := s_ord) l45 c45 k45
  have F46 := fun_mk (st := s_part) l46 c46 k46
  have F47 := fun_mk (st := s_lnm) l47 c47 k47
  have F48 := fun_mk (st := s_lrule) l48 c48 k48
  have F49 := fun_mk (st := s_lt) l49 c49 k49
  have F50 := fun_mk (st := s_lname) l50 c50 k50
  have F51 := fun_mk (st := s_shn) l51 c51 k51
  have F52 := fun_mk (st := s_law) l52 c52 k52
  have b : Bare mg := ⟨PySem.W.mg_none_of X G z_isinstance, PySem.W.mg_none_of X G z_int, PySem.W.mg_none_of X G z_bool, PySem.W.mg_none_of X G z_str, PySem.W.mg_none_of X G z_tuple, PySem.W.mg_none_of X G z_list, PySem.W.mg_none_of X G z_dict, PySem.W.mg_none_of X G z_len, PySem.W.mg_none_of X G z_range, PySem.W.mg_none_of X G z_all, PySem.W.mg_none_of X G z_sum, PySem.W.mg_none_of X G z_sorted, PySem.W.mg_none_of X G z_zip, PySem.W.mg_none_of X G z_enumerate⟩
  have ki_PEOPLE_BY_ITEMS : KI K d_PEOPLE_BY_ITEMS tabP := ⟨⟨es_PEOPLE_BY_ITEMS, n_PEOPLE_BY_ITEMS, r_PEOPLE_BY_ITEMS, u_PEOPLE_BY_ITEMS, v_PEOPLE_BY_ITEMS⟩⟩
  have ks_RATIOS : KS K w d_RATIOS [("banzhaf", f13), ("even", f14), ("in turn", f15), ("last", f17), ("last even", f21), ("own", f19), ("rest even", f22), ("shapley", f23)] := ⟨⟨es_RATIOS, n_RATIOS, r_RATIOS, u_RATIOS, v_RATIOS⟩⟩
  have xI : XC K mg "InvalidText" CI := ⟨(PySem.W.mg_of X G gI), xI1, xI2, xI3, xI4⟩
  have xN : XC K mg "NotText" CN := ⟨(PySem.W.mg_of X G gN), xN1, xN2, xN3, xN4⟩
  have xU : XC K mg "NothingToUndo" CU := ⟨(PySem.W.mg_of X G gU), xU1, xU2, xU3, xU4⟩
  have dc : DCl K CD := ⟨⟨pg, hd, po, sa⟩, nM, nP, nG, nE⟩
  have TA : ErrA K mg CS CI CN CU := ⟨⟨(PySem.W.mg_of X G gS), (PySem.W.mg_of X G gI), (PySem.W.mg_of X G gN), (PySem.W.mg_of X G gU)⟩, ⟨⟨eI1, eI2, xI3, eI3, eI4, h1, h2, eI5⟩, mI, iII, iIN, iIU⟩, ⟨⟨eN1, eN2, xN3, eN3, eN4, h1, h2, eN5⟩, mN, iNI, iNN, iNU⟩, ⟨⟨eU1, eU2, xU3, eU3, eU4, h1, h2, eU5⟩, mU, iUI, iUN, iUU⟩⟩
  have TD : ToldD l.prog w K mg "_law_told" "work" NT (defArgs s_lt) (defBody s_lt) (defScope s_lt) f49 cd49 := ⟨(PySem.W.mg_of X G a49), k49, ⟨_, _, _, _, _, _, _, _, _, l49, F49.binds (ps := ["work"]) fun _ _ _ _ _ _ us hl => match us, hl with | [_], _ => rfl⟩, c49, sc_lt, rfl, .inl rfl⟩
  have hpr : PropOf K CD "game" PR f31 := ⟨pA, pB, pC, ⟨_, a31⟩⟩
  have hgb := F31.binds (ps := ["self"]) fun _ _ _ _ _ _ us hl => match us, hl with | [_], _ => rfl
  have hib := F30.binds (ps := ["self", "many"]) fun _ _ _ _ _ _ us hl => match us, hl with | [_, _], _ => rfl
  have hP : h.get? PL = some { cls := .none, data := .fields #[] } := own cL PL _ _ _ _ _ _ l52 rfl rfl lcL v11
  refine ⟨PySem.W.fnOf "law" "law" (defArgs s_law) (defBody s_law) (defScope s_law) .none kV52 dc52 pm52 an52 (.ref cL) ct52, [(cL, PL)], spLaw K PL, fun p hp => by rw [List.mem_singleton.mp hp]; exact hP, fun p hp => by rw [List.mem_singleton.mp hp]; exact nPL, fun p hp => by rw [List.mem_singleton.mp hp]; exact PySem.W.codeHd_of_K X hcL, fun s v => .of_eq rfl, fun H a ns hl _ hT hS => ⟨a, ns, rfl, hT _ List.mem_cons_self, hS, hl, fun _ => rfl⟩, fun base _ _ TBs => ?_⟩
  have I_isint := ok_isint (P := l.prog) (w := w) (base := base) F1 (PySem.W.mg_of X G a1) b
  have I_chkmany := ok_chkmany (P := l.prog) (w := w) (base := base) F2 (PySem.W.mg_of X G a2) b (PySem.W.mg_of X G q_FEWEST_PEOPLE) (PySem.W.mg_of X G q_MOST_PEOPLE) I_isint
  have I_head := ok_head (P := l.prog) (w := w) (base := base) F3 (PySem.W.mg_of X G a3) b (PySem.W.mg_of X G q_PEOPLE_BY_ITEMS) ki_PEOPLE_BY_ITEMS
  have I_chkgame := ok_chkgame (P := l.prog) (w := w) (base := base) F4 (PySem.W.mg_of X G a4) b (PySem.W.mg_of X G q_PEOPLE_BY_ITEMS) ki_PEOPLE_BY_ITEMS (PySem.W.mg_of X G q_WORTH_LIMIT) I_isint
  have I_israt := ok_israt (P := l.prog) (w := w) (base := base) F5 (PySem.W.mg_of X G a5) b (PySem.W.mg_of X G q_RATIO_LIMIT) (PySem.W.mg_of X G q_gcd) I_isint
  have I_chkrule := ok_chkrule (P := l.prog) (w := w) (base := base) F6 (PySem.W.mg_of X G a6) b (PySem.W.mg_of X G q_FEWEST_PEOPLE) (PySem.W.mg_of X G q_MOST_PEOPLE) I_israt
  have I_chkalike := ok_chkalike (P := l.prog) (w := w) (base := base) F7 (PySem.W.mg_of X G a7) b I_head
  have I_ctext := ok_ctext (P := l.prog) (w := w) (base := base) F8 (PySem.W.mg_of X G a8) b xN
  have I_all := ok_all (P := l.prog) (w := w) (base := base) F9 (PySem.W.mg_of X G a9) b (PySem.W.mg_of X G q_combinations)
  have I_others := ok_others (P := l.prog) (w := w) (base := base) F10 (PySem.W.mg_of X G a10) b
  have I_low := ok_low (P := l.prog) (w := w) (base := base) F11 (PySem.W.mg_of X G a11) (PySem.W.mg_of X G q_gcd)
  have I_wsum := ok_wsum (P := l.prog) (w := w) (base := base) F12 (PySem.W.mg_of X G a12) b (PySem.W.mg_of X G q_lcm) I_low
  have I_ban := ok_ban (P := l.prog) (w := w) (base := base) F13 (PySem.W.mg_of X G a13) I_low
  have I_even := ok_even (P := l.prog) (w := w) (base := base) F14 (PySem.W.mg_of X G a14) b I_low
  have I_turn := ok_turn (P := l.prog) (w := w) (base := base) F15 (PySem.W.mg_of X G a15) b
  have I_lastw := ok_lastw (P := l.prog) (w := w) (base := base) F16 (PySem.W.mg_of X G a16) b I_others
  have I_last := ok_last (P := l.prog) (w := w) (base := base) F17 (PySem.W.mg_of X G a17) I_lastw
  have I_ownw := ok_ownw (P := l.prog) (w := w) (base := base) F18 (PySem.W.mg_of X G a18) b
  have I_own := ok_own (P := l.prog) (w := w) (base := base) F19 (PySem.W.mg_of X G a19) I_ownw
  have I_wer := ok_wer (P := l.prog) (w := w) (base := base) F20 (PySem.W.mg_of X G a20) b I_low
  have I_leven := ok_leven (P := l.prog) (w := w) (base := base) F21 (PySem.W.mg_of X G a21) I_wer (PySem.W.mg_of X G a16) I_lastw
  have I_reven := ok_reven (P := l.prog) (w := w) (base := base) F22 (PySem.W.mg_of X G a22) I_wer (PySem.W.mg_of X G a18) I_ownw
  have I_sha := ok_sha (P := l.prog) (w := w) (base := base) F23 (PySem.W.mg_of X G a23) b (PySem.W.mg_of X G q_factorial) I_low
  have I_shares := ok_shares (P := l.prog) (w := w) (base := base) F24 (PySem.W.mg_of X G a24) b I_chkrule I_chkgame I_chkalike I_wsum
  have I_names := ok_names (P := l.prog) (w := w) (base := base) F25 (PySem.W.mg_of X G a25) b (PySem.W.mg_of X G q_RATIOS) ks_RATIOS rfl
  have T : TabOk l.prog w K mg base [("banzhaf", f13), ("even", f14), ("in turn", f15), ("last", f17), ("last even", f21), ("own", f19), ("rest even", f22), ("shapley", f23)] := by
    intro x hx
    simp only [names8, List.mem_cons, List.not_mem_nil, or_false] at hx
    rcases hx with e | e | e | e | e | e | e | e <;> subst e
    · exact ⟨_, 2, by decide, rfl, dfa_of I_ban (PySem.W.mg_of X G a13)⟩
    · exact ⟨_, 2, by decide, rfl, dfa_of I_even (PySem.W.mg_of X G a14)⟩
    · exact ⟨_, 1, by decide, rfl, dfa_of I_turn (PySem.W.mg_of X G a15)⟩
    · exact ⟨_, 3, by decide, rfl, dfa_of I_last (PySem.W.mg_of X G a17)⟩
    · exact ⟨_, 4, by decide, rfl, dfa_of I_leven (PySem.W.mg_of X G a21)⟩
    · exact ⟨_, 3, by decide, rfl, dfa_of I_own (PySem.W.mg_of X G a19)⟩
    · exact ⟨_, 4, by decide, rfl, dfa_of I_reven (PySem.W.mg_of X G a22)⟩
    · exact ⟨_, 2, by decide, rfl, dfa_of I_sha (PySem.W.mg_of X G a23)⟩
  have I_told := ok_told (P := l.prog) (w := w) (base := base) F26 (PySem.W.mg_of X G a26) b (PySem.W.mg_of X G q_RATIOS) ks_RATIOS T I_names I_chkmany I_all
  have I_ww := ok_ww (P := l.prog) (w := w) (base := base) F27 (PySem.W.mg_of X G a27) b (PySem.W.mg_of X G q_MOST_SIGNS) (PySem.W.mg_of X G q_WORTH_LIMIT) I_isint
  have I_gt := ok_gt (P := l.prog) (w := w) (base := base) F28 (PySem.W.mg_of X G a28) b
  have I_rt := ok_rt (P := l.prog) (w := w) (base := base) F29 (PySem.W.mg_of X G a29) b
  have I_dinit := ok_dinit (P := l.prog) (w := w) (base := base) F30 dc b I_chkmany I_all I_gt
  have I_dgame := ok_dgame (P := l.prog) (w := w) (base := base) (mg := mg) F31 dc
  have I_dsht := ok_dsht (P := l.prog) (w := w) (base := base) F32 ⟨a32, i32, k32⟩ dc b I_shares I_told I_rt
  have I_dset := ok_dset (P := l.prog) (w := w) (base := base) F33 ⟨a33, i33, k33⟩ dc b xI I_ww
  have I_drun := ok_drun (P := l.prog) (w := w) (base := base) F34 ⟨a34, i34, k34⟩ dc b I_ctext I_names I_dsht I_dset
  have I_dundo := ok_dundo (P := l.prog) (w := w) (base := base) F35 ⟨a35, i35, k35⟩ dc xU
  have I_taken := ok_taken (P := l.prog) (w := w) (base := base) F36 (PySem.W.mg_of X G a36) b
  have I_pick := ok_pick (P := l.prog) (w := w) (base := base) F37 (PySem.W.mg_of X G a37) b I_taken
  have I_alike := ok_alike (P := l.prog) (w := w) (base := base) F38 (PySem.W.mg_of X G a38) b 1
  have I_lgs := ok_lgs (P := l.prog) (w := w) (base := base) F39 (PySem.W.mg_of X G a39) b
  have I_with := ok_with (P := l.prog) (w := w) (base := base) F40 (PySem.W.mg_of X G a40) b
  have I_less := ok_less (P := l.prog) (w := w) (base := base) F41 (PySem.W.mg_of X G a41) b
  have I_lrat := ok_lrat (P := l.prog) (w := w) (base := base) F42 (PySem.W.mg_of X G a42) (PySem.W.mg_none_of X G z_abs)
  have I_lsum := ok_lsum (P := l.prog) (w := w) (base := base) F43 (PySem.W.mg_of X G a43) I_lrat
  have I_lsh := ok_lsh (P := l.prog) (w := w) (base := base) F44 (PySem.W.mg_of X G a44) b I_lsum
  have I_ord := ok_ord (P := l.prog) (w := w) (base := base) F45 (PySem.W.mg_of X G a45) b 3
  have I_part := ok_part (P := l.prog) (w := w) (base := base) F46 (PySem.W.mg_of X G a46) b I_ord I_with I_lgs I_less I_lrat
  have I_lnm := ok_lnm (P := l.prog) (w := w) (base := base) F47 (PySem.W.mg_of X G a47)
  have I_lrule := ok_lrule (P := l.prog) (w := w) (base := base) F48 (PySem.W.mg_of X G a48) b I_part I_lgs
  have I_lname := ok_lname (P := l.prog) (w := w) (base := base) F50 (PySem.W.mg_of X G a50) b
  have I_shn := ok_shn (P := l.prog) (w := w) (base := base) F51 (PySem.W.mg_of X G a51) b dc hpr I_dgame hgb I_drun I_lgs I_alike I_lname I_pick I_lnm I_lsh I_lrule
  exact ok_law l52 c52 ⟨I_taken, I_pick, I_lgs, I_lname, I_shn, I_drun, I_dundo, dc, ⟨mk, a30, i30, kc⟩, I_dinit, hib, (PySem.W.mg_of X G gD)⟩ b TA TD (TBs _ List.mem_cons_self)
end G0

open PySem PySem.W PyProof.Rows
set_option maxHeartbeats 0 in
theorem PySem.Challenge.cw_worthshares_k09_whole_desks_holds : PySem.Challenge.rw_worthshares_k09_whole_desks.Holds := by
  w_on; o_law; k_head; (case hw => w_witness2)
  k_fill
  refine LamX.walk_ofOwn (l := PySem.Challenge.rw_worthshares_k09_whole_desks) (n := 63) (k := 10) (x := "script") (CX := fun _ => L2.CX0) rfl (by decide) rfl ⟨rfl, by decide, by decide⟩ (by rfl) (fun w h Y => PySem.W.km_in_of Y) ?F (fun _ _ _ _ _ h => h)
  case F =>
    intro w mg fa h Y KX G hmg own
    refine' G0.all_mk KX G hmg own ?a1 ?l1 ?c1 ?k1 ?a2 ?l2 ?c2 ?k2 ?a3 ?l3 ?c3 ?k3 ?a4 ?l4 ?c4 ?k4 ?a5 ?l5 ?c5 ?k5 ?a6 ?l6 ?c6 ?k6 ?a7 ?l7 ?c7 ?k7 ?a8 ?l8 ?c8 ?k8 ?a9 ?l9 ?c9 ?k9 ?a10 ?l10 ?c10 ?k10 ?a11 ?l11 ?c11 ?k11 ?a12 ?l12 ?c12 ?k12 ?a13 ?l13 ?c13 ?k13 ?a14 ?l14 ?c14 ?k14 ?a15 ?l15 ?c15 ?k15 ?a16 ?l16 ?c16 ?k16 ?a17 ?l17 ?c17 ?k17 ?a18 ?l18 ?c18 ?k18 ?a19 ?l19 ?c19 ?k19 ?a20 ?l20 ?c20 ?k20 ?a21 ?l21 ?c21 ?k21 ?a22 ?l22 ?c22 ?k22 ?a23 ?l23 ?c23 ?k23 ?a24 ?l24 ?c24 ?k24 ?a25 ?l25 ?c25 ?k25 ?a26 ?l26 ?c26 ?k26 ?a27 ?l27 ?c27 ?k27 ?a28 ?l28 ?c28 ?k28 ?a29 ?l29 ?c29 ?k29 ?a30 ?l30 ?c30 ?k30 ?i30 ?a31 ?l31 ?c31 ?k31 ?a32 ?l32 ?c32 ?k32 ?i32 ?a33 ?l33 ?c33 ?k33 ?i33 ?a34 ?l34 ?c34 ?k34 ?i34 ?a35 ?l35 ?c35 ?k35 ?i35 ?a36 ?l36 ?c36 ?k36 ?a37 ?l37 ?c37 ?k37 ?a38 ?l38 ?c38 ?k38 ?a39 ?l39 ?c39 ?k39 ?a40 ?l40 ?c40 ?k40 ?a41 ?l41 ?c41 ?k41 ?a42 ?l42 ?c42 ?k42 ?a43 ?l43 ?c43 ?k43 ?a44 ?l44 ?c44 ?k44 ?a45 ?l45 ?c45 ?k45 ?a46 ?l46 ?c46 ?k46 ?a47 ?l47 ?c47 ?k47 ?a48 ?l48 ?c48 ?k48 ?a49 ?l49 ?c49 ?k49 ?a50 ?l50 ?c50 ?k50 ?a51 ?l51 ?c51 ?k51 ?a52 ?l52 ?c52 ?k52 ?q_FEWEST_PEOPLE ?q_MOST_PEOPLE ?q_WORTH_LIMIT ?q_RATIO_LIMIT ?q_MOST_SIGNS ?q_combinations ?q_gcd ?q_lcm ?q_factorial ?q_PEOPLE_BY_ITEMS ?r_PEOPLE_BY_ITEMS ?u_PEOPLE_BY_ITEMS ?v_PEOPLE_BY_ITEMS ?q_RATIOS ?r_RATIOS ?u_RATIOS ?v_RATIOS ?gS ?gI ?gN ?gU ?gD ?xI1 ?xI2 ?xI3 ?xI4 ?eI1 ?eI2 ?eI3 ?eI4 ?eI5 ?mI ?xN1 ?xN2 ?xN3 ?xN4 ?eN1 ?eN2 ?eN3 ?eN4 ?eN5 ?mN ?xU1 ?xU2 ?xU3 ?xU4 ?eU1 ?eU2 ?eU3 ?eU4 ?eU5 ?mU ?h1 ?h2 ?iII ?iIN ?iIU ?iNI ?iNN ?iNU ?iUI ?iUN ?iUU ?pg ?hd ?po ?sa ?mk ?kc ?nM ?nP ?nG ?nE ?pA ?pB ?pC ?hcL ?lcL ?v11 ?nPL ?z_isinstance ?z_int ?z_bool ?z_str ?z_tuple ?z_list ?z_dict ?z_len ?z_range ?z_all ?z_sum ?z_sorted ?z_zip ?z_enumerate ?z_abs
    (case gD => k_is)
    (case pA => k_is)
    (case a1 => k_is)
    (case l1 => k_is)
    (case c1 => k_is)
    (case k1 => k_is)
    (case a2 => k_is)
    (case l2 => k_is)
    (case c2 => k_is)
    (case k2 => k_is)
    (case a3 => k_is)
    (case l3 => k_is)
    (case c3 => k_is)
    (case k3 => k_is)
    (case a4 => k_is)
    (case l4 => k_is)
    (case c4 => k_is)
    (case k4 => k_is)
    (case a5 => k_is)
    (case l5 => k_is)
    (case c5 => k_is)
    (case k5 => k_is)
    (case a6 => k_is)
    (case l6 => k_is)
    (case c6 => k_is)
    (case k6 => k_is)
    (case a7 => k_is)
    (case l7 => k_is)
    (case c7 => k_is)
    (case k7 => k_is)
    (case a8 => k_is)
    (case l8 => k_is)
    (case c8 => k_is)
    (case k8 => k_is)
    (case a9 => k_is)
    (case l9 => k_is)
    (case c9 => k_is)
    (case k9 => k_is)
    (case a10 => k_is)
    (case l10 => k_is)
    (case c10 => k_is)
    (case k10 => k_is)
    (case a11 => k_is)
    (case l11 => k_is)
    (case c11 => k_is)
    (case k11 => k_is)
    (case a12 => k_is)
    (case l12 => k_is)
    (case c12 => k_is)
    (case k12 => k_is)
    (case a13 => k_is)
    (case l13 => k_is)
    (case c13 => k_is)
    (case k13 => k_is)
    (case a14 => k_is)
    (case l14 => k_is)
    (case c14 => k_is)
    (case k14 => k_is)
    (case a15 => k_is)
    (case l15 => k_is)
    (case c15 => k_is)
    (case k15 => k_is)
    (case a16 => k_is)
    (case l16 => k_is)
    (case c16 => k_is)
    (case k16 => k_is)
    (case a17 => k_is)
    (case l17 => k_is)
    (case c17 => k_is)
    (case k17 => k_is)
    (case a18 => k_is)
    (case l18 => k_is)
    (case c18 => k_is)
    (case k18 => k_is)
    (case a19 => k_is)
    (case l19 => k_is)
    (case c19 => k_is)
    (case k19 => k_is)
    (case a20 => k_is)
    (case l20 => k_is)
    (case c20 => k_is)
    (case k20 => k_is)
    (case a21 => k_is)
    (case l21 => k_is)
    (case c21 => k_is)
    (case k21 => k_is)
    (case a22 => k_is)
    (case l22 => k_is)
    (case c22 => k_is)
    (case k22 => k_is)
    (case a23 => k_is)
    (case l23 => k_is)
    (case c23 => k_is)
    (case k23 => k_is)
    (case a24 => k_is)
    (case l24 => k_is)
    (case c24 => k_is)
    (case k24 => k_is)
    (case a25 => k_is)
    (case l25 => k_is)
    (case c25 => k_is)
    (case k25 => k_is)
    (case a26 => k_is)
    (case l26 => k_is)
    (case c26 => k_is)
    (case k26 => k_is)
    (case a27 => k_is)
    (case l27 => k_is)
    (case c27 => k_is)
    (case k27 => k_is)
    (case a28 => k_is)
    (case l28 => k_is)
    (case c28 => k_is)
    (case k28 => k_is)
    (case a29 => k_is)
    (case l29 => k_is)
    (case c29 => k_is)
    (case k29 => k_is)
    (case a30 => k_is)
    (case l30 => k_is)
    (case c30 => k_is)
    (case k30 => k_is)
    (case i30 => k_is)
    (case a31 => k_is)
    (case l31 => k_is)
    (case c31 => k_is)
    (case k31 => k_is)
    (case a32 => k_is)
    (case l32 => k_is)
    (case c32 => k_is)
    (case k32 => k_is)
    (case i32 => k_is)
    (case a33 => k_is)
    (case l33 => k_is)
    (case c33 => k_is)
    (case k33 => k_is)
    (case i33 => k_is)
    (case a34 => k_is)
    (case l34 => k_is)
    (case c34 => k_is)
    (case k34 => k_is)
    (case i34 => k_is)
    (case a35 => k_is)
    (case l35 => k_is)
    (case c35 => k_is)
    (case k35 => k_is)
    (case i35 => k_is)
    (case a36 => k_is)
    (case l36 => k_is)
    (case c36 => k_is)
    (case k36 => k_is)
    (case a37 => k_is)
    (case l37 => k_is)
    (case c37 => k_is)
    (case k37 => k_is)
    (case a38 => k_is)
    (case l38 => k_is)
    (case c38 => k_is)
    (case k38 => k_is)
    (case a39 => k_is)
    (case l39 => k_is)
    (case c39 => k_is)
    (case k39 => k_is)
    (case a40 => k_is)
    (case l40 => k_is)
    (case c40 => k_is)
    (case k40 => k_is)
    (case a41 => k_is)
    (case l41 => k_is)
    (case c41 => k_is)
    (case k41 => k_is)
    (case a42 => k_is)
    (case l42 => k_is)
    (case c42 => k_is)
    (case k42 => k_is)
    (case a43 => k_is)
    (case l43 => k_is)
    (case c43 => k_is)
    (case k43 => k_is)
    (case a44 => k_is)
    (case l44 => k_is)
    (case c44 => k_is)
    (case k44 => k_is)
    (case a45 => k_is)
    (case l45 => k_is)
    (case c45 => k_is)
    (case k45 => k_is)
    (case a46 => k_is)
    (case l46 => k_is)
    (case c46 => k_is)
    (case k46 => k_is)
    (case a47 => k_is)
    (case l47 => k_is)
    (case c47 => k_is)
    (case k47 => k_is)
    (case a48 => k_is)
    (case l48 => k_is)
    (case c48 => k_is)
    (case k48 => k_is)
    (case a49 => k_is)
    (case l49 => k_is)
    (case c49 => k_is)
    (case k49 => k_is)
    (case a50 => k_is)
    (case l50 => k_is)
    (case c50 => k_is)
    (case k50 => k_is)
    (case a51 => k_is)
    (case l51 => k_is)
    (case c51 => k_is)
    (case k51 => k_is)
    (case a52 => k_is)
    (case l52 => k_is)
    (case c52 => k_is)
    (case k52 => k_is)
    (case q_FEWEST_PEOPLE => k_is)
    (case q_MOST_PEOPLE => k_is)
    (case q_WORTH_LIMIT => k_is)
    (case q_RATIO_LIMIT => k_is)
    (case q_MOST_SIGNS => k_is)
    (case q_combinations => k_is)
    (case q_gcd => k_is)
    (case q_lcm => k_is)
    (case q_factorial => k_is)
    (case q_PEOPLE_BY_ITEMS => k_is)
    (case r_PEOPLE_BY_ITEMS => k_is)
    (case u_PEOPLE_BY_ITEMS => decide)
    (case v_PEOPLE_BY_ITEMS => exact ⟨⟨_, rfl⟩, by decide +kernel, ⟨_, rfl⟩, ⟨_, rfl⟩, by decide +kernel, ⟨_, rfl⟩, ⟨_, rfl⟩, by decide +kernel, ⟨_, rfl⟩, True.intro⟩)
    (case q_RATIOS => k_is)
    (case r_RATIOS => k_is)
    (case u_RATIOS => decide)
    (case v_RATIOS => exact ⟨⟨_, rfl⟩, rfl, rfl, ⟨_, rfl⟩, rfl, rfl, ⟨_, rfl⟩, rfl, rfl, ⟨_, rfl⟩, rfl, rfl, ⟨_, rfl⟩, rfl, rfl, ⟨_, rfl⟩, rfl, rfl, ⟨_, rfl⟩, rfl, rfl, ⟨_, rfl⟩, rfl, rfl, True.intro⟩)
    (case gS => k_is)
    (case gI => k_is)
    (case gN => k_is)
    (case gU => k_is)
    (case xI1 => k_exc)
    (case xI2 => k_is)
    (case xI3 => k_is)
    (case xI4 => k_is)
    (case eI1 => k_is)
    (case eI2 => k_is)
    (case eI3 => k_is)
    (case eI4 => k_is)
    (case eI5 => k_is)
    (case mI => kts_exm)
    (case xN1 => k_exc)
    (case xN2 => k_is)
    (case xN3 => k_is)
    (case xN4 => k_is)
    (case eN1 => k_is)
    (case eN2 => k_is)
    (case eN3 => k_is)
    (case eN4 => k_is)
    (case eN5 => k_is)
    (case mN => kts_exm)
    (case xU1 => k_exc)
    (case xU2 => k_is)
    (case xU3 => k_is)
    (case xU4 => k_is)
    (case eU1 => k_is)
    (case eU2 => k_is)
    (case eU3 => k_is)
    (case eU4 => k_is)
    (case eU5 => k_is)
    (case mU => kts_exm)
    (case h1 => k_is)
    (case h2 => k_is)
    (case iII => kit_is)
    (case iIN => kit_is)
    (case iIU => kit_is)
    (case iNI => kit_is)
    (case iNN => kit_is)
    (case iNU => kit_is)
    (case iUI => kit_is)
    (case iUN => kit_is)
    (case iUU => kit_is)
    (case pg => k_is)
    (case hd => k_is)
    (case po => k_is)
    (case sa => k_is)
    (case mk => k_is)
    (case kc => k_is)
    (case nM => k_is)
    (case nP => k_is)
    (case nG => k_is)
    (case nE => k_is)
    (case pB => k_is)
    (case pC => k_is)
    (case hcL => kernel_rfl)
    (case lcL => k_is)
    (case v11 => rfl)
    (case nPL => first | rfl | k_is | decide)
    (case z_isinstance => k_is)
    (case z_int => k_is)
    (case z_bool => k_is)
    (case z_str => k_is)
    (case z_tuple => k_is)
    (case z_list => k_is)
    (case z_dict => k_is)
    (case z_len => k_is)
    (case z_range => k_is)
    (case z_all => k_is)
    (case z_sum => k_is)
    (case z_sorted => k_is)
    (case z_zip => k_is)
    (case z_enumerate => k_is)
    (case z_abs => k_is)
