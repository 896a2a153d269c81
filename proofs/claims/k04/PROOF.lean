import PyProof.Rows.All
import Wide.All
import OpenK.AllK
import Wide.FinOn
import HandS.ForMost
import HandS.Flow
import HandS.Codes
import HandS.IsInst
import HandS.TupLe
import HandS.Defaults
import HandS.TupAny
import HandS.Rev
import HandS.More
import HandS.SortKw
import PyProof.MinMaxWalk
import PyProof.WalkInts
import PyProof.AutoSeq1
import KE.SortData
import HandS.Star
import HandS.SortOrd
import PySem.Challenge.RW_eacharm_k04_least_causes_all_told
import Lean
import KE.KStateDown
import HandS.Ends
import HandS.Words
import HandS.WordsExc
import HandS.Head0
import HandS.Head1
import HandS.Head2
import HandS.HeadEnd
import HandS.HeadHook1
import HandS.HeadHook2
set_option Elab.async false
set_option linter.all false
set_option maxRecDepth 100000
set_option maxHeartbeats 0
/-! A layer of my own over the hand layer: values without addresses. A value is a datum (None, truths, numbers, texts, lists and tuples of these) or the address of a list or dict that may change; what is frozen stands in a heap of its own that only grows. -/
namespace L3
open PySem PySem.Spec PyProof.Rows L2

abbrev Fg := PySem.W.Frag
inductive U where
  | d (x : PyData)
  | r (a : Addr)
abbrev Rho := List (Option U)
inductive MO where
  | lst (us : List U)
  | dct (kvs : List (Key × U))
  | hand
abbrev Mu := Addr → Option MO
def put (m : Mu) (a : Addr) (o : MO) : Mu := fun b => if b = a then some o else m b
def del (m : Mu) (a : Addr) : Mu := fun b => if b = a then none else m b
theorem put_same {m : Mu} {a : Addr} {o : MO} : put m a o a = some o := if_pos rfl
theorem put_ne {m : Mu} {a b : Addr} {o : MO} (h : b ≠ a) : put m a o b = m b := if_neg h
theorem put_put {m : Mu} {a : Addr} {o p : MO} : put (put m a o) a p = put m a p := by
  funext b
  unfold put
  split <;> rfl
theorem put_id {m : Mu} {a : Addr} {o : MO} (h : m a = some o) : put m a o = m := by
  funext b
  unfold put
  split
  · rename_i e
    rw [e, h]
  · rfl
theorem del_same {m : Mu} {a : Addr} : del m a a = none := if_pos rfl
theorem del_ne {m : Mu} {a b : Addr} (h : b ≠ a) : del m a b = m b := if_neg h
theorem del_put {m : Mu} {a : Addr} {o : MO} (h : m a = none) : del (put m a o) a = m := by
  funext b
  unfold del put
  split
  · rename_i e
    rw [e, h]
  · rfl
theorem del_put2 {m : Mu} {a : Addr} {o : MO} : del (put m a o) a = del m a := by
  funext b
  unfold del put
  split <;> rfl
theorem mne {m : Mu} {a b : Addr} {o : MO} (h : m a = some o) (h' : m b = none) : a ≠ b := fun e => by
  rw [e, h'] at h
  cases h

def Ext (H H' : Hp) : Prop := ∀ a o, H a = some o → H' a = some o
theorem Ext.refl (H : Hp) : Ext H H := fun _ _ h => h
theorem Ext.trans {H H1 H2 : Hp} (a : Ext H H1) (b : Ext H1 H2) : Ext H H2 := fun x o h => b x o (a x o h)
theorem Ext.new {H : Hp} {p : Addr} {o : HO} (h : H p = none) : Ext H (upd H p o) := fun a u e => by
  rw [upd_ne (ne_of_none e h)]
  exact e

def TupAt (K : Fg) (G : Hp) (a : Addr) (xs : List V) : Prop :=
  G a = some (.tup xs) ∨ ∃ (o : Obj) (its : Array Value) (n : Nat), K.lookup a = some o ∧ o.cls = .type "tuple" ∧ o.data = .seq its n ∧ its.size ≤ sizeLine ∧ Vals xs its.toList
theorem TupAt.mono {K : Fg} {G G' : Hp} {a : Addr} {xs : List V} (e : Ext G G') (h : TupAt K G a xs) : TupAt K G' a xs := h.imp (e _ _) id
theorem TupAt.sq {K : Fg} {G H : Hp} {a : Addr} {xs : List V} (e : Ext G H) (h : TupAt K G a xs) : SqT K H a xs := h.imp (fun z => .inl (e _ _ z)) id
theorem sqlE {K : Fg} {G G' : Hp} {a : Addr} {xs : List V} (e : Ext G G') (h : SqL K G a xs) : SqL K G' a xs := h.imp (fun h => h.imp (e _ _) fun ⟨o, h⟩ => ⟨o, e _ _ h⟩) id
mutual
/-- the value v is the datum, by what is frozen -/
inductive Rp (K : Fg) (G : Hp) : V → PyData → Prop
  | non : Rp K G .non .none
  | bl (b : Bool) : Rp K G (.bl b) (.bool b)
  | int (i : Int) : Rp K G (.int i) (.int i)
  | str (x : Str) : Rp K G (.str x) (.str x)
  | lst {a : Addr} {xs : List V} {ds : List PyData} : SqL K G a xs → Rps K G xs ds → Rp K G (.ref a) (.list ds)
  | tup {a : Addr} {xs : List V} {ds : List PyData} : TupAt K G a xs → Rps K G xs ds → Rp K G (.ref a) (.tuple ds)
inductive Rps (K : Fg) (G : Hp) : List V → List PyData → Prop
  | nil : Rps K G [] []
  | cons {v : V} {vs : List V} {d : PyData} {ds : List PyData} : Rp K G v d → Rps K G vs ds → Rps K G (v :: vs) (d :: ds)
end
mutual
theorem Rp.mono {K : Fg} {G G' : Hp} (e : Ext G G') : ∀ {v : V} {d : PyData}, Rp K G v d → Rp K G' v d
  | _, _, .non => .non
  | _, _, .bl b => .bl b
  | _, _, .int i => .int i
  | _, _, .str x => .str x
  | _, _, .lst h hs => .lst (sqlE e h) (Rps.mono e hs)
  | _, _, .tup h hs => .tup (h.mono e) (Rps.mono e hs)
theorem Rps.mono {K : Fg} {G G' : Hp} (e : Ext G G') : ∀ {vs : List V} {ds : List PyData}, Rps K G vs ds → Rps K G' vs ds
  | _, _, .nil => .nil
  | _, _, .cons h hs => .cons (Rp.mono e h) (Rps.mono e hs)
end
mutual
theorem Rp.dp {K : Fg} {G H : Hp} (e : Ext G H) : ∀ {v : V} {d : PyData}, Rp K G v d → Dp K H v d
  | _, _, .non => .non
  | _, _, .bl b => .bl b
  | _, _, .int i => .int i
  | _, _, .str x => .str x
  | _, _, .lst h hs => .lst (sqlE e h) (Rps.dp e hs)
  | _, _, .tup h hs => .tup (h.sq e) (Rps.dp e hs)
theorem Rps.dp {K : Fg} {G H : Hp} (e : Ext G H) : ∀ {vs : List V} {ds : List PyData}, Rps K G vs ds → DpAll K H vs ds
  | _, _, .nil => .nil
  | _, _, .cons h hs => .cons (Rp.dp e h) (Rps.dp e hs)
end
section
variable {K : Fg} {G G' : Hp} {v : V} {vs ws : List V} {ds es : List PyData}
theorem Rps.length : ∀ {vs : List V} {ds : List PyData}, Rps K G vs ds → vs.length = ds.length
  | _, _, .nil => rfl
  | _, _, .cons _ t => congrArg Nat.succ (Rps.length t)
theorem rp_int {i : Int} (h : Rp K G v (.int i)) : v = .int i := by cases h; rfl
theorem rp_bl {b : Bool} (h : Rp K G v (.bool b)) : v = .bl b := by cases h; rfl
theorem rp_str {x : Str} (h : Rp K G v (.str x)) : v = .str x := by cases h; rfl
theorem rp_non (h : Rp K G v .none) : v = .non := by cases h; rfl
theorem rp_lst (h : Rp K G v (.list ds)) : ∃ a xs, v = .ref a ∧ SqL K G a xs ∧ Rps K G xs ds := by cases h; exact ⟨_, _, rfl, ‹_›, ‹_›⟩
theorem rp_tup (h : Rp K G v (.tuple ds)) : ∃ a xs, v = .ref a ∧ TupAt K G a xs ∧ Rps K G xs ds := by cases h; exact ⟨_, _, rfl, ‹_›, ‹_›⟩
theorem rps_ints : ∀ {ns : List Int} {vs : List V}, Rps K G vs (ns.map .int) → vs = ns.map V.int
  | [], _, h => by cases h; rfl
  | n :: ns, _, h => by
    cases h with
    | cons h1 h2 => rw [rp_int h1, rps_ints h2]; rfl
theorem rps_strs : ∀ {ns : List Str} {vs : List V}, Rps K G vs (ns.map .str) → vs = ns.map V.str
  | [], _, h => by cases h; rfl
  | n :: ns, _, h => by
    cases h with
    | cons h1 h2 => rw [rp_str h1, rps_strs h2]; rfl
theorem rps_ints' : ∀ (ns : List Int), Rps K G (ns.map V.int) (ns.map .int)
  | [] => .nil
  | n :: ns => .cons (.int n) (rps_ints' ns)
theorem rps_strs' : ∀ (ns : List Str), Rps K G (ns.map V.str) (ns.map .str)
  | [] => .nil
  | n :: ns => .cons (.str n) (rps_strs' ns)
theorem rps_bools' : ∀ (ns : List Bool), Rps K G (ns.map V.bl) (ns.map .bool)
  | [] => .nil
  | n :: ns => .cons (.bl n) (rps_bools' ns)
end

/-- the value v is u -/
def Ru (K : Fg) (G : Hp) (v : V) : U → Prop
  | .d x => Rp K G v x
  | .r a => v = .ref a
theorem Ru.mono {K : Fg} {G G' : Hp} (e : Ext G G') {v : V} : ∀ {u : U}, Ru K G v u → Ru K G' v u
  | .d _, h => Rp.mono e h
  | .r _, h => h
inductive Rus (K : Fg) (G : Hp) : List V → List U → Prop
  | nil : Rus K G [] []
  | cons {v : V} {vs : List V} {u : U} {us : List U} : Ru K G v u → Rus K G vs us → Rus K G (v :: vs) (u :: us)
section
variable {K : Fg} {G G' : Hp}
theorem Rus.mono (e : Ext G G') : ∀ {vs : List V} {us : List U}, Rus K G vs us → Rus K G' vs us
  | _, _, .nil => .nil
  | _, _, .cons h t => .cons (h.mono e) (Rus.mono e t)
theorem Rus.length : ∀ {vs : List V} {us : List U}, Rus K G vs us → vs.length = us.length
  | _, _, .nil => rfl
  | _, _, .cons _ t => congrArg Nat.succ (Rus.length t)
theorem Rus.append : ∀ {vs ws : List V} {us xs : List U}, Rus K G vs us → Rus K G ws xs → Rus K G (vs ++ ws) (us ++ xs)
  | _, _, _, _, .nil, h => h
  | _, _, _, _, .cons h t, k => .cons h (Rus.append t k)
theorem Rus.take : ∀ {vs : List V} {us : List U} (n : Nat), Rus K G vs us → Rus K G (vs.take n) (us.take n)
  | _, _, 0, _ => .nil
  | _, _, _ + 1, .nil => .nil
  | _, _, n + 1, .cons h t => .cons h (Rus.take n t)
theorem Rus.drop : ∀ {vs : List V} {us : List U} (n : Nat), Rus K G vs us → Rus K G (vs.drop n) (us.drop n)
  | _, _, 0, h => h
  | _, _, _ + 1, .nil => .nil
  | _, _, n + 1, .cons h t => Rus.drop n t
theorem Rus.set {v : V} {u : U} (r : Ru K G v u) : ∀ {vs : List V} {us : List U} (i : Nat), Rus K G vs us → Rus K G (vs.set i v) (us.set i u)
  | _, _, _, .nil => .nil
  | _, _, 0, .cons _ t => .cons r t
  | _, _, i + 1, .cons q t => .cons q (Rus.set r i t)
theorem Rus.erase : ∀ {vs : List V} {us : List U} (i : Nat), Rus K G vs us → Rus K G (vs.eraseIdx i) (us.eraseIdx i)
  | _, _, _, .nil => .nil
  | _, _, 0, .cons _ t => t
  | _, _, i + 1, .cons q t => .cons q (Rus.erase i t)
theorem Rus.get : ∀ {vs : List V} {us : List U} {i : Nat} {v : V}, Rus K G vs us → vs[i]? = some v → ∃ u, us[i]? = some u ∧ Ru K G v u
  | _, _, _, _, .nil, e => by simp at e
  | _, _, 0, _, .cons r _, e => by simp at e; subst e; exact ⟨_, rfl, r⟩
  | _, _, i + 1, _, .cons _ t, e => by
    obtain ⟨u, h1, h2⟩ := Rus.get (i := i) t (by simpa using e)
    exact ⟨u, by simpa using h1, h2⟩
theorem Rus.getU : ∀ {vs : List V} {us : List U} {i : Nat} {u : U}, Rus K G vs us → us[i]? = some u → ∃ v, vs[i]? = some v ∧ Ru K G v u
  | _, _, _, _, .nil, e => by simp at e
  | _, _, 0, _, .cons r _, e => by simp at e; subst e; exact ⟨_, rfl, r⟩
  | _, _, i + 1, _, .cons _ t, e => by
    obtain ⟨u, h1, h2⟩ := Rus.getU (i := i) t (by simpa using e)
    exact ⟨u, by simpa using h1, h2⟩
theorem Rus.reverse {vs : List V} {us : List U} (h : Rus K G vs us) : Rus K G vs.reverse us.reverse := by
  induction h with
  | nil => exact .nil
  | cons r t ih =>
    rw [List.reverse_cons, List.reverse_cons]
    exact ih.append (.cons r .nil)
theorem Rus.dropLast : ∀ {vs : List V} {us : List U}, Rus K G vs us → Rus K G vs.dropLast us.dropLast
  | _, _, .nil => .nil
  | _, _, .cons h .nil => .nil
  | _, _, .cons h (.cons h2 t) => .cons h (Rus.dropLast (.cons h2 t))
theorem rus_d : ∀ {vs : List V} {ds : List PyData}, Rps K G vs ds → Rus K G vs (ds.map U.d)
  | _, _, .nil => .nil
  | _, _, .cons h t => .cons h (rus_d t)
theorem d_rus : ∀ {ds : List PyData} {vs : List V}, Rus K G vs (ds.map U.d) → Rps K G vs ds
  | [], _, h => by cases h; exact .nil
  | d :: ds, _, h => by
    cases h with
    | cons h t => exact .cons h (d_rus t)
end
inductive Rkv (K : Fg) (G : Hp) : List (Key × V) → List (Key × U) → Prop
  | nil : Rkv K G [] []
  | cons {k : Key} {v : V} {vs : List (Key × V)} {u : U} {us : List (Key × U)} : Ru K G v u → Rkv K G vs us → Rkv K G ((k, v) :: vs) ((k, u) :: us)
theorem Rkv.mono {K : Fg} {G G' : Hp} (e : Ext G G') : ∀ {vs : List (Key × V)} {us : List (Key × U)}, Rkv K G vs us → Rkv K G' vs us
  | _, _, .nil => .nil
  | _, _, .cons h t => .cons (h.mono e) (Rkv.mono e t)

/-- what stands at the address of a thing that may change -/
def Mr (K : Fg) (G H : Hp) (a : Addr) : MO → Prop
  | .lst us => ∃ vs, H a = some (.lst vs) ∧ Rus K G vs us
  | .dct kvs => ∃ kws, H a = some (.dK kws) ∧ Rkv K G kws kvs
  | .hand => ∃ (c : Addr) (i r t : Int) (ns : List Int), H a = some (.lst [.ref c, .int i, .int r, .int t]) ∧ SqL K G c (ns.map V.int) ∧ ns.length ≤ 63 ∧ (∀ x ∈ ns, 0 ≤ x) ∧ 0 ≤ i ∧ i ≤ 63 ∧ 0 ≤ r
theorem Mr.mono {K : Fg} {G G' H : Hp} {a : Addr} (e : Ext G G') : ∀ {m : MO}, Mr K G H a m → Mr K G' H a m
  | .lst _, ⟨vs, h, r⟩ => ⟨vs, h, r.mono e⟩
  | .dct _, ⟨vs, h, r⟩ => ⟨vs, h, r.mono e⟩
  | .hand, ⟨c, i, r, t, ns, h, g, q⟩ => ⟨c, i, r, t, ns, h, sqlE e g, q⟩
theorem Mr.other {K : Fg} {G H H' : Hp} {a : Addr} (e : H' a = H a) : ∀ {m : MO}, Mr K G H a m → Mr K G H' a m
  | .lst _, ⟨vs, h, r⟩ => ⟨vs, e.trans h, r⟩
  | .dct _, ⟨vs, h, r⟩ => ⟨vs, e.trans h, r⟩
  | .hand, ⟨c, i, r, t, ns, h, g, q⟩ => ⟨c, i, r, t, ns, e.trans h, g, q⟩
theorem Mr.some {K : Fg} {G H : Hp} {a : Addr} : ∀ {m : MO}, Mr K G H a m → ∃ o, H a = some o
  | .lst _, ⟨vs, h, r⟩ => ⟨_, h⟩
  | .dct _, ⟨vs, h, r⟩ => ⟨_, h⟩
  | .hand, ⟨c, i, r, t, ns, h, _⟩ => ⟨_, h⟩
/-- the state: F a frame that nobody changes, G what is frozen, μ what may change -/
structure St3 (K : Fg) (F G H : Hp) (μ : Mu) : Prop where
  sub : Ext G H
  fr : ∀ a o, F a = some o → H a = some o ∧ G a = none ∧ μ a = none
  mu : ∀ a m, μ a = some m → G a = none ∧ Mr K G H a m
section
variable {K : Fg} {F G H : Hp} {μ : Mu} {p : Addr} {o : HO}
theorem St3.gnone (S : St3 K F G H μ) (h : H p = none) : G p = none := by
  cases q : G p with
  | none => rfl
  | some o => rw [S.sub _ _ q] at h; cases h
theorem St3.fnone (S : St3 K F G H μ) (h : H p = none) : F p = none := by
  cases q : F p with
  | none => rfl
  | some o => rw [(S.fr _ _ q).1] at h; cases h
theorem St3.mnone (S : St3 K F G H μ) (h : H p = none) : μ p = none := by
  cases q : μ p with
  | none => rfl
  | some o =>
    obtain ⟨o', e⟩ := (S.mu _ _ q).2.some
    rw [e] at h; cases h
/-- a new frozen object -/
theorem St3.newG (S : St3 K F G H μ) (h : H p = none) : Ext G (upd G p o) ∧ St3 K F (upd G p o) (upd H p o) μ := by
  have hg := S.gnone h
  have hf := S.fnone h
  have hm := S.mnone h
  refine ⟨Ext.new hg, fun a u e => ?_, fun a u e => ?_, fun a m e => ?_⟩
  · by_cases q : a = p
    · subst q; rw [upd_same] at e ⊢; exact e
    · rw [upd_ne q] at e ⊢; exact S.sub _ _ e
  · have q : a ≠ p := ne_of_none e hf
    obtain ⟨h1, h2, h3⟩ := S.fr _ _ e
    exact ⟨by rw [upd_ne q]; exact h1, by rw [upd_ne q]; exact h2, h3⟩
  · have q : a ≠ p := mne e hm
    obtain ⟨h1, h2⟩ := S.mu _ _ e
    exact ⟨by rw [upd_ne q]; exact h1, (h2.mono (Ext.new hg)).other (upd_ne q)⟩
/-- a new object that may change -/
theorem St3.newM (S : St3 K F G H μ) {m : MO} (h : H p = none) (hm : Mr K G (upd H p o) p m) : St3 K F G (upd H p o) (put μ p m) := by
  have hg := S.gnone h
  have hf := S.fnone h
  refine ⟨fun a u e => ?_, fun a u e => ?_, fun a m' e => ?_⟩
  · rw [upd_ne (ne_of_none e hg)]; exact S.sub _ _ e
  · have q : a ≠ p := ne_of_none e hf
    obtain ⟨h1, h2, h3⟩ := S.fr _ _ e
    exact ⟨by rw [upd_ne q]; exact h1, h2, by rw [put_ne q]; exact h3⟩
  · by_cases q : a = p
    · subst q; rw [put_same] at e; cases e; exact ⟨hg, hm⟩
    · rw [put_ne q] at e
      obtain ⟨h1, h2⟩ := S.mu _ _ e
      exact ⟨h1, h2.other (upd_ne q)⟩
/-- a new object that nobody tracks -/
theorem St3.newF (S : St3 K F G H μ) (h : H p = none) : St3 K (upd F p o) G (upd H p o) μ := by
  have hg := S.gnone h
  have hf := S.fnone h
  have hm := S.mnone h
  refine ⟨fun a u e => ?_, fun a u e => ?_, fun a m' e => ?_⟩
  · rw [upd_ne (ne_of_none e hg)]; exact S.sub _ _ e
  · by_cases q : a = p
    · subst q; rw [upd_same] at e ⊢; exact ⟨e, hg, hm⟩
    · rw [upd_ne q] at e
      obtain ⟨h1, h2, h3⟩ := S.fr _ _ e
      exact ⟨by rw [upd_ne q]; exact h1, h2, h3⟩
  · obtain ⟨h1, h2⟩ := S.mu _ _ e
    exact ⟨h1, h2.other (upd_ne (mne e hm))⟩
/-- a framed object written -/
theorem St3.setF {o' : HO} (S : St3 K (upd F p o) G H μ) : St3 K (upd F p o') G (upd H p o') μ := by
  obtain ⟨_, hg, hm⟩ := S.fr p o upd_same
  refine ⟨fun a u e => ?_, fun a u e => ?_, fun a m' e => ?_⟩
  · rw [upd_ne (ne_of_none e hg)]; exact S.sub _ _ e
  · by_cases q : a = p
    · subst q; rw [upd_same] at e ⊢; exact ⟨e, hg, hm⟩
    · rw [upd_ne q] at e
      obtain ⟨h1, h2, h3⟩ := S.fr a u (by rw [upd_ne q]; exact e)
      exact ⟨by rw [upd_ne q]; exact h1, h2, h3⟩
  · obtain ⟨h1, h2⟩ := S.mu _ _ e
    exact ⟨h1, h2.other (upd_ne (mne e hm))⟩
/-- a framed object becomes frozen -/
theorem St3.unF (S : St3 K (upd F p o) G H μ) (hf : F p = none) : Ext G (upd G p o) ∧ St3 K F (upd G p o) H μ := by
  obtain ⟨hh, hg, hm⟩ := S.fr p o upd_same
  refine ⟨Ext.new hg, fun a u e => ?_, fun a u e => ?_, fun a m' e => ?_⟩
  · by_cases q : a = p
    · subst q; rw [upd_same] at e; cases e; exact hh
    · rw [upd_ne q] at e; exact S.sub _ _ e
  · have q : a ≠ p := ne_of_none e hf
    obtain ⟨h1, h2, h3⟩ := S.fr a u (by rw [upd_ne q]; exact e)
    exact ⟨h1, by rw [upd_ne q]; exact h2, h3⟩
  · obtain ⟨h1, h2⟩ := S.mu _ _ e
    have q : a ≠ p := mne e hm
    exact ⟨by rw [upd_ne q]; exact h1, h2.mono (Ext.new hg)⟩
/-- a framed object becomes one that may change -/
theorem St3.unFM (S : St3 K (upd F p o) G H μ) (hf : F p = none) {m : MO} (h : Mr K G H p m) : St3 K F G H (put μ p m) := by
  obtain ⟨hh, hg, hm⟩ := S.fr p o upd_same
  refine ⟨S.sub, fun a u e => ?_, fun a m' e => ?_⟩
  · have q : a ≠ p := ne_of_none e hf
    obtain ⟨h1, h2, h3⟩ := S.fr a u (by rw [upd_ne q]; exact e)
    exact ⟨h1, h2, by rw [put_ne q]; exact h3⟩
  · by_cases q : a = p
    · subst q; rw [put_same] at e; cases e; exact ⟨hg, h⟩
    · rw [put_ne q] at e; exact S.mu _ _ e
/-- a thing that may change is changed -/
theorem St3.write (S : St3 K F G H μ) {m m' : MO} (h : μ p = some m) (hm : Mr K G (upd H p o) p m') : St3 K F G (upd H p o) (put μ p m') := by
  obtain ⟨hg, _⟩ := S.mu _ _ h
  refine ⟨fun a u e => ?_, fun a u e => ?_, fun a m' e => ?_⟩
  · rw [upd_ne (ne_of_none e hg)]; exact S.sub _ _ e
  · obtain ⟨h1, h2, h3⟩ := S.fr _ _ e
    have q : a ≠ p := fun z => by subst z; rw [h] at h3; cases h3
    exact ⟨by rw [upd_ne q]; exact h1, h2, by rw [put_ne q]; exact h3⟩
  · by_cases q : a = p
    · subst q; rw [put_same] at e; cases e; exact ⟨hg, hm⟩
    · rw [put_ne q] at e
      obtain ⟨h1, h2⟩ := S.mu _ _ e
      exact ⟨h1, h2.other (upd_ne q)⟩
/-- another word for what may change -/
theorem St3.reword (S : St3 K F G H μ) {m m' : MO} (h : μ p = some m) (hm : Mr K G H p m') : St3 K F G H (put μ p m') := by
  refine ⟨S.sub, fun a u e => ?_, fun a m'' e => ?_⟩
  · obtain ⟨h1, h2, h3⟩ := S.fr _ _ e
    have q : a ≠ p := fun z => by subst z; rw [h] at h3; cases h3
    exact ⟨h1, h2, by rw [put_ne q]; exact h3⟩
  · by_cases q : a = p
    · subst q; rw [put_same] at e; cases e; exact ⟨(S.mu _ _ h).1, hm⟩
    · rw [put_ne q] at e; exact S.mu _ _ e
theorem St3.drop (S : St3 K F G H μ) : St3 K F G H (del μ p) := by
  refine ⟨S.sub, fun a u e => ?_, fun a m e => ?_⟩
  · obtain ⟨h1, h2, h3⟩ := S.fr _ _ e
    refine ⟨h1, h2, ?_⟩
    by_cases q : a = p
    · subst q; exact del_same
    · rw [del_ne q]; exact h3
  · by_cases q : a = p
    · subst q; rw [del_same] at e; cases e
    · rw [del_ne q] at e; exact S.mu _ _ e
theorem St3.freeze (S : St3 K F G H μ) {ds : List PyData} (h : μ p = some (.lst (ds.map U.d))) : ∃ vs, Ext G (upd G p (.lst vs)) ∧ St3 K F (upd G p (.lst vs)) H (del μ p) ∧ Rp K (upd G p (.lst vs)) (.ref p) (.list ds) := by
  obtain ⟨hg, vs, hh, r⟩ := S.mu _ _ h
  have e0 : Ext G (upd G p (.lst vs)) := Ext.new hg
  refine ⟨vs, e0, ⟨fun a u e => ?_, fun a u e => ?_, fun a m e => ?_⟩, .lst (SqL.of upd_same) ((d_rus r).mono e0)⟩
  · by_cases q : a = p
    · subst q; rw [upd_same] at e; cases e; exact hh
    · rw [upd_ne q] at e; exact S.sub _ _ e
  · obtain ⟨h1, h2, h3⟩ := S.fr _ _ e
    have q : a ≠ p := fun z => by subst z; rw [h] at h3; cases h3
    exact ⟨h1, by rw [upd_ne q]; exact h2, by rw [del_ne q]; exact h3⟩
  · by_cases q : a = p
    · subst q; rw [del_same] at e; cases e
    · rw [del_ne q] at e
      obtain ⟨h1, h2⟩ := S.mu _ _ e
      exact ⟨by rw [upd_ne q]; exact h1, h2.mono e0⟩
theorem St3.lst (S : St3 K F G H μ) {us : List U} (h : μ p = some (.lst us)) : ∃ vs, H p = some (.lst vs) ∧ Rus K G vs us := (S.mu _ _ h).2
end
structure Sim (K : Fg) (F G H : Hp) (μ : Mu) (σ : L2.St) (ρ : Rho) : Prop where
  st : St3 K F G H μ
  len : σ.length = ρ.length
  sl : ∀ (i : Nat) (u : U), ρ[i]? = some (some u) → ∃ v, σ[i]? = some (some v) ∧ Ru K G v u
section
variable {K : Fg} {F G H G' H' : Hp} {μ μ' : Mu} {σ : L2.St} {ρ : Rho} {i : Nat} {v : V} {u : U}
theorem Sim.mono (S : Sim K F G H μ σ ρ) (e : Ext G G') (S' : St3 K F G' H' μ') : Sim K F G' H' μ' σ ρ :=
  ⟨S', S.len, fun i u h => let ⟨v, h1, h2⟩ := S.sl i u h; ⟨v, h1, h2.mono e⟩⟩
theorem Sim.set (S : Sim K F G H μ σ ρ) (r : Ru K G v u) : Sim K F G H μ (σ.set i (some v)) (ρ.set i (some u)) := by
  refine ⟨S.st, by rw [List.length_set, List.length_set]; exact S.len, fun j u' h => ?_⟩
  by_cases q : i = j
  · subst q
    have hl : i < (ρ.set i (some u)).length := (List.getElem?_eq_some_iff.mp h).1
    rw [List.length_set] at hl
    rw [List.getElem?_set_self hl] at h
    cases h
    exact ⟨v, List.getElem?_set_self (by rw [S.len]; exact hl), r⟩
  · rw [List.getElem?_set_ne q] at h
    obtain ⟨v', h1, h2⟩ := S.sl j u' h
    exact ⟨v', by rw [List.getElem?_set_ne q]; exact h1, h2⟩
theorem Sim.frame {F' : Hp} (S : Sim K F G H μ σ ρ) (S' : St3 K F' G H' μ') : Sim K F' G H' μ' σ ρ := ⟨S', S.len, S.sl⟩
end

/-! ### the judgements: what a reading is worth -/
abbrev XP := U → Mu → Prop
abbrev WX := Rho → Mu → XP → Prop
abbrev WB := Rho → Mu → (Bool → Mu → Prop) → Prop
abbrev WL := Rho → Mu → (List U → Mu → Prop) → Prop
def RE (K : Fg) (t : TE) (w : WX) : Prop := ∀ (F G H : Hp) (μ : Mu) (σ : L2.St) (ρ : Rho) (P : XP) (Q : VK), Sim K F G H μ σ ρ → w ρ μ P →
  (∀ v u G' H' μ', Ext G G' → St3 K F G' H' μ' → Ru K G' v u → P u μ' → Q v H') → t σ H Q
def RT (K : Fg) (t : TT) (w : WB) : Prop := ∀ (F G H : Hp) (μ : Mu) (σ : L2.St) (ρ : Rho) (P : Bool → Mu → Prop) (Q : Bool → Hp → Prop), Sim K F G H μ σ ρ → w ρ μ P →
  (∀ b G' H' μ', Ext G G' → St3 K F G' H' μ' → P b μ' → Q b H') → t σ H Q
def RA (K : Fg) (t : TA) (w : WL) : Prop := ∀ (F G H : Hp) (μ : Mu) (σ : L2.St) (ρ : Rho) (P : List U → Mu → Prop) (Q : List V → Hp → Prop), Sim K F G H μ σ ρ → w ρ μ P →
  (∀ vs us G' H' μ', Ext G G' → St3 K F G' H' μ' → Rus K G' vs us → P us μ' → Q vs H') → t σ H Q
structure End3 where
  nx : Rho → Mu → Prop
  rt : XP
  bk : Rho → Mu → Prop := fun _ _ => False
  ct : Rho → Mu → Prop := fun _ _ => False
structure Link (K : Fg) (F G : Hp) (D : Ends) (B : End3) : Prop where
  nx : ∀ σ G' H ρ μ, Ext G G' → Sim K F G' H μ σ ρ → B.nx ρ μ → D.nx σ H
  rt : ∀ v u G' H μ, Ext G G' → St3 K F G' H μ → Ru K G' v u → B.rt u μ → D.rt v H
  bk : ∀ σ G' H ρ μ, Ext G G' → Sim K F G' H μ σ ρ → B.bk ρ μ → D.bk σ H
  ct : ∀ σ G' H ρ μ, Ext G G' → Sim K F G' H μ σ ρ → B.ct ρ μ → D.ct σ H
theorem Link.mono {K : Fg} {F G G' : Hp} {D : Ends} {B : End3} (L : Link K F G D B) (e : Ext G G') : Link K F G' D B :=
  ⟨fun _ _ _ _ _ x => L.nx _ _ _ _ _ (e.trans x), fun _ _ _ _ _ x => L.rt _ _ _ _ _ (e.trans x), fun _ _ _ _ _ x => L.bk _ _ _ _ _ (e.trans x), fun _ _ _ _ _ x => L.ct _ _ _ _ _ (e.trans x)⟩
abbrev WSt := End3 → Rho → Mu → Prop
def RS (K : Fg) (t : TS) (w : WSt) : Prop := ∀ (F G H : Hp) (μ : Mu) (σ : L2.St) (ρ : Rho) (D : Ends) (B : End3), Sim K F G H μ σ ρ → Link K F G D B → w B ρ μ → t D σ H
abbrev WTg := U → Rho → Mu → (Rho → Mu → Prop) → Prop
def RG (K : Fg) (t : TG) (w : WTg) : Prop := ∀ (F G H : Hp) (μ : Mu) (σ : L2.St) (ρ : Rho) (v : V) (u : U) (P : Rho → Mu → Prop) (Q : L2.St → Hp → Prop), Sim K F G H μ σ ρ → Ru K G v u → w u ρ μ P →
  (∀ σ' G' H' ρ' μ', Ext G G' → Sim K F G' H' μ' σ' ρ' → P ρ' μ' → Q σ' H') → t v σ H Q

structure WE (X : Cx) (e : Expr) (t : TE) (w : WX) : Prop where
  pe : PE X e t
  re : RE X.K t w
structure WT (X : Cx) (e : Expr) (t : TT) (w : WB) : Prop where
  pt : PT X e t
  rt : RT X.K t w
structure WW (X : Cx) (e : Expr) (t : TT) (w : WB) : Prop where
  pw : PW X e t
  rt : RT X.K t w
structure WAr (X : Cx) (es : List Expr) (t : TA) (w : WL) : Prop where
  pa : PA X es t
  ra : RA X.K t w
structure WS (X : Cx) (s : Stmt) (t : TS) (w : WSt) : Prop where
  ps : PS X s t
  rs : RS X.K t w
structure WSs (X : Cx) (s : List Stmt) (t : TS) (w : WSt) : Prop where
  ps : PSs X s t
  rs : RS X.K t w
structure WG (X : Cx) (e : Expr) (t : TG) (w : WTg) : Prop where
  pg : PG X e t
  rg : RG X.K t w
end L3

namespace L3
open PySem PySem.Spec PyProof.Rows L2

/-! ### list + list, whoever owns them -/
def rCatW (K : Fg) : R2 := fun x y H Q => ∃ l b xs zs, x = .ref l ∧ y = .ref b ∧ SqL K H l xs ∧ SqL K H b zs ∧ xs.length + zs.length ≤ sizeLine ∧ ∀ p, H p = none → Q (.ref p) (upd H p (.lst (xs ++ zs)))
theorem op_catW {X : Cx} : OpR X (binaryOp .Add) (rCatW X.K) := by
  intro pins s σ H x y v u Q I rx ry h
  obtain ⟨l, b, xs, zs, rfl, rfl, hH, hB, hz, q⟩ := h
  cases rx
  cases ry
  obtain ⟨its, r, ⟨⟨cls, dd, data, sl⟩, n, ho, hc, hdd, hd⟩, _⟩ := I.list hH
  obtain ⟨its2, r2, ⟨⟨cls2, dd2, data2, sl2⟩, n2, ho2, hc2, hdd2, hd2⟩, _⟩ := I.list hB
  simp only at hc hd hdd hc2 hd2 hdd2
  subst hc hd hdd hc2 hd2 hdd2
  refine concat_meets ⟨_, ho, rfl⟩ ⟨_, ho2, rfl⟩ noFill_list_add seq_list_add PySem.F.slot_list_add PySem.F.entry_list_add (PySem.F.args_list_add_2 _ _) (list_addW l b its.toArray its2.toArray n n2 none none sl sl2 (by rw [List.size_toArray, List.size_toArray, ← r.length, ← r2.length]; exact hz)) ⟨ho, ho2, ?_⟩
  have ea : its.toArray ++ its2.toArray = (its ++ its2).toArray := by simp
  rw [ea]
  exact ⟨.ref _, _, I.lnew (t' := s.toks) (r.append r2) (by rw [List.length_append]; omega), rfl, q _ I.fresh⟩
/-! ### what may be read as a row of things -/
def itemsU (μ : Mu) : U → Option (List U)
  | .d (.list l) => some (l.map .d)
  | .d (.tuple l) => some (l.map .d)
  | .r a => (match μ a with
    | some (.lst us) => some us
    | _ => none)
  | _ => none
def listU (μ : Mu) : U → Option (List U)
  | .d (.list l) => some (l.map .d)
  | .r a => (match μ a with
    | some (.lst us) => some us
    | _ => none)
  | _ => none
section
variable {K : Fg} {F G H : Hp} {μ : Mu} {v : V} {u : U} {us : List U}
theorem listU_ok (S : St3 K F G H μ) (r : Ru K G v u) (h : listU μ u = some us) : ∃ a vs, v = .ref a ∧ SqL K H a vs ∧ Rus K G vs us := by
  cases u with
  | d x =>
    cases x with
    | list l =>
      obtain ⟨a, xs, rfl, h1, h2⟩ := rp_lst r
      cases h
      exact ⟨a, xs, rfl, sqlE S.sub h1, rus_d h2⟩
    | _ => cases h
  | r a =>
    have h' : (match μ a with
      | some (.lst us) => some us
      | _ => none) = some us := h
    cases q : μ a with
    | none => rw [q] at h'; cases h'
    | some m =>
      rw [q] at h'
      cases m with
      | lst ws =>
        cases h'
        obtain ⟨vs, h1, h2⟩ := S.lst q
        exact ⟨a, vs, r, SqL.of h1, h2⟩
      | _ => cases h'
theorem itemsU_ok (S : St3 K F G H μ) (r : Ru K G v u) (h : itemsU μ u = some us) : ∃ a vs, v = .ref a ∧ (SqL K H a vs ∨ SqT K H a vs) ∧ Rus K G vs us := by
  cases u with
  | d x =>
    cases x with
    | tuple l =>
      obtain ⟨a, xs, rfl, h1, h2⟩ := rp_tup r
      cases h
      exact ⟨a, xs, rfl, .inr (h1.sq S.sub), rus_d h2⟩
    | list l =>
      obtain ⟨a, vs, e, h1, h2⟩ := listU_ok (us := us) S r h
      exact ⟨a, vs, e, .inl h1, h2⟩
    | _ => cases h
  | r a =>
    obtain ⟨a, vs, e, h1, h2⟩ := listU_ok (us := us) S r h
    exact ⟨a, vs, e, .inl h1, h2⟩
end

/-! ### names, constants -/
def wV (i : Nat) : WX := fun ρ μ P => ∃ u, ρ[i]? = some (some u) ∧ P u μ
def wC (x : PyData) : WX := fun _ μ P => P (.d x) μ
section
variable {K : Fg} {X : Cx} {pos : Pos}
theorem re_var {i : Nat} : RE K (tVar i) (wV i) := fun F G H μ σ ρ P Q S ⟨u, h, p⟩ q =>
  let ⟨v, h1, h2⟩ := S.sl i u h
  ⟨v, h1, q v u G H μ (Ext.refl G) S.st h2 p⟩
theorem re_c {v : V} {x : PyData} (h : ∀ G, Rp K G v x) : RE K (tC v) (wC x) := fun F G H μ σ ρ P Q S p q => q v (.d x) G H μ (Ext.refl G) S.st (h G) p
theorem w_v (i : Nat) {x : Str} (hN : X.N[i]? = some x := by rfl) (hv : Vis X.env.scope x := by first | exact Or.inl rfl | exact Or.inr (Or.inl rfl) | exact Or.inr (Or.inr rfl)) (hd : (x == ("__debug__" : Str)) = false := by decide)
    (hcd : (x == ("__classdict__" : Str)) = false := by decide) : WE X (.Name x pos) (tVar i) (wV i) := ⟨pe_var hN hv hd hcd, re_var⟩
theorem w_int {i : Int} {j : Nat} : WE X (.Constant (.int i) j pos) (tC (.int i)) (wC (.int i)) := ⟨pe_int, re_c fun _ => .int i⟩
theorem w_bl {b : Bool} {j : Nat} : WE X (.Constant (.bool b) j pos) (tC (.bl b)) (wC (.bool b)) := ⟨pe_bl, re_c fun _ => .bl b⟩
theorem w_non {j : Nat} : WE X (.Constant .none j pos) (tC .non) (wC .none) := ⟨pe_non, re_c fun _ => .non⟩
theorem w_str {x : Str} {j : Nat} : WE X (.Constant (.str x) j pos) (tC (.str x)) (wC (.str x)) := ⟨pe_str, re_c fun _ => .str x⟩
end

/-! ### operators -/
abbrev WR := U → U → Mu → XP → Prop
def RO (K : Fg) (r : R2) (s : WR) : Prop := ∀ (F G H : Hp) (μ : Mu) (x y : V) (u w : U) (P : XP) (Q : VK), St3 K F G H μ → Ru K G x u → Ru K G y w → s u w μ P →
  (∀ v u' G' H' μ', Ext G G' → St3 K F G' H' μ' → Ru K G' v u' → P u' μ' → Q v H') → r x y H Q
def wOp (s : WR) (a b : WX) : WX := fun ρ μ P => a ρ μ fun x μ1 => b ρ μ1 fun y μ2 => s x y μ2 P
def sI (C : Int → Int → Prop) (g : Int → Int → PyData) : WR := fun u w μ P => ∃ i j, u = .d (.int i) ∧ w = .d (.int j) ∧ C i j ∧ P (.d (g i j)) μ
def sI0 (g : Int → Int → PyData) : WR := fun u w μ P => ∃ i j, u = .d (.int i) ∧ w = .d (.int j) ∧ P (.d (g i j)) μ
def sS (g : Str → Str → PyData) : WR := fun u w μ P => ∃ i j, u = .d (.str i) ∧ w = .d (.str j) ∧ P (.d (g i j)) μ
def sEq (f : Bool → Bool) : WR := fun u w μ P => ∃ a b, u = .d a ∧ w = .d b ∧ SeqAt.shaped a = true ∧ SeqAt.shaped b = true ∧ P (.d (.bool (f (PyData.eqv a b)))) μ
def sCatS : WR := fun u w μ P => ∃ i j, u = .d (.str i) ∧ w = .d (.str j) ∧ i.length + j.length ≤ sizeLine ∧ P (.d (.str (i ++ j))) μ
/-- x is a truth: b says which -/
def isTruth (b : Bool) : U → Bool
  | .d (.bool c) => c == b
  | _ => false
def sIs (b : Bool) (f : Bool → Bool) : WR := fun u w μ P => w = .d (.bool b) ∧ P (.d (.bool (f (isTruth b u)))) μ
def isNon : U → Bool
  | .d .none => true
  | _ => false
def sIsN (f : Bool → Bool) : WR := fun u w μ P => w = .d .none ∧ P (.d (.bool (f (isNon u)))) μ
/-- x in row: all texts, or all numbers -/
def sInS (f : Bool → Bool) : WR := fun u w μ P => ∃ (z : Str) (zs : List Str), u = .d (.str z) ∧ itemsU μ w = some (zs.map fun y => U.d (.str y)) ∧ P (.d (.bool (f (decide (z ∈ zs))))) μ
def sInI (f : Bool → Bool) : WR := fun u w μ P => ∃ (z : Int) (zs : List Int), u = .d (.int z) ∧ itemsU μ w = some (zs.map fun y => U.d (.int y)) ∧ P (.d (.bool (f (decide (z ∈ zs))))) μ
def ixU (μ : Mu) (u : U) (i : Int) : Option U :=
  match u with
  | .d (.str z) => if z.length ≤ sizeLine then (atI z.cps.toList i).map fun c => .d (.str ⟨#[c]⟩) else none
  | u => (itemsU μ u).bind fun us => atI us i
def sIx : WR := fun u w μ P => ∃ i z, w = .d (.int i) ∧ ixU μ u i = some z ∧ P z μ
/-- lists put together: a new frozen one -/
def sCatL : WR := fun u w μ P => ∃ (xs ys : List PyData), listU μ u = some (xs.map U.d) ∧ listU μ w = some (ys.map U.d) ∧ xs.length + ys.length ≤ sizeLine ∧ P (.d (.list (xs ++ ys))) μ
section
variable {K : Fg} {X : Cx} {pos : Pos} {a b : Expr} {ta tb : TE} {wa wb : WX}
theorem re_op {r : R2} {s : WR} (hr : RO K r s) (ha : RE K ta wa) (hb : RE K tb wb) : RE K (tOp r ta tb) (wOp s wa wb) := fun F G H μ σ ρ P Q S h q =>
  ha F G H μ σ ρ _ _ S h fun x u G1 H1 μ1 e1 S1 r1 h1 => hb F G1 H1 μ1 σ ρ _ _ (S.mono e1 S1) h1 fun y w G2 H2 μ2 e2 S2 r2 h2 =>
    hr F G2 H2 μ2 x y u w P Q S2 (r1.mono e2) r2 h2 fun v u' G3 H3 μ3 e3 S3 r3 p => q v u' G3 H3 μ3 ((e1.trans e2).trans e3) S3 r3 p
theorem ro_I {C : Int → Int → Prop} {gv : Int → Int → V} {g : Int → Int → PyData} (hg : ∀ G i j, Rp K G (gv i j) (g i j)) : RO K (rI C gv) (sI C g) := fun F G H μ x y u w P Q S rx ry ⟨i, j, e1, e2, c, p⟩ q => by
  subst e1 e2
  exact ⟨i, j, rp_int rx, rp_int ry, c, q (gv i j) (.d (g i j)) G H μ (Ext.refl G) S (hg G i j) p⟩
theorem ro_I0 {gv : Int → Int → V} {g : Int → Int → PyData} (hg : ∀ G i j, Rp K G (gv i j) (g i j)) : RO K (rI0 gv) (sI0 g) := fun F G H μ x y u w P Q S rx ry ⟨i, j, e1, e2, p⟩ q => by
  subst e1 e2
  exact ⟨i, j, rp_int rx, rp_int ry, q (gv i j) (.d (g i j)) G H μ (Ext.refl G) S (hg G i j) p⟩
theorem ro_S {gv : Str → Str → V} {g : Str → Str → PyData} (hg : ∀ G i j, Rp K G (gv i j) (g i j)) : RO K (fun x y H Q => ∃ i j, x = .str i ∧ y = .str j ∧ Q (gv i j) H) (sS g) := fun F G H μ x y u w P Q S rx ry ⟨i, j, e1, e2, p⟩ q => by
  subst e1 e2
  exact ⟨i, j, rp_str rx, rp_str ry, q (gv i j) (.d (g i j)) G H μ (Ext.refl G) S (hg G i j) p⟩
theorem ro_eq : RO K (rEqD K) (sEq id) := fun F G H μ x y u w P Q S rx ry ⟨a, b, e1, e2, s1, s2, p⟩ q => by
  subst e1 e2
  exact ⟨a, b, Rp.dp S.sub rx, Rp.dp S.sub ry, s1, s2, q (.bl _) (.d (.bool _)) G H μ (Ext.refl G) S (Rp.bl _) p⟩
theorem ro_ne : RO K (rNeD K) (sEq not) := fun F G H μ x y u w P Q S rx ry ⟨a, b, e1, e2, s1, s2, p⟩ q => by
  subst e1 e2
  exact ⟨a, b, Rp.dp S.sub rx, Rp.dp S.sub ry, s1, s2, q (.bl _) (.d (.bool _)) G H μ (Ext.refl G) S (Rp.bl _) p⟩
theorem ro_catS : RO K (fun x y H Q => ∃ i j, x = .str i ∧ y = .str j ∧ i.length + j.length ≤ sizeLine ∧ Q (.str (i ++ j)) H) sCatS := fun F G H μ x y u w P Q S rx ry ⟨i, j, e1, e2, z, p⟩ q => by
  subst e1 e2
  exact ⟨i, j, rp_str rx, rp_str ry, z, q (.str _) (.d (.str _)) G H μ (Ext.refl G) S (Rp.str _) p⟩
/-- x is b, b a written truth -/
def rIsB (b : Bool) (f : Bool → Bool) : R2 := fun x y H Q => y = .bl b ∧ Q (.bl (f (decide (x = .bl b)))) H
theorem op_isB {b : Bool} : OpR X (compareOp .Is) (rIsB b id) := by
  intro pins s σ H x y v u Q I rx ry h
  obtain ⟨rfl, q⟩ := h
  cases (show u = Value.bool b from ry)
  by_cases e : x = .bl b
  · subst e
    cases (show v = Value.bool b from rx)
    exact wpAny_is_self rfl ⟨.bl true, H, I, rfl, by simpa using q⟩
  · have hv : v ≠ Value.bool b := fun z => by
      subst z
      cases x with
      | bl c =>
        have : Value.bool b = Value.bool c := rx
        cases this
        exact e rfl
      | non => cases rx
      | int i => obtain ⟨t, h⟩ := rx; cases h
      | str i => obtain ⟨t, h⟩ := rx; cases h
      | byt i => obtain ⟨t, h⟩ := rx; cases h
      | flt i => obtain ⟨t, h⟩ := rx; cases h
      | ref a => cases rx
      | ty n => cases rx
    have hp : plainIs v (.bool b) = true := by
      cases x with
      | bl c => cases (show v = Value.bool c from rx); rfl
      | non => cases rx; rfl
      | int i => obtain ⟨t, rfl⟩ := rx; rfl
      | str i => obtain ⟨t, rfl⟩ := rx; rfl
      | byt i => obtain ⟨t, rfl⟩ := rx; rfl
      | flt i => obtain ⟨t, rfl⟩ := rx; rfl
      | ref a => cases rx; rfl
      | ty n => cases (show v = Value.type n from rx); rfl
    exact wpAny_is_other hp hv ⟨.bl false, H, I, rfl, by simpa [e] using q⟩
theorem op_isnotB {b : Bool} : OpR X (compareOp .IsNot) (rIsB b not) := by
  intro pins s σ H x y v u Q I rx ry h
  obtain ⟨rfl, q⟩ := h
  cases (show u = Value.bool b from ry)
  by_cases e : x = .bl b
  · subst e
    cases (show v = Value.bool b from rx)
    exact wpAny_isNot_self rfl ⟨.bl false, H, I, rfl, by simpa using q⟩
  · have hv : v ≠ Value.bool b := fun z => by
      subst z
      cases x with
      | bl c =>
        have : Value.bool b = Value.bool c := rx
        cases this
        exact e rfl
      | non => cases rx
      | int i => obtain ⟨t, h⟩ := rx; cases h
      | str i => obtain ⟨t, h⟩ := rx; cases h
      | byt i => obtain ⟨t, h⟩ := rx; cases h
      | flt i => obtain ⟨t, h⟩ := rx; cases h
      | ref a => cases rx
      | ty n => cases rx
    have hp : plainIs v (.bool b) = true := by
      cases x with
      | bl c => cases (show v = Value.bool c from rx); rfl
      | non => cases rx; rfl
      | int i => obtain ⟨t, rfl⟩ := rx; rfl
      | str i => obtain ⟨t, rfl⟩ := rx; rfl
      | byt i => obtain ⟨t, rfl⟩ := rx; rfl
      | flt i => obtain ⟨t, rfl⟩ := rx; rfl
      | ref a => cases rx; rfl
      | ty n => cases (show v = Value.type n from rx); rfl
    exact wpAny_isNot_other hp hv ⟨.bl true, H, I, rfl, by simpa [e] using q⟩
theorem ro_isB {b : Bool} {f : Bool → Bool} : RO K (rIsB b f) (sIs b f) := fun F G H μ x y u w P Q S rx ry ⟨e, p⟩ q => by
  subst e
  refine ⟨rp_bl ry, ?_⟩
  have e : decide (x = .bl b) = isTruth b u := by
    cases u with
    | d z =>
      cases z with
      | bool c =>
        rw [rp_bl rx]
        show decide (V.bl c = V.bl b) = (c == b)
        by_cases h : c = b
        · subst h; simp
        · have : ¬ V.bl c = V.bl b := fun z => h (V.bl.inj z)
          simp [h]
      | none => rw [rp_non rx]; rfl
      | int i => rw [rp_int rx]; rfl
      | str i => rw [rp_str rx]; rfl
      | list l => obtain ⟨a, xs, rfl, _⟩ := rp_lst rx; rfl
      | tuple l => obtain ⟨a, xs, rfl, _⟩ := rp_tup rx; rfl
      | dict l => cases rx
    | r a => rw [show x = .ref a from rx]; rfl
  rw [e]
  exact q (.bl _) (.d (.bool _)) G H μ (Ext.refl G) S (Rp.bl _) p
theorem ro_isN : RO K (fun x y H Q => y = .non ∧ Q (.bl (decide (x = .non))) H) (sIsN id) := fun F G H μ x y u w P Q S rx ry ⟨e, p⟩ q => by
  subst e
  refine ⟨rp_non ry, ?_⟩
  have e : decide (x = .non) = isNon u := by
    cases u with
    | d z =>
      cases z with
      | bool c => rw [rp_bl rx]; rfl
      | none => rw [rp_non rx]; rfl
      | int i => rw [rp_int rx]; rfl
      | str i => rw [rp_str rx]; rfl
      | list l => obtain ⟨a, xs, rfl, _⟩ := rp_lst rx; rfl
      | tuple l => obtain ⟨a, xs, rfl, _⟩ := rp_tup rx; rfl
      | dict l => cases rx
    | r a => rw [show x = .ref a from rx]; rfl
  rw [e]
  exact q (.bl _) (.d (.bool _)) G H μ (Ext.refl G) S (Rp.bl _) p
theorem ro_notN : RO K (fun x y H Q => y = .non ∧ Q (.bl (!decide (x = .non))) H) (sIsN not) := fun F G H μ x y u w P Q S rx ry ⟨e, p⟩ q => by
  subst e
  refine ⟨rp_non ry, ?_⟩
  have e : decide (x = .non) = isNon u := by
    cases u with
    | d z =>
      cases z with
      | bool c => rw [rp_bl rx]; rfl
      | none => rw [rp_non rx]; rfl
      | int i => rw [rp_int rx]; rfl
      | str i => rw [rp_str rx]; rfl
      | list l => obtain ⟨a, xs, rfl, _⟩ := rp_lst rx; rfl
      | tuple l => obtain ⟨a, xs, rfl, _⟩ := rp_tup rx; rfl
      | dict l => cases rx
    | r a => rw [show x = .ref a from rx]; rfl
  rw [e]
  exact q (.bl _) (.d (.bool _)) G H μ (Ext.refl G) S (Rp.bl _) p
theorem rus_map_str {G : Hp} : ∀ {zs : List Str} {vs : List V}, Rus K G vs (zs.map fun y => U.d (.str y)) → vs = zs.map V.str
  | [], _, h => by cases h; rfl
  | z :: zs, _, h => by
    cases h with
    | cons h t => rw [rp_str h, rus_map_str t]; rfl
theorem rus_map_int {G : Hp} : ∀ {zs : List Int} {vs : List V}, Rus K G vs (zs.map fun y => U.d (.int y)) → vs = zs.map V.int
  | [], _, h => by cases h; rfl
  | z :: zs, _, h => by
    cases h with
    | cons h t => rw [rp_int h, rus_map_int t]; rfl
theorem inV_str (z : Str) : ∀ zs : List Str, inV (.str z) (zs.map V.str) = decide (z ∈ zs)
  | [] => rfl
  | y :: ys => by
    have ih := inV_str z ys
    unfold inV at ih ⊢
    rw [List.map_cons, List.any_cons, ih]
    show ((y == z) || decide (z ∈ ys)) = decide (z ∈ y :: ys)
    by_cases h : y = z
    · subst h; simp
    · have h2 : ¬ z = y := fun e => h e.symm
      simp [h, h2]
theorem inV_int (z : Int) : ∀ zs : List Int, inV (.int z) (zs.map V.int) = decide (z ∈ zs)
  | [] => rfl
  | y :: ys => by
    have ih := inV_int z ys
    unfold inV at ih ⊢
    rw [List.map_cons, List.any_cons, ih]
    show ((y == z) || decide (z ∈ ys)) = decide (z ∈ y :: ys)
    by_cases h : y = z
    · subst h; simp
    · have h2 : ¬ z = y := fun e => h e.symm
      simp [h, h2]
theorem flat_str : ∀ zs : List Str, (zs.map V.str).all flatV = true
  | [] => rfl
  | _ :: zs => flat_str zs
theorem flat_int : ∀ zs : List Int, (zs.map V.int).all flatV = true
  | [] => rfl
  | _ :: zs => flat_int zs
theorem ro_inS {neg : Bool} : RO K (rIn K neg) (sInS fun b => if neg then !b else b) := fun F G H μ x y u w P Q S rx ry ⟨z, zs, e1, h, p⟩ q => by
  subst e1
  obtain ⟨a, vs, rfl, hs, r⟩ := itemsU_ok S ry h
  rw [rus_map_str r] at hs
  rw [rp_str rx]
  refine ⟨a, _, rfl, hs, rfl, flat_str zs, ?_⟩
  rw [inV_str]
  exact q (.bl _) (.d (.bool _)) G H μ (Ext.refl G) S (Rp.bl _) p
theorem ro_inI {neg : Bool} : RO K (rIn K neg) (sInI fun b => if neg then !b else b) := fun F G H μ x y u w P Q S rx ry ⟨z, zs, e1, h, p⟩ q => by
  subst e1
  obtain ⟨a, vs, rfl, hs, r⟩ := itemsU_ok S ry h
  rw [rus_map_int r] at hs
  rw [rp_int rx]
  refine ⟨a, _, rfl, hs, rfl, flat_int zs, ?_⟩
  rw [inV_int]
  exact q (.bl _) (.d (.bool _)) G H μ (Ext.refl G) S (Rp.bl _) p
theorem atI_rus {G : Hp} {vs : List V} {us : List U} {i : Int} {z : U} (r : Rus K G vs us) (h : atI us i = some z) : ∃ v, atI vs i = some v ∧ Ru K G v z := by
  unfold atI at h ⊢
  rw [r.length]
  cases q : ixN us.length i with
  | none => rw [q] at h; cases h
  | some j =>
    rw [q] at h
    exact r.getU h
theorem ro_ix : RO K (rIx K) sIx := fun F G H μ x y u w P Q S rx ry ⟨i, z, e1, h, p⟩ q => by
  subst e1
  rw [rp_int ry]
  by_cases hs : ∃ t, u = .d (.str t)
  · obtain ⟨t, rfl⟩ := hs
    have h' : (if t.length ≤ sizeLine then (atI t.cps.toList i).map fun c => U.d (.str ⟨#[c]⟩) else none) = some z := h
    by_cases hz : t.length ≤ sizeLine
    · rw [if_pos hz] at h'
      cases hc : atI t.cps.toList i with
      | none => rw [hc] at h'; cases h'
      | some c =>
        rw [hc] at h'
        cases h'
        exact .inr (.inr ⟨t, i, c, rp_str rx, rfl, hz, hc, q (.str _) (.d (.str _)) G H μ (Ext.refl G) S (Rp.str _) p⟩)
    · rw [if_neg hz] at h'; cases h'
  · have h' : ((itemsU μ u).bind fun us => atI us i) = some z := by
      unfold ixU at h
      split at h
      · exact absurd ⟨_, rfl⟩ hs
      · exact h
    cases hi : itemsU μ u with
    | none => rw [hi] at h'; cases h'
    | some us =>
      rw [hi] at h'
      obtain ⟨a, vs, rfl, hq, r⟩ := itemsU_ok S rx hi
      obtain ⟨v, hv, rv⟩ := atI_rus r h'
      rcases hq with hq | hq
      · exact .inl ⟨a, vs, i, v, rfl, rfl, hq, hv, q _ _ G H μ (Ext.refl G) S rv p⟩
      · exact .inr (.inl ⟨a, vs, i, v, rfl, rfl, hq, hv, q _ _ G H μ (Ext.refl G) S rv p⟩)
theorem ro_catL : RO K (rCatW K) sCatL := fun F G H μ x y u w P Q S rx ry ⟨xs, ys, h1, h2, z, pp⟩ q => by
  obtain ⟨a, vs, rfl, k1, r1⟩ := listU_ok S rx h1
  obtain ⟨b, ws, rfl, k2, r2⟩ := listU_ok S ry h2
  have l1 := r1.length
  have l2 := r2.length
  rw [List.length_map] at l1 l2
  refine ⟨a, b, vs, ws, rfl, rfl, k1, k2, by rw [l1, l2]; exact z, fun p hp => ?_⟩
  obtain ⟨e, S'⟩ := S.newG (o := .lst (vs ++ ws)) hp
  refine q (.ref p) (.d (.list (xs ++ ys))) _ _ μ e S' (Rp.lst (SqL.of upd_same) ?_) pp
  have r3 : Rus K G (vs ++ ws) ((xs ++ ys).map U.d) := by
    rw [List.map_append]; exact r1.append r2
  exact (d_rus r3).mono e

theorem w_bin {op : Operator} {r : R2} {s : WR} (ho : OpR X (binaryOp op) r) (hr : RO X.K r s) (ha : WE X a ta wa) (hb : WE X b tb wb) : WE X (.BinOp a op b pos) (tOp r ta tb) (wOp s wa wb) := ⟨pe_op ho ha.pe hb.pe, re_op hr ha.re hb.re⟩
theorem w_cmp {op : CmpOp} {r : R2} {s : WR} (ho : OpR X (compareOp op) r) (hr : RO X.K r s) (ha : WE X a ta wa) (hb : WE X b tb wb) (hm : behindInMarks op b = false) : WE X (.Compare a [op] [b] pos) (tOp r ta tb) (wOp s wa wb) := ⟨pe_cmpR ho ha.pe hb.pe hm, re_op hr ha.re hb.re⟩
theorem w_ix (ha : WE X a ta wa) (hb : WE X b tb wb) (hs : PlainIx b := by exact fun _ _ => rfl) : WE X (.Subscript a b pos) (tOp (rIx X.K) ta tb) (wOp sIx wa wb) := ⟨pe_ix ix_seq ha.pe hb.pe hs, re_op ro_ix ha.re hb.re⟩
end
section
variable {X : Cx} {pos : Pos} {a b : Expr} {ta tb : TE} {wa wb : WX}
end
end L3

namespace L3
open PySem PySem.Spec PyProof.Rows L2

/-! ### tests, truths -/
def wB (w : WX) : WB := fun ρ μ P => w ρ μ fun x μ1 => ∃ c, x = .d (.bool c) ∧ P c μ1
def wAnd (a b : WB) : WB := fun ρ μ P => a ρ μ fun c μ1 => if c = true then b ρ μ1 P else P false μ1
def wOr (a b : WB) : WB := fun ρ μ P => a ρ μ fun c μ1 => if c = true then P true μ1 else b ρ μ1 P
def wNot (a : WB) : WB := fun ρ μ P => a ρ μ fun c μ1 => P (!c) μ1
def wAndV (a b : WX) : WX := fun ρ μ P => a ρ μ fun x μ1 => ∃ c, x = .d (.bool c) ∧ if c = true then b ρ μ1 P else P (.d (.bool false)) μ1
def wOrV (a b : WX) : WX := fun ρ μ P => a ρ μ fun x μ1 => ∃ c, x = .d (.bool c) ∧ if c = true then P (.d (.bool true)) μ1 else b ρ μ1 P
def wNotV (a : WX) : WX := fun ρ μ P => a ρ μ fun x μ1 => ∃ c, x = .d (.bool c) ∧ P (.d (.bool (!c))) μ1
def wIf (t : WB) (a b : WX) : WX := fun ρ μ P => t ρ μ fun c μ1 => if c = true then a ρ μ1 P else b ρ μ1 P
/-- the truth of a thing that may be read as a row -/
def wTruL (a : WX) : WB := fun ρ μ P => a ρ μ fun x μ1 => ∃ us, itemsU μ1 x = some us ∧ P (!us.isEmpty) μ1
section
variable {K : Fg} {X : Cx} {pos : Pos} {a b c : Expr} {rest : List Expr} {ta tb : TE} {wa wb : WX} {tc td : TT} {wc wd : WB}
theorem rt_B (h : RE K ta wa) : RT K (tB ta) (wB wa) := fun F G H μ σ ρ P Q S w q => h F G H μ σ ρ _ _ S w fun v u G1 H1 μ1 e1 S1 r1 ⟨c, e, p⟩ => by
  subst e
  exact ⟨c, rp_bl r1, q c G1 H1 μ1 e1 S1 p⟩
theorem w_val (h : WE X a ta wa) (he : ∀ whole, isTrue a X.env whole = (do let v ← whole; standAt a.pos; holding [v] (truthy v)) := by intro _; rfl) : WT X a (tB ta) (wB wa) := ⟨pt_val h.pe he, rt_B h.re⟩
theorem rt_and (h : RT K tc wc) (k : RT K td wd) : RT K (tAnd tc td) (wAnd wc wd) := fun F G H μ σ ρ P Q S w q => h F G H μ σ ρ _ _ S w fun c G1 H1 μ1 e1 S1 p => by
  cases c with
  | true => exact k F G1 H1 μ1 σ ρ P Q (S.mono e1 S1) p fun d G2 H2 μ2 e2 S2 p2 => q d G2 H2 μ2 (e1.trans e2) S2 p2
  | false => exact q false G1 H1 μ1 e1 S1 p
theorem rt_or (h : RT K tc wc) (k : RT K td wd) : RT K (tOr tc td) (wOr wc wd) := fun F G H μ σ ρ P Q S w q => h F G H μ σ ρ _ _ S w fun c G1 H1 μ1 e1 S1 p => by
  cases c with
  | false => exact k F G1 H1 μ1 σ ρ P Q (S.mono e1 S1) p fun d G2 H2 μ2 e2 S2 p2 => q d G2 H2 μ2 (e1.trans e2) S2 p2
  | true => exact q true G1 H1 μ1 e1 S1 p
theorem rt_not (h : RT K tc wc) : RT K (tNot tc) (wNot wc) := fun F G H μ σ ρ P Q S w q => h F G H μ σ ρ _ _ S w fun c G1 H1 μ1 e1 S1 p => q _ G1 H1 μ1 e1 S1 p
theorem w_and1 (h : WT X a tc wc) : WW X (.BoolOp .And [a] pos) tc wc := ⟨pw_and1 h.pt, h.rt⟩
theorem w_or1 (h : WT X a tc wc) : WW X (.BoolOp .Or [a] pos) tc wc := ⟨pw_or1 h.pt, h.rt⟩
theorem w_and (h : WT X a tc wc) (k : WW X (.BoolOp .And (b :: rest) pos) td wd) : WW X (.BoolOp .And (a :: b :: rest) pos) (tAnd tc td) (wAnd wc wd) := ⟨pw_and h.pt k.pw, rt_and h.rt k.rt⟩
theorem w_or (h : WT X a tc wc) (k : WW X (.BoolOp .Or (b :: rest) pos) td wd) : WW X (.BoolOp .Or (a :: b :: rest) pos) (tOr tc td) (wOr wc wd) := ⟨pw_or h.pt k.pw, rt_or h.rt k.rt⟩
theorem w_ww (h : WW X a tc wc) : WT X a tc wc := ⟨h.pw.pt, h.rt⟩
theorem w_nott (h : WT X a tc wc) : WT X (.UnaryOp .Not a pos) (tNot tc) (wNot wc) := ⟨pt_not h.pt, rt_not h.rt⟩
theorem w_one {op} (h : WE X a ta wa) : WE X (.BoolOp op [a] pos) ta wa := ⟨pe_one h.pe, h.re⟩
theorem re_andV (h : RE K ta wa) (k : RE K tb wb) : RE K (tAndV ta tb) (wAndV wa wb) := fun F G H μ σ ρ P Q S w q => h F G H μ σ ρ _ _ S w fun v u G1 H1 μ1 e1 S1 r1 ⟨c, e, p⟩ => by
  subst e
  refine ⟨c, rp_bl r1, ?_⟩
  cases c with
  | true => exact k F G1 H1 μ1 σ ρ P Q (S.mono e1 S1) p fun v u G2 H2 μ2 e2 S2 r2 p2 => q v u G2 H2 μ2 (e1.trans e2) S2 r2 p2
  | false => exact q (.bl false) (.d (.bool false)) G1 H1 μ1 e1 S1 (Rp.bl _) p
theorem re_orV (h : RE K ta wa) (k : RE K tb wb) : RE K (tOrV ta tb) (wOrV wa wb) := fun F G H μ σ ρ P Q S w q => h F G H μ σ ρ _ _ S w fun v u G1 H1 μ1 e1 S1 r1 ⟨c, e, p⟩ => by
  subst e
  refine ⟨c, rp_bl r1, ?_⟩
  cases c with
  | false => exact k F G1 H1 μ1 σ ρ P Q (S.mono e1 S1) p fun v u G2 H2 μ2 e2 S2 r2 p2 => q v u G2 H2 μ2 (e1.trans e2) S2 r2 p2
  | true => exact q (.bl true) (.d (.bool true)) G1 H1 μ1 e1 S1 (Rp.bl _) p
theorem re_notV (h : RE K ta wa) : RE K (tNotV ta) (wNotV wa) := fun F G H μ σ ρ P Q S w q => h F G H μ σ ρ _ _ S w fun v u G1 H1 μ1 e1 S1 r1 ⟨c, e, p⟩ => by
  subst e
  exact ⟨c, rp_bl r1, q (.bl (!c)) (.d (.bool (!c))) G1 H1 μ1 e1 S1 (Rp.bl _) p⟩
theorem w_andV (h : WE X a ta wa) (k : WE X (.BoolOp .And (b :: rest) pos) tb wb) : WE X (.BoolOp .And (a :: b :: rest) pos) (tAndV ta tb) (wAndV wa wb) := ⟨pe_and h.pe k.pe, re_andV h.re k.re⟩
theorem w_orV (h : WE X a ta wa) (k : WE X (.BoolOp .Or (b :: rest) pos) tb wb) : WE X (.BoolOp .Or (a :: b :: rest) pos) (tOrV ta tb) (wOrV wa wb) := ⟨pe_or h.pe k.pe, re_orV h.re k.re⟩
theorem w_notV (h : WE X a ta wa) : WE X (.UnaryOp .Not a pos) (tNotV ta) (wNotV wa) := ⟨pe_not h.pe, re_notV h.re⟩
theorem re_if (h : RT K tc wc) (k : RE K ta wa) (l : RE K tb wb) : RE K (tIf tc ta tb) (wIf wc wa wb) := fun F G H μ σ ρ P Q S w q => h F G H μ σ ρ _ _ S w fun c G1 H1 μ1 e1 S1 p => by
  cases c with
  | true => exact k F G1 H1 μ1 σ ρ P Q (S.mono e1 S1) p fun v u G2 H2 μ2 e2 S2 r2 p2 => q v u G2 H2 μ2 (e1.trans e2) S2 r2 p2
  | false => exact l F G1 H1 μ1 σ ρ P Q (S.mono e1 S1) p fun v u G2 H2 μ2 e2 S2 r2 p2 => q v u G2 H2 μ2 (e1.trans e2) S2 r2 p2
theorem w_if (h : WT X c tc wc) (k : WE X a ta wa) (l : WE X b tb wb) : WE X (.IfExp c a b pos) (tIf tc ta tb) (wIf wc wa wb) := ⟨pe_ifExp h.pt k.pe l.pe, re_if h.rt k.re l.re⟩
theorem isEmpty_len {α β : Type} {xs : List α} {ys : List β} (h : xs.length = ys.length) : xs.isEmpty = ys.isEmpty := by
  cases xs <;> cases ys <;> first | rfl | cases h
theorem rt_truL (h : RE K ta wa) : RT K (fun σ H Q => ta σ H fun x H' => ∃ k, TruV K x H' k ∧ Q k H') (wTruL wa) := fun F G H μ σ ρ P Q S w q => h F G H μ σ ρ _ _ S w fun v u G1 H1 μ1 e1 S1 r1 ⟨us, hi, p⟩ => by
  obtain ⟨x, vs, rfl, hs, r⟩ := itemsU_ok S1 r1 hi
  refine ⟨!us.isEmpty, ?_, q _ G1 H1 μ1 e1 S1 p⟩
  rcases hs with hs | hs
  · exact .inl ⟨vs, hs, by rw [isEmpty_len r.length]⟩
  · exact .inr (.inl ⟨vs, hs, by rw [isEmpty_len r.length]⟩)
theorem w_truL (h : WE X a ta wa) (he : ∀ whole, isTrue a X.env whole = (do let v ← whole; standAt a.pos; holding [v] (truthy v)) := by intro _; rfl) : WT X a (fun σ H Q => ta σ H fun x H' => ∃ k, TruV X.K x H' k ∧ Q k H') (wTruL wa) := ⟨pt_truth h.pe he, rt_truL h.re⟩
end

/-! ### argument rows, displays -/
def wNil : WL := fun _ μ P => P [] μ
def wCons (a : WX) (r : WL) : WL := fun ρ μ P => a ρ μ fun x μ1 => r ρ μ1 fun xs μ2 => P (x :: xs) μ2
def wTup (a : WL) : WX := fun ρ μ P => a ρ μ fun us μ1 => ∃ ds : List PyData, us = ds.map U.d ∧ ds.length ≤ sizeLine ∧ P (.d (.tuple ds)) μ1
def wLst (a : WL) : WX := fun ρ μ P => a ρ μ fun us μ1 => ∃ ds : List PyData, us = ds.map U.d ∧ ds.length ≤ sizeLine ∧ P (.d (.list ds)) μ1
def wLstM (a : WL) : WX := fun ρ μ P => a ρ μ fun us μ1 => us.length ≤ sizeLine ∧ ∀ p, μ1 p = none → P (.r p) (put μ1 p (.lst us))
section
variable {K : Fg} {X : Cx} {pos : Pos} {e : Expr} {es : List Expr} {te : TE} {we : WX} {t : TA} {w : WL}
theorem ra_nil : RA K tNil wNil := fun F G H μ σ ρ P Q S w q => q [] [] G H μ (Ext.refl G) S.st .nil w
theorem ra_cons (h : RE K te we) (k : RA K t w) : RA K (tCons te t) (wCons we w) := fun F G H μ σ ρ P Q S x q => h F G H μ σ ρ _ _ S x fun v u G1 H1 μ1 e1 S1 r1 p =>
  k F G1 H1 μ1 σ ρ _ _ (S.mono e1 S1) p fun vs us G2 H2 μ2 e2 S2 r2 p2 => q (v :: vs) (u :: us) G2 H2 μ2 (e1.trans e2) S2 (.cons (r1.mono e2) r2) p2
theorem w_nil : WAr X [] tNil wNil := ⟨pa_nil, ra_nil⟩
theorem w_cons (h : WE X e te we) (k : WAr X es t w) (hs : starEach (e :: es) X.env = (false, eval e X.env) :: starEach es X.env := by rfl) : WAr X (e :: es) (tCons te t) (wCons we w) := ⟨pa_cons h.pe k.pa hs, ra_cons h.re k.ra⟩
theorem re_tup (h : RA K t w) : RE K (tTup t) (wTup w) := fun F G H μ σ ρ P Q S x q => h F G H μ σ ρ _ _ S x fun vs us G1 H1 μ1 e1 S1 r1 ⟨ds, e, z, p⟩ => by
  subst e
  have hl := r1.length
  rw [List.length_map] at hl
  refine ⟨by rw [hl]; exact z, fun a ha => ?_⟩
  obtain ⟨e2, S2⟩ := S1.newG (o := .tup vs) ha
  exact q (.ref a) (.d (.tuple ds)) _ _ μ1 (e1.trans e2) S2 (Rp.tup (.inl upd_same) ((d_rus r1).mono e2)) p
theorem re_lst (h : RA K t w) : RE K (tLst t) (wLst w) := fun F G H μ σ ρ P Q S x q => h F G H μ σ ρ _ _ S x fun vs us G1 H1 μ1 e1 S1 r1 ⟨ds, e, z, p⟩ => by
  subst e
  have hl := r1.length
  rw [List.length_map] at hl
  refine ⟨by rw [hl]; exact z, fun a ha => ?_⟩
  obtain ⟨e2, S2⟩ := S1.newG (o := .lst vs) ha
  exact q (.ref a) (.d (.list ds)) _ _ μ1 (e1.trans e2) S2 (Rp.lst (SqL.of upd_same) ((d_rus r1).mono e2)) p
theorem re_lstM (h : RA K t w) : RE K (tLst t) (wLstM w) := fun F G H μ σ ρ P Q S x q => h F G H μ σ ρ _ _ S x fun vs us G1 H1 μ1 e1 S1 r1 ⟨z, p⟩ => by
  refine ⟨by rw [r1.length]; exact z, fun a ha => ?_⟩
  exact q (.ref a) (.r a) G1 _ _ e1 (S1.newM (m := .lst us) ha ⟨vs, upd_same, r1⟩) rfl (p a (S1.mnone ha))
theorem w_tup {x1} (h : WAr X es t w) : WE X (.Tuple es x1 pos) (tTup t) (wTup w) := ⟨pe_tup h.pa, re_tup h.ra⟩
theorem w_lst (h : WAr X es t w) : WE X (.List es pos) (tLst t) (wLst w) := ⟨pe_lst h.pa, re_lst h.ra⟩
theorem w_lstM (h : WAr X es t w) : WE X (.List es pos) (tLst t) (wLstM w) := ⟨pe_lst h.pa, re_lstM h.ra⟩
end

/-! ### what a def is worth, calls -/
abbrev WF := List U → Mu → XP → Prop
def sp3 (K : Fg) (w : WF) : Sp := fun vs H Q _ => ∃ (us : List U) (F G : Hp) (μ : Mu) (P : XP), St3 K F G H μ ∧ Rus K G vs us ∧ w us μ P ∧
  ∀ v u G' H' μ', Ext G G' → St3 K F G' H' μ' → Ru K G' v u → P u μ' → Q v H'
def wCall (s : WF) (w : WL) : WX := fun ρ μ P => w ρ μ fun us μ1 => s us μ1 P
section
variable {K : Fg} {X : Cx} {pos p : Pos} {e : Expr} {es : List Expr} {t : TA} {w : WL} {s : WF} {k j : Nat} {x : Str}
theorem re_call {E : XK} (h : RA K t w) : RE K (tCall (sp3 K s) [] E t) (wCall s w) := fun F G H μ σ ρ P Q S x q => h F G H μ σ ρ _ _ S x fun vs us G1 H1 μ1 e1 S1 r1 p =>
  ⟨us, F, G1, μ1, P, S1, by rw [List.append_nil]; exact r1, p, fun v u G2 H2 μ2 e2 S2 r2 p2 => q v u G2 H2 μ2 (e1.trans e2) S2 r2 p2⟩
theorem w_call (c : C8.Cal X.prog X.w X.K X.mg X.base k x (sp3 X.K s) []) (hr : Room j X.A) (hk : k ≤ j) (hg : Gl X x) (ha : WAr X (e :: es) t w)
    (hdb : (x == ("__debug__" : Str)) = false := by decide) (he : starEach (e :: es) X.env = (false, eval e X.env) :: starEach es X.env := by rfl) (hpl : (backTo pos (starEach es X.env)).any (·.1) = false := by rfl) :
    WE X (.Call (.Name x p) (e :: es) [] pos) (tCall (sp3 X.K s) [] C8.E0 t) (wCall s w) := ⟨C8.pe_c c hr hk hg ha.pa hdb he hpl, re_call ha.ra⟩
end

/-! ### built-in functions by values -/
abbrev WQ := List U → Mu → XP → Prop
def RQ (K : Fg) (r : List V → Hp → VK → Prop) (s : WQ) : Prop := ∀ (F G H : Hp) (μ : Mu) (vs : List V) (us : List U) (P : XP) (Q : VK), St3 K F G H μ → Rus K G vs us → s us μ P →
  (∀ v u' G' H' μ', Ext G G' → St3 K F G' H' μ' → Ru K G' v u' → P u' μ' → Q v H') → r vs H Q
def wQ (s : WQ) (w : WL) : WX := fun ρ μ P => w ρ μ fun us μ1 => s us μ1 P
def qLen : WQ := fun us μ P => ∃ u ws, us = [u] ∧ itemsU μ u = some ws ∧ P (.d (.int (ws.length : Int))) μ
def qLenS : WQ := fun us μ P => ∃ z : Str, us = [.d (.str z)] ∧ z.length ≤ sizeLine ∧ P (.d (.int (z.length : Int))) μ
def qInt : WQ := fun us μ P => ∃ i : Int, us = [.d (.int i)] ∧ P (.d (.int i)) μ
def qAbs : WQ := fun us μ P => ∃ i : Int, us = [.d (.int i)] ∧ P (.d (.int (if i < 0 then -i else i))) μ
def qStr : WQ := fun us μ P => ∃ i : Int, us = [.d (.int i)] ∧ i.natAbs.log2 < 1920 ∧ P (.d (.str (toString i))) μ
def qMax2 : WQ := fun us μ P => ∃ i j : Int, us = [.d (.int i), .d (.int j)] ∧ P (.d (.int (if j > i then j else i))) μ
def qMin2 : WQ := fun us μ P => ∃ i j : Int, us = [.d (.int i), .d (.int j)] ∧ P (.d (.int (if j < i then j else i))) μ
def qSortS : WQ := fun us μ P => ∃ (u : U) (xs : List Str), us = [u] ∧ listU μ u = some (xs.map fun z => U.d (.str z)) ∧ xs.length < 64 ∧ ∀ ys : List Str, ys.Perm xs → sortedS ys = true → P (.d (.list (ys.map .str))) μ
def qList : WQ := fun us μ P => ∃ (u : U) (ds : List PyData), us = [u] ∧ itemsU μ u = some (ds.map U.d) ∧ P (.d (.list ds)) μ
def qListM : WQ := fun us μ P => ∃ (u : U) (ws : List U), us = [u] ∧ itemsU μ u = some ws ∧ ∀ p, μ p = none → P (.r p) (put μ p (.lst ws))
def qTuple : WQ := fun us μ P => ∃ (u : U) (ds : List PyData), us = [u] ∧ itemsU μ u = some (ds.map U.d) ∧ P (.d (.tuple ds)) μ
def tyU : U → String
  | .d .none => "NoneType"
  | .d (.bool _) => "bool"
  | .d (.int _) => "int"
  | .d (.str _) => "str"
  | .d (.tuple _) => "tuple"
  | .d (.list _) => "list"
  | _ => "other"
def tyOk : U → Bool
  | .d .none => true
  | .d (.bool _) => true
  | .d (.int _) => true
  | .d (.str _) => true
  | .d (.tuple _) => true
  | .d (.list _) => true
  | _ => false
section
variable {K : Fg} {X : Cx} {pos p : Pos} {e : Expr} {es : List Expr} {t : TA} {w : WL} {s : WQ} {x : Str} {r : List V → Hp → VK → Prop}
theorem re_Q (hr : RQ K r s) (h : RA K t w) : RE K (tCB r t) (wQ s w) := fun F G H μ σ ρ P Q S x q => h F G H μ σ ρ _ _ S x fun vs us G1 H1 μ1 e1 S1 r1 p =>
  hr F G1 H1 μ1 vs us P Q S1 r1 p fun v u G2 H2 μ2 e2 S2 r2 p2 => q v u G2 H2 μ2 (e1.trans e2) S2 r2 p2
theorem w_qb {id : String} (hc : CallR X (.builtin id) r) (hr : RQ X.K r s) (hg : Gl X x) (hm : X.mg x = none) (hv : bootBuiltins x = some (.builtin id)) (ha : WAr X (e :: es) t w) (hn : x ≠ "__name__" := by decide) (hdb : (x == ("__debug__" : Str)) = false := by decide)
    (he : starEach (e :: es) X.env = (false, eval e X.env) :: starEach es X.env := by rfl) (hpl : (backTo pos (starEach es X.env)).any (·.1) = false := by rfl) : WE X (.Call (.Name x p) (e :: es) [] pos) (tCB r t) (wQ s w) := ⟨pe_callB hc hg hm hv ha.pa hn hdb he hpl, re_Q hr ha.ra⟩
theorem w_qt {T : String} (hc : CallR X (.type T) r) (hr : RQ X.K r s) (hg : Gl X x) (hm : X.mg x = none) (hv : bootBuiltins x = some (.type T)) (ha : WAr X (e :: es) t w) (hn : x ≠ "__name__" := by decide) (hdb : (x == ("__debug__" : Str)) = false := by decide)
    (he : starEach (e :: es) X.env = (false, eval e X.env) :: starEach es X.env := by rfl) (hpl : (backTo pos (starEach es X.env)).any (·.1) = false := by rfl) : WE X (.Call (.Name x p) (e :: es) [] pos) (tCB r t) (wQ s w) := ⟨pe_callTy hc hg hm hv ha.pa hn hdb he hpl, re_Q hr ha.ra⟩
theorem rus1 {G : Hp} {vs : List V} {u : U} (h : Rus K G vs [u]) : ∃ v, vs = [v] ∧ Ru K G v u := by
  cases h with
  | cons h t => cases t; exact ⟨_, rfl, h⟩
theorem rus2 {G : Hp} {vs : List V} {u w : U} (h : Rus K G vs [u, w]) : ∃ v x, vs = [v, x] ∧ Ru K G v u ∧ Ru K G x w := by
  cases h with
  | cons h t =>
    obtain ⟨x, rfl, h2⟩ := rus1 t
    exact ⟨_, _, rfl, h, h2⟩
theorem rq_len : RQ K (fun xs H Q => ∃ p ys, xs = [.ref p] ∧ (SqL K H p ys ∨ SqT K H p ys) ∧ Q (.int ys.length) H) qLen := fun F G H μ vs us P Q S r ⟨u, ws, e, hi, p⟩ q => by
  subst e
  obtain ⟨v, rfl, q1⟩ := rus1 r
  obtain ⟨a, ys, rfl, hs, r2⟩ := itemsU_ok S q1 hi
  refine ⟨a, ys, rfl, hs, ?_⟩
  rw [r2.length]
  exact q _ (.d (.int _)) G H μ (Ext.refl G) S (Rp.int _) p
theorem rq_lenS : RQ K (fun xs H Q => ∃ z, xs = [.str z] ∧ z.length ≤ sizeLine ∧ Q (.int z.length) H) qLenS := fun F G H μ vs us P Q S r ⟨z, e, hz, p⟩ q => by
  subst e
  obtain ⟨v, rfl, q1⟩ := rus1 r
  rw [rp_str q1]
  exact ⟨z, rfl, hz, q _ (.d (.int _)) G H μ (Ext.refl G) S (Rp.int _) p⟩
theorem rq_int : RQ K (fun xs H Q => (∃ i, xs = [.int i] ∧ Q (.int i) H) ∨ ∃ k, xs = [.bl k] ∧ Q (.int (if k then 1 else 0)) H) qInt := fun F G H μ vs us P Q S r ⟨z, e, p⟩ q => by
  subst e
  obtain ⟨v, rfl, q1⟩ := rus1 r
  rw [rp_int q1]
  exact .inl ⟨z, rfl, q _ (.d (.int _)) G H μ (Ext.refl G) S (Rp.int _) p⟩
theorem rq_abs : RQ K (fun xs H Q => ∃ i, xs = [.int i] ∧ Q (.int (if i < 0 then -i else i)) H) qAbs := fun F G H μ vs us P Q S r ⟨z, e, p⟩ q => by
  subst e
  obtain ⟨v, rfl, q1⟩ := rus1 r
  rw [rp_int q1]
  exact ⟨z, rfl, q _ (.d (.int _)) G H μ (Ext.refl G) S (Rp.int _) p⟩
theorem rq_str : RQ K (fun xs H Q => ∃ i, xs = [.int i] ∧ i.natAbs.log2 < 1920 ∧ Q (.str (toString i)) H) qStr := fun F G H μ vs us P Q S r ⟨z, e, hz, p⟩ q => by
  subst e
  obtain ⟨v, rfl, q1⟩ := rus1 r
  rw [rp_int q1]
  exact ⟨z, rfl, hz, q _ (.d (.str _)) G H μ (Ext.refl G) S (Rp.str _) p⟩
theorem rq_max2 : RQ K (fun xs H Q => ∃ i j, xs = [.int i, .int j] ∧ Q (.int (if j > i then j else i)) H) qMax2 := fun F G H μ vs us P Q S r ⟨i, j, e, p⟩ q => by
  subst e
  obtain ⟨v, x, rfl, q1, q2⟩ := rus2 r
  rw [rp_int q1, rp_int q2]
  exact ⟨i, j, rfl, q _ (.d (.int _)) G H μ (Ext.refl G) S (Rp.int _) p⟩
theorem rq_min2 : RQ K (fun xs H Q => ∃ i j, xs = [.int i, .int j] ∧ Q (.int (if j < i then j else i)) H) qMin2 := fun F G H μ vs us P Q S r ⟨i, j, e, p⟩ q => by
  subst e
  obtain ⟨v, x, rfl, q1, q2⟩ := rus2 r
  rw [rp_int q1, rp_int q2]
  exact ⟨i, j, rfl, q _ (.d (.int _)) G H μ (Ext.refl G) S (Rp.int _) p⟩
theorem rq_sortS : RQ K (rSortedS K) qSortS := fun F G H μ vs us P Q S r ⟨u, xs, e, hi, hz, p⟩ q => by
  subst e
  obtain ⟨v, rfl, q1⟩ := rus1 r
  obtain ⟨a, ys, rfl, hs, r2⟩ := listU_ok S q1 hi
  rw [rus_map_str r2] at hs
  refine ⟨a, xs, rfl, hs, hz, fun zs l hp hso hl => ?_⟩
  obtain ⟨e2, S2⟩ := S.newG (o := .lst (zs.map V.str)) hl
  exact q (.ref l) (.d (.list (zs.map .str))) _ _ μ e2 S2 (Rp.lst (SqL.of upd_same) (rps_strs' zs)) (p zs hp hso)
theorem rq_list : RQ K (fun xs H Q => ∃ p ys, xs = [.ref p] ∧ (SqL K H p ys ∨ SqT K H p ys) ∧ ∀ l, H l = none → Q (.ref l) (upd H l (.lst ys))) qList := fun F G H μ vs us P Q S r ⟨u, ds, e, hi, p⟩ q => by
  subst e
  obtain ⟨v, rfl, q1⟩ := rus1 r
  obtain ⟨a, ys, rfl, hs, r2⟩ := itemsU_ok S q1 hi
  refine ⟨a, ys, rfl, hs, fun l hl => ?_⟩
  obtain ⟨e2, S2⟩ := S.newG (o := .lst ys) hl
  exact q (.ref l) (.d (.list ds)) _ _ μ e2 S2 (Rp.lst (SqL.of upd_same) ((d_rus r2).mono e2)) p
theorem rq_listM : RQ K (fun xs H Q => ∃ p ys, xs = [.ref p] ∧ (SqL K H p ys ∨ SqT K H p ys) ∧ ∀ l, H l = none → Q (.ref l) (upd H l (.lst ys))) qListM := fun F G H μ vs us P Q S r ⟨u, ws, e, hi, p⟩ q => by
  subst e
  obtain ⟨v, rfl, q1⟩ := rus1 r
  obtain ⟨a, ys, rfl, hs, r2⟩ := itemsU_ok S q1 hi
  exact ⟨a, ys, rfl, hs, fun l hl => q (.ref l) (.r l) G _ _ (Ext.refl G) (S.newM (m := .lst ws) hl ⟨ys, upd_same, r2⟩) rfl (p l (S.mnone hl))⟩
theorem d_inj : ∀ {l m : List PyData}, l.map U.d = m.map U.d → l = m
  | [], [], _ => rfl
  | [], _ :: _, h => by cases h
  | _ :: _, [], h => by cases h
  | x :: l, y :: m, h => by
    rw [List.map_cons, List.map_cons] at h
    injection h with h1 h2
    injection h1 with h1
    rw [h1, d_inj h2]
theorem rq_tuple : RQ K (fun xs H Q => ∃ p ys, xs = [.ref p] ∧ ((SqL K H p ys ∧ ∀ l, H l = none → Q (.ref l) (upd H l (.tup ys))) ∨ (SqT K H p ys ∧ Q (.ref p) H))) qTuple := fun F G H μ vs us P Q S r ⟨u, ds, e, hi, p⟩ q => by
  subst e
  obtain ⟨v, rfl, q1⟩ := rus1 r
  by_cases ht : ∃ l, u = .d (.tuple l)
  · obtain ⟨l, rfl⟩ := ht
    obtain ⟨a, xs, rfl, h1, h2⟩ := rp_tup q1
    have e : l.map U.d = ds.map U.d := Option.some.inj hi
    have e2 : l = ds := d_inj e
    subst e2
    exact ⟨a, xs, rfl, .inr ⟨h1.sq S.sub, q (.ref a) (.d (.tuple l)) G H μ (Ext.refl G) S q1 p⟩⟩
  · have hl : listU μ u = some (ds.map U.d) := by
      cases u with
      | d z =>
        cases z with
        | list l => exact hi
        | tuple l => exact absurd ⟨_, rfl⟩ ht
        | _ => cases hi
      | r a => exact hi
    obtain ⟨a, ys, rfl, hs, r2⟩ := listU_ok S q1 hl
    refine ⟨a, ys, rfl, .inl ⟨hs, fun l hl => ?_⟩⟩
    obtain ⟨e2, S2⟩ := S.newG (o := .tup ys) hl
    exact q (.ref l) (.d (.tuple ds)) _ _ μ e2 S2 (Rp.tup (.inl upd_same) ((d_rus r2).mono e2)) p
/-- isinstance(e, T), T the name of a built-in class -/
def wIsi (T : String) (w : WX) : WX := fun ρ μ P => w ρ μ fun u μ1 => tyOk u = true ∧ ∃ b, kitB (tyU u) T = some b ∧ P (.d (.bool b)) μ1
def tIsi (K : Fg) (T : String) (te : TE) : TE := tCB (rIsi K) (tCons te (tCons (tC (.ty T)) tNil))
theorem tyX_ok {G H : Hp} {v : V} {u : U} (e : Ext G H) (r : Ru K G v u) (h : tyOk u = true) : TyX K H v (.type (tyU u)) := by
  cases u with
  | r a => cases h
  | d z =>
    cases z with
    | none => rw [rp_non r]; exact .base .non
    | bool b => rw [rp_bl r]; exact .base (.bl b)
    | int b => rw [rp_int r]; exact .base (.int b)
    | str b => rw [rp_str r]; exact .base (.str b)
    | list l =>
      obtain ⟨a, xs, rfl, h1, _⟩ := rp_lst r
      rcases sqlE e h1 with (h1 | ⟨o, h1⟩) | ⟨o, its, n, h1, h2, _⟩
      · exact .base (.lst h1)
      · exact .base (.frz h1)
      · exact .kList h1 h2
    | tuple l =>
      obtain ⟨a, xs, rfl, h1, _⟩ := rp_tup r
      rcases h1 with h1 | ⟨o, its, n, h1, h2, _⟩
      · exact .base (.tup (e _ _ h1))
      · exact .kTuple h1 h2
    | dict l => cases h
theorem w_isi {T : String} {y : Str} {te : TE} {we : WX} {py : Pos} (hg : Gl X x) (hm : X.mg x = none) (hv : bootBuiltins x = some (.builtin "isinstance")) (hgy : Gl X y) (hmy : X.mg y = none) (hvy : bootBuiltins y = some (.type T)) (h : WE X e te we)
    (hn : x ≠ "__name__" := by decide) (hdb : (x == ("__debug__" : Str)) = false := by decide) (hny : y ≠ "__name__" := by decide) (hdy : (y == ("__debug__" : Str)) = false := by decide)
    (he : starEach [e, .Name y py] X.env = (false, eval e X.env) :: starEach [.Name y py] X.env := by rfl) (hpl : (backTo pos (starEach [.Name y py] X.env)).any (·.1) = false := by rfl)
    (he2 : starEach [.Name y py] X.env = (false, eval (.Name y py) X.env) :: starEach [] X.env := by rfl) : WE X (.Call (.Name x p) [e, .Name y py] [] pos) (tIsi X.K T te) (wIsi T we) :=
  ⟨pe_callB call_isi hg hm hv (pa_cons h.pe (pa_cons (pe_bltn hgy hmy hvy rfl hny hdy) pa_nil he2) he) hn hdb he hpl, fun F G H μ σ ρ P Q S x q => h.re F G H μ σ ρ _ _ S x fun v u G1 H1 μ1 e1 S1 r1 ⟨hk, b, hb, pp⟩ =>
    ⟨v, .ty T, .type (tyU u), .type T, b, rfl, .ty T, tyX_ok S1.sub r1 hk, kit_ty hb, q (.bl b) (.d (.bool b)) G1 H1 μ1 e1 S1 (Rp.bl b) pp⟩⟩
end
end L3

namespace L3
open PySem PySem.Spec PyProof.Rows L2

/-! ### methods of lists, join -/
abbrev WM := U → List U → Mu → XP → Prop
def RM (K : Fg) (r : V → List V → Hp → VK → Prop) (s : WM) : Prop := ∀ (F G H : Hp) (μ : Mu) (x : V) (vs : List V) (u : U) (us : List U) (P : XP) (Q : VK), St3 K F G H μ → Ru K G x u → Rus K G vs us → s u us μ P →
  (∀ v u' G' H' μ', Ext G G' → St3 K F G' H' μ' → Ru K G' v u' → P u' μ' → Q v H') → r x vs H Q
def isL (μ : Mu) (u : U) : Prop := ∃ us, listU μ u = some us
def wML (s : WM) (o : WX) (w : WL) : WX := fun ρ μ P => o ρ μ fun u μ1 => isL μ1 u ∧ w ρ μ1 fun us μ2 => s u us μ2 P
def mAppend : WM := fun u vs μ P => ∃ a us y, u = .r a ∧ vs = [y] ∧ μ a = some (.lst us) ∧ us.length < sizeLine ∧ P (.d .none) (put μ a (.lst (us ++ [y])))
def mPop : WM := fun u vs μ P => ∃ a us y, u = .r a ∧ vs = [] ∧ μ a = some (.lst us) ∧ us[us.length - 1]? = some y ∧ P y (put μ a (.lst us.dropLast))
def mPopAt : WM := fun u vs μ P => ∃ a us i k y, u = .r a ∧ vs = [.d (.int i)] ∧ μ a = some (.lst us) ∧ -(2 ^ 63) ≤ i ∧ i < 2 ^ 63 ∧ seqIndex? i us.length = some k ∧ us[k]? = some y ∧ P y (put μ a (.lst (us.eraseIdx k)))
def mExtendT : WM := fun u vs μ P => ∃ (a : Addr) (us : List U) (ds : List PyData), u = .r a ∧ vs = [.d (.tuple ds)] ∧ μ a = some (.lst us) ∧ us.length + ds.length ≤ sizeLine ∧ P (.d .none) (put μ a (.lst (us ++ ds.map .d)))
def mReverse : WM := fun u vs μ P => ∃ a us, u = .r a ∧ vs = [] ∧ μ a = some (.lst us) ∧ P (.d .none) (put μ a (.lst us.reverse))
section
variable {K : Fg} {X : Cx} {pos apos cpos p : Pos} {o e : Expr} {es : List Expr} {to te : TE} {wo we : WX} {t : TA} {w : WL} {name : Str} {id : String} {r : V → List V → Hp → VK → Prop} {s : WM}
theorem isL_ty {F G H : Hp} {μ : Mu} {v : V} {u : U} (S : St3 K F G H μ) (q : Ru K G v u) (h : isL μ u) : tyV K "list" v H := by
  obtain ⟨us, h⟩ := h
  obtain ⟨a, vs, rfl, h1, _⟩ := listU_ok S q h
  exact .inl ⟨rfl, vs, h1⟩
theorem re_bm (hr : RM K r s) (ho : RE K to wo) (ha : RA K t w) : RE K (tBM K "list" r to t) (wML s wo w) := fun F G H μ σ ρ P Q S x q => ho F G H μ σ ρ _ _ S x fun v u G1 H1 μ1 e1 S1 r1 ⟨hl, p⟩ =>
  ⟨isL_ty S1 r1 hl, ha F G1 H1 μ1 σ ρ _ _ (S.mono e1 S1) p fun vs us G2 H2 μ2 e2 S2 r2 p2 => hr F G2 H2 μ2 v vs u us P Q S2 (r1.mono e2) r2 p2 fun v u G3 H3 μ3 e3 S3 r3 p3 => q v u G3 H3 μ3 ((e1.trans e2).trans e3) S3 r3 p3⟩
theorem re_bm0 (hr : RM K r s) (ho : RE K to wo) : RE K (tBM0 K "list" r to) (wML s wo wNil) := fun F G H μ σ ρ P Q S x q => ho F G H μ σ ρ _ _ S x fun v u G1 H1 μ1 e1 S1 r1 ⟨hl, p⟩ =>
  ⟨isL_ty S1 r1 hl, hr F G1 H1 μ1 v [] u [] P Q S1 r1 .nil p fun v u G3 H3 μ3 e3 S3 r3 p3 => q v u G3 H3 μ3 (e1.trans e3) S3 r3 p3⟩
theorem w_bm (slot : Slot "list" name id) (hty : typeOf (.builtin id) = pure (.type "method_descriptor")) (hm : MtR X id r) (hr : RM X.K r s) (ho : WE X o to wo) (ha : WAr X (e :: es) t w)
    (hbase : attributeBase o name X.env (eval o X.env) = eval o X.env := by rfl)
    (hfew : ((backTo cpos (starEach (e :: es) X.env)).all (fun x => !x.1) && (backToKw cpos (keywordEach [] X.env)).all (fun x => x.1.isSome)
      && decide ((e :: es).length + ([] : List Keyword).length + (if ([] : List Keyword).isEmpty then 0 else 1) < 30)) = true := by rfl)
    (hline : (apos.endLine == cpos.line) = true := by rfl) (hs : starEach (e :: es) X.env = (false, eval e X.env) :: starEach es X.env := by rfl) (hplain : (backTo cpos (starEach es X.env)).any (·.1) = false := by rfl) :
    WE X (.Call (.Attribute o name apos) (e :: es) [] cpos) (tBM X.K "list" r to t) (wML s wo w) := ⟨pe_bm PySem.F.plainAttrs_list slot hty hm ho.pe ha.pa hbase hfew hline hs hplain, re_bm hr ho.re ha.ra⟩
theorem w_bm0 (slot : Slot "list" name id) (hty : typeOf (.builtin id) = pure (.type "method_descriptor")) (hm : MtR X id r) (hr : RM X.K r s) (ho : WE X o to wo)
    (hbase : attributeBase o name X.env (eval o X.env) = eval o X.env := by rfl) (hline : (apos.endLine == cpos.line) = true := by rfl) :
    WE X (.Call (.Attribute o name apos) [] [] cpos) (tBM0 X.K "list" r to) (wML s wo wNil) := ⟨pe_bm0 PySem.F.plainAttrs_list slot hty hm ho.pe hbase hline, re_bm0 hr ho.re⟩
theorem rm_append : RM K rAppend mAppend := fun F G H μ x vs u us P Q S rx rv ⟨a, ws, y, e1, e2, h, z, p⟩ q => by
  subst e1 e2
  obtain ⟨v, rfl, q1⟩ := rus1 rv
  obtain ⟨xs, h1, h2⟩ := S.lst h
  refine ⟨a, xs, v, rx, rfl, h1, by rw [h2.length]; exact z, ?_⟩
  exact q .non (.d .none) G _ _ (Ext.refl G) (S.write (m' := .lst (ws ++ [y])) h ⟨xs ++ [v], upd_same, h2.append (.cons q1 .nil)⟩) Rp.non p
theorem rm_pop : RM K rPop mPop := fun F G H μ x vs u us P Q S rx rv ⟨a, ws, y, e1, e2, h, z, p⟩ q => by
  subst e1 e2
  cases rv
  obtain ⟨xs, h1, h2⟩ := S.lst h
  obtain ⟨v, hv, rv⟩ := h2.getU z
  refine ⟨a, xs, v, rx, rfl, h1, by rw [h2.length]; exact hv, ?_⟩
  exact q v y G _ _ (Ext.refl G) (S.write (m' := .lst ws.dropLast) h ⟨xs.dropLast, upd_same, h2.dropLast⟩) rv p
theorem rm_popAt : RM K rPopAt mPopAt := fun F G H μ x vs u us P Q S rx rv ⟨a, ws, i, k, y, e1, e2, h, l1, l2, hk, z, p⟩ q => by
  subst e1 e2
  obtain ⟨v, rfl, q1⟩ := rus1 rv
  obtain ⟨xs, h1, h2⟩ := S.lst h
  obtain ⟨v2, hv, rv2⟩ := h2.getU z
  refine ⟨a, xs, i, k, v2, rx, by rw [rp_int q1], h1, l1, l2, by rw [h2.length]; exact hk, hv, ?_⟩
  exact q v2 y G _ _ (Ext.refl G) (S.write (m' := .lst (ws.eraseIdx k)) h ⟨xs.eraseIdx k, upd_same, h2.erase k⟩) rv2 p
theorem rm_reverse : RM K rReverse mReverse := fun F G H μ x vs u us P Q S rx rv ⟨a, ws, e1, e2, h, p⟩ q => by
  subst e1 e2
  cases rv
  obtain ⟨xs, h1, h2⟩ := S.lst h
  refine ⟨a, xs, rx, rfl, h1, ?_⟩
  exact q .non (.d .none) G _ _ (Ext.refl G) (S.write (m' := .lst ws.reverse) h ⟨xs.reverse, upd_same, h2.reverse⟩) Rp.non p
end

/-! ### slices -/
def cutL {α : Type} (xs : List α) (lo hi : Option Int) : List α := (xs.drop (HT.sIx xs.length 0 lo)).take (HT.sIx xs.length xs.length hi - HT.sIx xs.length 0 lo)
theorem rus_cut {K : Fg} {G : Hp} {vs : List V} {us : List U} (lo hi : Option Int) (r : Rus K G vs us) : Rus K G (cutV vs lo hi) (cutL us lo hi) := by
  unfold cutV cutL
  rw [r.length]
  exact (r.drop _).take _
theorem cut_map {α β : Type} (f : α → β) (xs : List α) (lo hi : Option Int) : cutL (xs.map f) lo hi = (cutL xs lo hi).map f := by
  unfold cutL
  rw [List.length_map, List.map_take, List.map_drop]
theorem cut_all {α : Type} (xs : List α) (lo hi : Option Int) (h : HT.sIx xs.length 0 lo = 0 ∧ HT.sIx xs.length xs.length hi = xs.length) : cutL xs lo hi = xs := by
  unfold cutL
  rw [h.1, h.2, List.drop_zero, Nat.sub_zero, List.take_length]
abbrev WO := Rho → Mu → (Option Int → Mu → Prop) → Prop
def RPt (K : Fg) (t : TO) (w : WO) : Prop := ∀ (F G H : Hp) (μ : Mu) (σ : L2.St) (ρ : Rho) (P : Option Int → Mu → Prop) (Q : Option Int → Hp → Prop), Sim K F G H μ σ ρ → w ρ μ P →
  (∀ i G' H' μ', Ext G G' → St3 K F G' H' μ' → P i μ' → Q i H') → t σ H Q
structure WPo (X : Cx) (e : Option Expr) (t : TO) (w : WO) : Prop where
  po : PO X e t
  rp : RPt X.K t w
def wNoPart : WO := fun _ μ P => P none μ
def wPart (w : WX) : WO := fun ρ μ P => w ρ μ fun u μ1 => ∃ i, u = .d (.int i) ∧ P (some i) μ1
def wSlL (w : WX) (l h : WO) : WX := fun ρ μ P => w ρ μ fun u μ1 => l ρ μ1 fun lo μ2 => h ρ μ2 fun hi μ3 => ∃ ds : List PyData, listU μ3 u = some (ds.map U.d) ∧ P (.d (.list (cutL ds lo hi))) μ3
def wSlT (w : WX) (l h : WO) : WX := fun ρ μ P => w ρ μ fun u μ1 => l ρ μ1 fun lo μ2 => h ρ μ2 fun hi μ3 => ∃ ds : List PyData, u = .d (.tuple ds) ∧ P (.d (.tuple (cutL ds lo hi))) μ3
section
variable {K : Fg} {X : Cx} {pos p2 : Pos} {e : Expr} {lo hi : Option Expr} {te : TE} {we : WX} {tl th : TO} {wl wh : WO}
theorem w_noPart : WPo X none tNoPart wNoPart := ⟨po_none, fun F G H μ σ ρ P Q S w q => q none G H μ (Ext.refl G) S.st w⟩
theorem w_part (h : WE X e te we) : WPo X (some e) (tPart te) (wPart we) := ⟨po_some h.pe, fun F G H μ σ ρ P Q S w q => h.re F G H μ σ ρ _ _ S w fun v u G1 H1 μ1 e1 S1 r1 ⟨i, e, p⟩ => by
  subst e
  exact ⟨i, rp_int r1, q _ G1 H1 μ1 e1 S1 p⟩⟩
theorem re_slL (h : RE K te we) (hl : RPt K tl wl) (hh : RPt K th wh) : RE K (tSl (rSlL K) te tl th) (wSlL we wl wh) := fun F G H μ σ ρ P Q S w q => h F G H μ σ ρ _ _ S w fun v u G1 H1 μ1 e1 S1 r1 p1 =>
  hl F G1 H1 μ1 σ ρ _ _ (S.mono e1 S1) p1 fun lo G2 H2 μ2 e2 S2 p2 => hh F G2 H2 μ2 σ ρ _ _ (S.mono (e1.trans e2) S2) p2 fun hi G3 H3 μ3 e3 S3 ⟨ds, hd, p3⟩ => by
    obtain ⟨a, vs, rfl, h1, h2⟩ := listU_ok S3 ((r1.mono e2).mono e3) hd
    refine ⟨a, vs, rfl, h1, fun l hl => ?_⟩
    obtain ⟨e4, S4⟩ := S3.newG (o := .lst (cutV vs lo hi)) hl
    have r4 := rus_cut lo hi h2
    rw [cut_map] at r4
    exact q (.ref l) (.d (.list (cutL ds lo hi))) _ _ μ3 (((e1.trans e2).trans e3).trans e4) S4 (Rp.lst (SqL.of upd_same) ((d_rus r4).mono e4)) p3
theorem re_slT (h : RE K te we) (hl : RPt K tl wl) (hh : RPt K th wh) : RE K (tSl (rSlA K) te tl th) (wSlT we wl wh) := fun F G H μ σ ρ P Q S w q => h F G H μ σ ρ _ _ S w fun v u G1 H1 μ1 e1 S1 r1 p1 =>
  hl F G1 H1 μ1 σ ρ _ _ (S.mono e1 S1) p1 fun lo G2 H2 μ2 e2 S2 p2 => hh F G2 H2 μ2 σ ρ _ _ (S.mono (e1.trans e2) S2) p2 fun hi G3 H3 μ3 e3 S3 ⟨ds, hd, p3⟩ => by
    subst hd
    have r3 : Ru K G3 v (.d (.tuple ds)) := (r1.mono e2).mono e3
    obtain ⟨a, vs, rfl, h1, h2⟩ := rp_tup r3
    have hl := h2.length
    refine ⟨a, vs, rfl, h1.sq S3.sub, fun hw => ?_, fun _ l hl => ?_⟩
    · rw [hl] at hw
      rw [cut_all ds lo hi hw] at p3
      exact q (.ref a) (.d (.tuple ds)) _ _ μ3 ((e1.trans e2).trans e3) S3 r3 p3
    · obtain ⟨e4, S4⟩ := S3.newG (o := .tup (cutV vs lo hi)) hl
      have r4 := rus_cut lo hi (rus_d h2)
      rw [cut_map] at r4
      exact q (.ref l) (.d (.tuple (cutL ds lo hi))) _ _ μ3 (((e1.trans e2).trans e3).trans e4) S4 (Rp.tup (.inl upd_same) ((d_rus r4).mono e4)) p3
theorem w_slL (h : WE X e te we) (hl : WPo X lo tl wl) (hh : WPo X hi th wh) : WE X (.Subscript e (.Slice lo hi none p2) pos) (tSl (rSlL X.K) te tl th) (wSlL we wl wh) := ⟨pe_slice sl_list h.pe hl.po hh.po, re_slL h.re hl.rp hh.rp⟩
theorem w_slT (h : WE X e te we) (hl : WPo X lo tl wl) (hh : WPo X hi th wh) : WE X (.Subscript e (.Slice lo hi none p2) pos) (tSl (rSlA X.K) te tl th) (wSlT we wl wh) := ⟨pe_slice sl_tupA h.pe hl.po hh.po, re_slT h.re hl.rp hh.rp⟩
end

/-! ### what a for walks -/
def JW (K : Fg) (G0 : Hp) (J : It) (us : List U) (Al : Mu → Prop) : Prop := ∀ (F G H : Hp) (μ : Mu), Ext G0 G → St3 K F G H μ → Al μ → ∀ i : Nat, (us.length ≤ i → J.stop i H) ∧
  ∀ u, us[i]? = some u → J.go i H ∧ ∀ x H', J.yld i H x H' → ∃ G', Ext G G' ∧ St3 K F G' H' μ ∧ Ru K G' x u
abbrev WIt := Rho → Mu → (List U → (Mu → Prop) → Mu → Prop) → Prop
def RI (K : Fg) (t : TI) (w : WIt) : Prop := ∀ (F G H : Hp) (μ : Mu) (σ : L2.St) (ρ : Rho) (P : List U → (Mu → Prop) → Mu → Prop) (R : It → Hp → Prop), Sim K F G H μ σ ρ → w ρ μ P →
  (∀ J us Al G' H' μ', Ext G G' → St3 K F G' H' μ' → JW K G' J us Al → P us Al μ' → R J H') → t σ H R
structure WI (X : Cx) (tg e : Expr) (t : TI) (w : WIt) : Prop where
  pi : PI X tg e t
  ri : RI X.K t w
/-- a list or a tuple -/
def iSeq (K : Fg) (tl : TE) : TI := fun σ H R => tl σ H fun x H1 => ∃ a, x = .ref a ∧ (((∃ xs, SqL K H1 a xs) ∧ R (Itl K a) H1) ∨ ((∃ xs, SqT K H1 a xs) ∧ R (Itt K a) H1))
theorem pi_seq {X : Cx} {tg l : Expr} {tl : TE} (hl : PE X l tl) : PI X tg l (iSeq X.K tl) := by
  refine ⟨fun pins s σ H R I h => ?_⟩
  refine thn (hl.run pins s σ H _ I h) fun v s1 ⟨x, H1, I1, r1, q1⟩ => ?_
  obtain ⟨a, e, q⟩ := q1
  subst e
  cases r1
  rcases q with ⟨⟨xs, hq⟩, q⟩ | ⟨⟨xs, hq⟩, q⟩
  · obtain ⟨its, rv, p, hz⟩ := I1.list hq
    refine wpAny_pyIter_list p.isList ?_
    refine ⟨s1.heap.objs.size, [s1.heap.objs.size], _, _, H1, rfl, I1.kept (t' := s1.toks) fun b o e => Heap.get?_push_of_some _ e, turn_list a _, ⟨_, Heap.get?_push_size _ rfl, rfl, rfl⟩, fun b hb => ?_, q⟩
    have e : b = s1.heap.objs.size := by simpa using hb
    subst e
    exact I1.fpOk (Nat.le_refl _) (I1.hok.fresh (Nat.le_refl _))
  · obtain ⟨its, rv, p, hz⟩ := I1.tuple hq
    refine wpAny_pyIter_tuple (show s1.heap.IsTuple a its.toArray from p) ?_
    refine ⟨s1.heap.objs.size, [s1.heap.objs.size], _, _, H1, rfl, I1.kept (t' := s1.toks) fun b o e => Heap.get?_push_of_some _ e, turn_tuple a _, ⟨_, Heap.get?_push_size _ rfl, rfl, rfl⟩, fun b hb => ?_, q⟩
    have e : b = s1.heap.objs.size := by simpa using hb
    subst e
    exact I1.fpOk (Nat.le_refl _) (I1.hok.fresh (Nat.le_refl _))
def jSeq (w : WX) : WIt := fun ρ μ P => w ρ μ fun u μ1 => ∃ us, itemsU μ1 u = some us ∧ P us (fun μ2 => itemsU μ2 u = some us) μ1
def jRng1 (w : WL) : WIt := fun ρ μ P => w ρ μ fun us μ1 => ∃ n : Int, us = [.d (.int n)] ∧ -(2 ^ 62) ≤ n ∧ n < 2 ^ 62 ∧ P ((List.range n.toNat).map fun i : Nat => U.d (.int (i : Int))) (fun _ => True) μ1
def jRng2 (w : WL) : WIt := fun ρ μ P => w ρ μ fun us μ1 => ∃ a b : Int, us = [.d (.int a), .d (.int b)] ∧ (-(2 ^ 62) ≤ a ∧ a < 2 ^ 62 ∧ -(2 ^ 62) ≤ b ∧ b < 2 ^ 62) ∧ P ((List.range (b - a).toNat).map fun i : Nat => U.d (.int (a + (i : Int)))) (fun _ => True) μ1
def jRev (w : WX) : WIt := fun ρ μ P => w ρ μ fun u μ1 => ∃ us, listU μ1 u = some us ∧ P us.reverse (fun μ2 => listU μ2 u = some us) μ1
section
variable {K : Fg} {X : Cx} {tg e : Expr} {te : TE} {we : WX} {ta : TA} {wa : WL} {p pos : Pos} {es : List Expr}
theorem ri_seq (h : RE K te we) : RI K (iSeq K te) (jSeq we) := fun F G H μ σ ρ P R S w q => h F G H μ σ ρ _ _ S w fun v u G1 H1 μ1 e1 S1 r1 ⟨us, hi, p⟩ => by
  by_cases hl : ∃ us, listU μ1 u = some us
  · obtain ⟨ws, hl⟩ := hl
    obtain ⟨a, vs, rfl, h1, h2⟩ := listU_ok S1 r1 hl
    refine ⟨a, rfl, .inl ⟨⟨vs, h1⟩, q _ us _ G1 H1 μ1 e1 S1 ?_ p⟩⟩
    have hne : ∀ l, u ≠ .d (.tuple l) := fun l e => by subst e; cases hl
    intro F2 G2 H2 μ2 e2 S2 al i
    have al : itemsU μ2 u = some us := al
    have al' : listU μ2 u = some us := by
      cases u with
      | d z =>
        cases z with
        | tuple l => exact absurd rfl (hne l)
        | list l => exact al
        | _ => cases al
      | r b => exact al
    obtain ⟨b, ws2, eb, k1, k2⟩ := listU_ok S2 (r1.mono e2) al'
    cases eb
    refine ⟨fun hle => ⟨ws2, k1, by rw [k2.length]; exact hle⟩, fun y hy => ?_⟩
    obtain ⟨x, hx, rx⟩ := k2.getU hy
    refine ⟨⟨ws2, x, k1, hx⟩, fun x' H' yl => ?_⟩
    obtain ⟨e, k⟩ := yl
    subst e
    have hx' := k ws2 (k1)
    rw [hx] at hx'
    cases hx'
    exact ⟨G2, Ext.refl _, S2, rx⟩
  · have ht : ∃ l, u = .d (.tuple l) := by
      cases u with
      | d z =>
        cases z with
        | tuple l => exact ⟨l, rfl⟩
        | list l => exact absurd ⟨_, rfl⟩ hl
        | _ => cases hi
      | r b => exact absurd ⟨_, hi⟩ hl
    obtain ⟨l, rfl⟩ := ht
    obtain ⟨a, vs, rfl, h1, h2⟩ := rp_tup r1
    have eus : us = l.map U.d := (Option.some.inj hi).symm
    subst eus
    refine ⟨a, rfl, .inr ⟨⟨vs, h1.sq S1.sub⟩, q _ _ _ G1 H1 μ1 e1 S1 ?_ p⟩⟩
    intro F2 G2 H2 μ2 e2 S2 al i
    have k1 : SqT K H2 a vs := (h1.mono e2).sq S2.sub
    have k2 : Rus K G2 vs (l.map U.d) := rus_d (h2.mono e2)
    refine ⟨fun hle => ⟨vs, k1, by rw [k2.length]; exact hle⟩, fun y hy => ?_⟩
    obtain ⟨x, hx, rx⟩ := k2.getU hy
    refine ⟨⟨vs, x, k1, hx⟩, fun x' H' yl => ?_⟩
    obtain ⟨e, k⟩ := yl
    subst e
    have hx' := k vs k1
    rw [hx] at hx'
    cases hx'
    exact ⟨G2, Ext.refl _, S2, rx⟩
theorem w_seq (h : WE X e te we) : WI X tg e (iSeq X.K te) (jSeq we) := ⟨pi_seq h.pe, ri_seq h.re⟩
theorem jw_rng {G0 : Hp} {lo : Int} {n : Nat} : JW K G0 (Itr lo n) ((List.range n).map fun i : Nat => U.d (.int (lo + (i : Int)))) (fun _ => True) := by
  intro F2 G2 H2 μ2 e2 S2 al i
  refine ⟨fun hle => ?_, fun y hy => ?_⟩
  · rw [List.length_map, List.length_range] at hle
    exact hle
  · have hi : i < n := by
      have := (List.getElem?_eq_some_iff.mp hy).1
      rw [List.length_map, List.length_range] at this
      exact this
    refine ⟨hi, fun x' H' yl => ?_⟩
    obtain ⟨e, k⟩ := yl
    subst e k
    rw [List.getElem?_map, List.getElem?_range hi] at hy
    cases hy
    exact ⟨G2, Ext.refl _, S2, Rp.int _⟩
theorem ri_rng1 (h : RA K ta wa) : RI K (iRng1 ta) (jRng1 wa) := fun F G H μ σ ρ P R S w q => h F G H μ σ ρ _ _ S w fun vs us G1 H1 μ1 e1 S1 r1 ⟨n, e, l1, l2, p⟩ => by
  subst e
  obtain ⟨v, rfl, q1⟩ := rus1 r1
  rw [rp_int q1]
  refine ⟨n, rfl, l1, l2, q _ _ _ G1 H1 μ1 e1 S1 ?_ p⟩
  have z := jw_rng (K := K) (G0 := G1) (lo := 0) (n := n.toNat)
  simp only [Int.zero_add] at z
  exact z
theorem ri_rng2 (h : RA K ta wa) : RI K (iRng2 ta) (jRng2 wa) := fun F G H μ σ ρ P R S w q => h F G H μ σ ρ _ _ S w fun vs us G1 H1 μ1 e1 S1 r1 ⟨a, b, e, l, p⟩ => by
  subst e
  obtain ⟨v, x, rfl, q1, q2⟩ := rus2 r1
  rw [rp_int q1, rp_int q2]
  exact ⟨a, b, rfl, l, q _ _ _ G1 H1 μ1 e1 S1 jw_rng p⟩
theorem w_rng1 (hg : Gl X "range") (hm : X.mg "range" = none) (ha : WAr X [e] ta wa) (hs : starEach [e] X.env = [(false, eval e X.env)] := by rfl) : WI X tg (.Call (.Name "range" p) [e] [] pos) (iRng1 ta) (jRng1 wa) := ⟨pi_range1 hg hm ha.pa hs, ri_rng1 ha.ra⟩
theorem w_rng2 {e2 : Expr} (hg : Gl X "range") (hm : X.mg "range" = none) (ha : WAr X [e, e2] ta wa) (hs : starEach [e, e2] X.env = [(false, eval e X.env), (false, eval e2 X.env)] := by rfl) (hs2 : starEach [e2] X.env = [(false, eval e2 X.env)] := by rfl) : WI X tg (.Call (.Name "range" p) [e, e2] [] pos) (iRng2 ta) (jRng2 wa) := ⟨pi_range2 hg hm ha.pa hs hs2, ri_rng2 ha.ra⟩
theorem ri_rev (h : RE K te we) : RI K (_root_.RT.iRevA K te) (jRev we) := fun F G H μ σ ρ P R S w q => h F G H μ σ ρ _ _ S w fun v u G1 H1 μ1 e1 S1 r1 ⟨us, hi, p⟩ => by
  obtain ⟨a, vs, rfl, h1, h2⟩ := listU_ok S1 r1 hi
  refine ⟨a, vs, rfl, .inl ⟨h1, q _ _ _ G1 H1 μ1 e1 S1 ?_ p⟩⟩
  intro F2 G2 H2 μ2 e2 S2 al i
  obtain ⟨b, ws2, eb, k1, k2⟩ := listU_ok S2 (r1.mono e2) al
  cases eb
  have hlen : ws2.length = vs.length := by rw [k2.length, h2.length]
  refine ⟨fun hle => ?_, fun y hy => ?_⟩
  · rw [List.length_reverse, ← k2.length, hlen] at hle
    exact hle
  · have hi : i < us.length := by
      have := (List.getElem?_eq_some_iff.mp hy).1
      rw [List.length_reverse] at this
      exact this
    rw [List.getElem?_reverse hi] at hy
    obtain ⟨x, hx, rx⟩ := k2.getU hy
    have hl2 : us.length = vs.length := h2.length.symm
    have hx2 : ws2[vs.length - 1 - i]? = some x := by rw [← hl2]; exact hx
    refine ⟨⟨by omega, ws2, x, k1, hx2⟩, fun x' H' yl => ?_⟩
    obtain ⟨e, k⟩ := yl
    subst e
    have hx' := k ws2 (k1)
    rw [hx2] at hx'
    cases hx'
    exact ⟨G2, Ext.refl _, S2, rx⟩
theorem w_rev (hg : Gl X "reversed") (hm : X.mg "reversed" = none) (h : WE X e te we) (hs : starEach [e] X.env = (false, eval e X.env) :: starEach [] X.env := by rfl) : WI X tg (.Call (.Name "reversed" p) [e] [] pos) (_root_.RT.iRevA X.K te) (jRev we) := ⟨_root_.RT.pi_revA hg hm h.pe hs, ri_rev h.re⟩
end

/-! ### targets -/
def gN (i : Nat) : WTg := fun u ρ μ P => P (ρ.set i (some u)) μ
def gT (l : List WTg) (u : U) (ρ : Rho) (μ : Mu) (P : Rho → Mu → Prop) : Prop := ∃ ds : List PyData, u = .d (.tuple ds) ∧ ds.length = l.length ∧ gGo l (ds.map U.d) ρ μ P
where gGo : List WTg → List U → Rho → Mu → (Rho → Mu → Prop) → Prop
  | [], _, ρ, μ, P => P ρ μ
  | g :: gs, us, ρ, μ, P => ∃ u r, us = u :: r ∧ g u ρ μ fun ρ1 μ1 => gGo gs r ρ1 μ1 P
def RGs (K : Fg) (t : TGs) (l : List WTg) : Prop := ∀ (F G H : Hp) (μ : Mu) (σ : L2.St) (ρ : Rho) (vs : List V) (us : List U) (P : Rho → Mu → Prop) (Q : L2.St → Hp → Prop), Sim K F G H μ σ ρ → Rus K G vs us → us.length = l.length → gT.gGo l us ρ μ P →
  (∀ σ' G' H' ρ' μ', Ext G G' → Sim K F G' H' μ' σ' ρ' → P ρ' μ' → Q σ' H') → t vs σ H Q
structure WGs (X : Cx) (es : List Expr) (t : TGs) (l : List WTg) : Prop where
  pg : PGs X es t
  rg : RGs X.K t l
section
variable {K : Fg} {X : Cx} {pos : Pos} {e : Expr} {es : List Expr} {t : TG} {ts : TGs} {g : WTg} {l : List WTg}
theorem rg_name {i : Nat} : RG K (gName i) (gN i) := fun F G H μ σ ρ v u P Q S r p q => q _ G H _ μ (Ext.refl G) (S.set r) p
theorem w_gn (i : Nat) {x : Str} (hN : X.N.Nodup) (hi : X.N[i]? = some x := by rfl) (hx : Loc X.env.scope x := by first | exact Or.inl rfl | exact Or.inr rfl) (hf : X.fn x = true ∨ X.env.scope.names.lookup x = some .local := by first | exact .inl rfl | exact .inr rfl) :
    WG X (.Name x pos) (gName i) (gN i) := ⟨pg_name hN hi hx hf, rg_name⟩
theorem w_gnil : WGs X [] gNil [] := ⟨pgs_nil, fun F G H μ σ ρ vs us P Q S r hl p q => by
  cases r with
  | nil => exact ⟨rfl, q σ G H ρ μ (Ext.refl G) S p⟩
  | cons _ _ => cases hl⟩
theorem w_gcons (h : WG X e t g) (k : WGs X es ts l) (hs : (assignEach (e :: es) X.env).map (·.2) = assign e X.env :: (assignEach es X.env).map (·.2) := by rfl) : WGs X (e :: es) (gCons t ts) (g :: l) :=
  ⟨pgs_cons h.pg k.pg hs, fun F G H μ σ ρ vs us P Q S r hl p q => by
    obtain ⟨u, w, e1, p⟩ := p
    subst e1
    cases r with
    | cons r1 r2 =>
      exact ⟨_, _, rfl, h.rg F G H μ σ ρ _ u _ _ S r1 p fun σ1 G1 H1 ρ1 μ1 e1 S1 p1 => k.rg F G1 H1 μ1 σ1 ρ1 _ _ P Q S1 (r2.mono e1) (Nat.succ.inj hl) p1 fun σ2 G2 H2 ρ2 μ2 e2 S2 p2 => q σ2 G2 H2 ρ2 μ2 (e1.trans e2) S2 p2⟩⟩
theorem w_gtup {k : Nat} (hc : X.calm = true) (h : WGs X es ts l) (hn : (assignEach es X.env).length = l.length := by rfl) (hst : (assignEach es X.env).findIdx? (·.1) = none := by rfl) : WG X (.Tuple es k pos) (gTup X.K l.length ts) (gT l) :=
  ⟨pg_tup hc h.pg hn hst, fun F G H μ σ ρ v u P Q S r ⟨ds, e, hl, p⟩ q => by
    subst e
    obtain ⟨a, vs, rfl, h1, h2⟩ := rp_tup r
    exact ⟨a, vs, rfl, h1.sq S.st.sub, by rw [h2.length]; exact hl, h.rg F G H μ σ ρ vs (ds.map U.d) P Q S (rus_d h2) (by rw [List.length_map]; exact hl) p q⟩⟩
/-- o[i] = e, o a list that may change -/
def gIx (wo wi : WX) : WTg := fun u ρ μ P => wo ρ μ fun o μ1 => wi ρ μ1 fun i μ2 => ∃ a us k j, o = .r a ∧ i = .d (.int k) ∧ μ2 a = some (.lst us) ∧ ixN us.length k = some j ∧ P ρ (put μ2 a (.lst (us.set j u)))
theorem w_gix {o i : Expr} {to ti : TE} {wo wi : WX} (ho : WE X o to wo) (hi : WE X i ti wi)
    (ha : ∀ v, assign (.Subscript o i pos) X.env v = (do
      let ov ← holding [v] (eval o X.env)
      let iv ← holding [v, ov] (eval i X.env)
      standAt pos
      holding [v, ov, iv] (setItem ov iv v)
      release [v, ov, iv] []) := by intro _; rfl) : WG X (.Subscript o i pos) (gSub to ti rSetL) (gIx wo wi) :=
  ⟨pg_sub ho.pe hi.pe set_list ha, fun F G H μ σ ρ v u P Q S r p q => ho.re F G H μ σ ρ _ _ S p fun ov ou G1 H1 μ1 e1 S1 r1 p1 => hi.re F G1 H1 μ1 σ ρ _ _ (S.mono e1 S1) p1 fun iv iu G2 H2 μ2 e2 S2 r2 ⟨a, us, k, j, eo, ei, hm, hj, p2⟩ => by
    subst eo ei
    obtain ⟨vs, h1, h2⟩ := S2.lst hm
    refine ⟨a, vs, k, j, r1, rp_int r2, h1, by rw [h2.length]; exact hj, ?_⟩
    have rv : Ru X.K G2 v u := (r.mono e1).mono e2
    have S3 := S2.write (m' := .lst (us.set j u)) hm ⟨vs.set j v, upd_same, h2.set rv j⟩
    exact q σ G2 _ ρ _ (e1.trans e2) ((S.mono (e1.trans e2) S2).mono (Ext.refl _) S3) p2⟩
end

/-! ### statements -/
def wNext : WSt := fun B ρ μ => B.nx ρ μ
def wBreak : WSt := fun B ρ μ => B.bk ρ μ
def wCont : WSt := fun B ρ μ => B.ct ρ μ
def wSeq (t u : WSt) : WSt := fun B ρ μ => t { B with nx := u B } ρ μ
def wDrop (w : WX) : WSt := fun B ρ μ => w ρ μ fun _ μ1 => B.nx ρ μ1
def wRet (w : WX) : WSt := fun B ρ μ => w ρ μ B.rt
def wRetN : WSt := fun B _ μ => B.rt (.d .none) μ
def wIfS (c : WB) (t u : WSt) : WSt := fun B ρ μ => c ρ μ fun b μ1 => if b = true then t B ρ μ1 else u B ρ μ1
def wAsg (w : WX) (g : WTg) : WSt := fun B ρ μ => w ρ μ fun u μ1 => g u ρ μ1 B.nx
def wAug (i : Nat) (f : Int → Int → Int) (w : WX) : WSt := fun B ρ μ => ∃ a, ρ[i]? = some (some (.d (.int a))) ∧ w ρ μ fun u μ1 => ∃ b, u = .d (.int b) ∧ B.nx (ρ.set i (some (.d (.int (f a b))))) μ1
def wWhile (c : WB) (t : WSt) : WSt := fun B ρ μ => ∃ W : Nat → Rho → Mu → Prop, (∃ m, W m ρ μ) ∧ ∀ m ρ μ, W m ρ μ → c ρ μ fun b μ1 =>
  if b = true then t { B with nx := fun ρ' μ' => ∃ m', m' < m ∧ W m' ρ' μ', ct := fun ρ' μ' => ∃ m', m' < m ∧ W m' ρ' μ', bk := B.nx } ρ μ1 else B.nx ρ μ1
def forGo (g : WTg) (t : WSt) (Al : Mu → Prop) : List U → End3 → Rho → Mu → Prop
  | [], B, ρ, μ => Al μ ∧ B.nx ρ μ
  | u :: us, B, ρ, μ => Al μ ∧ g u ρ μ fun ρ1 μ1 => t { B with nx := forGo g t Al us B, ct := forGo g t Al us B, bk := B.nx } ρ1 μ1
def wFor (i : WIt) (g : WTg) (t : WSt) : WSt := fun B ρ μ => i ρ μ fun us Al μ1 => forGo g t Al us B ρ μ1
section
variable {K : Fg} {X : Cx} {pos : Pos} {e : Expr} {te : TE} {we : WX} {st : Stmt} {rest a b : List Stmt} {t u : TS} {wt wu : WSt} {tc : TT} {wc : WB} {c : Expr}
theorem Link.with {F G : Hp} {D : Ends} {B : End3} {N : L2.St → Hp → Prop} {M : Rho → Mu → Prop} (L : Link K F G D B) (h : ∀ σ G' H ρ μ, Ext G G' → Sim K F G' H μ σ ρ → M ρ μ → N σ H) : Link K F G { D with nx := N } { B with nx := M } := ⟨h, L.rt, L.bk, L.ct⟩
theorem rs_next : RS K tNext wNext := fun F G H μ σ ρ D B S L w => L.nx σ G H ρ μ (Ext.refl G) S w
theorem rs_break : RS K tBreak wBreak := fun F G H μ σ ρ D B S L w => L.bk σ G H ρ μ (Ext.refl G) S w
theorem rs_cont : RS K tCont wCont := fun F G H μ σ ρ D B S L w => L.ct σ G H ρ μ (Ext.refl G) S w
theorem rs_seq (h : RS K t wt) (k : RS K u wu) : RS K (tSeq t u) (wSeq wt wu) := fun F G H μ σ ρ D B S L w =>
  h F G H μ σ ρ _ _ S (L.with fun σ1 G1 H1 ρ1 μ1 e1 S1 w1 => k F G1 H1 μ1 σ1 ρ1 D B S1 (L.mono e1) w1) w
theorem rs_drop (h : RE K te we) : RS K (tDrop te) (wDrop we) := fun F G H μ σ ρ D B S L w => h F G H μ σ ρ _ _ S w fun v u G1 H1 μ1 e1 S1 r1 p => L.nx σ G1 H1 ρ μ1 e1 (S.mono e1 S1) p
theorem rs_ret (h : RE K te we) : RS K (tRet te) (wRet we) := fun F G H μ σ ρ D B S L w => h F G H μ σ ρ _ _ S w fun v u G1 H1 μ1 e1 S1 r1 p => L.rt v u G1 H1 μ1 e1 S1 r1 p
theorem rs_retN : RS K tRetN wRetN := fun F G H μ σ ρ D B S L w => L.rt .non (.d .none) G H μ (Ext.refl G) S.st Rp.non w
theorem rs_if (h : RT K tc wc) (k : RS K t wt) (l : RS K u wu) : RS K (tIfS tc t u) (wIfS wc wt wu) := fun F G H μ σ ρ D B S L w => h F G H μ σ ρ _ _ S w fun c G1 H1 μ1 e1 S1 p => by
  cases c with
  | true => exact k F G1 H1 μ1 σ ρ D B (S.mono e1 S1) (L.mono e1) p
  | false => exact l F G1 H1 μ1 σ ρ D B (S.mono e1 S1) (L.mono e1) p
theorem rs_asg {g : TG} {wg : WTg} (h : RE K te we) (k : RG K g wg) : RS K (tAsg te g) (wAsg we wg) := fun F G H μ σ ρ D B S L w => h F G H μ σ ρ _ _ S w fun v u G1 H1 μ1 e1 S1 r1 p =>
  k F G1 H1 μ1 σ ρ v u _ _ (S.mono e1 S1) r1 p fun σ2 G2 H2 ρ2 μ2 e2 S2 p2 => L.nx σ2 G2 H2 ρ2 μ2 (e1.trans e2) S2 p2
theorem rs_aug {i : Nat} {f : Int → Int → Int} (h : RE K te we) : RS K (tAug i te (ipI f)) (wAug i f we) := fun F G H μ σ ρ D B S L ⟨a, ha, w⟩ => by
  obtain ⟨v, hv, rv⟩ := S.sl i _ ha
  refine ⟨v, hv, h F G H μ σ ρ _ _ S w fun y u G1 H1 μ1 e1 S1 r1 ⟨b, eb, p⟩ => ?_⟩
  subst eb
  exact ⟨a, b, rp_int rv, rp_int r1, L.nx _ G1 H1 _ μ1 e1 ((S.mono e1 S1).set (u := .d (.int (f a b))) (Rp.int _)) p⟩
theorem rs_while (h : RT K tc wc) (k : RS K t wt) : RS K (tWhile tc t) (wWhile wc wt) := fun F G H μ σ ρ D B S L ⟨W, ⟨m, w0⟩, turn⟩ =>
  ⟨fun m σ H => ∃ G1 ρ μ, Ext G G1 ∧ Sim K F G1 H μ σ ρ ∧ W m ρ μ, ⟨m, G, ρ, μ, Ext.refl G, S, w0⟩, fun m σ1 H1 ⟨G1, ρ1, μ1, e1, S1, w1⟩ => h F G1 H1 μ1 σ1 ρ1 _ _ S1 (turn m ρ1 μ1 w1) fun c G2 H2 μ2 e2 S2 p => by
    cases c with
    | true =>
      refine ⟨fun σ H => ∃ m', m' < m ∧ ∃ G1 ρ μ, Ext G G1 ∧ Sim K F G1 H μ σ ρ ∧ W m' ρ μ, fun σ' H' z => z, ?_⟩
      refine k F G2 H2 μ2 σ1 ρ1 _ { B with nx := fun ρ' μ' => ∃ m', m' < m ∧ W m' ρ' μ', ct := fun ρ' μ' => ∃ m', m' < m ∧ W m' ρ' μ', bk := B.nx } (S1.mono e2 S2) ⟨?_, ?_, ?_, ?_⟩ p
      · rintro σ3 G3 H3 ρ3 μ3 e3 S3 ⟨m', hm, w3⟩
        exact ⟨m', hm, G3, ρ3, μ3, (e1.trans e2).trans e3, S3, w3⟩
      · exact fun v u G3 H3 μ3 e3 => L.rt v u G3 H3 μ3 ((e1.trans e2).trans e3)
      · exact fun σ3 G3 H3 ρ3 μ3 e3 => L.nx σ3 G3 H3 ρ3 μ3 ((e1.trans e2).trans e3)
      · rintro σ3 G3 H3 ρ3 μ3 e3 S3 ⟨m', hm, w3⟩
        exact ⟨m', hm, G3, ρ3, μ3, (e1.trans e2).trans e3, S3, w3⟩
    | false => exact L.nx σ1 G2 H2 ρ1 μ2 (e1.trans e2) (S1.mono e2 S2) p⟩
theorem rs_for {wi : TI} {wj : WIt} {g : TG} {wg : WTg} (h : RI K wi wj) (hg : RG K g wg) (k : RS K t wt) : RS K (tFor wi g t) (wFor wj wg wt) := fun F G H μ σ ρ D B S L w => h F G H μ σ ρ _ _ S w fun J us Al G0 H0 μ0 e0 S0 jw p => by
  refine ⟨fun i m σ H => m = us.length - i ∧ i ≤ us.length ∧ ∃ G1 ρ μ, Ext G0 G1 ∧ Sim K F G1 H μ σ ρ ∧ forGo wg wt Al (us.drop i) B ρ μ, ⟨us.length, by simp, Nat.zero_le _, G0, ρ, μ0, Ext.refl _, S.mono e0 S0, p⟩, ?_⟩
  rintro i m σ1 H1 ⟨rfl, hi, G1, ρ1, μ1, e1, S1, w1⟩
  by_cases hlt : i < us.length
  · have hd : us.drop i = us[i] :: us.drop (i + 1) := List.drop_eq_getElem_cons hlt
    rw [hd] at w1
    obtain ⟨al, w1⟩ := w1
    obtain ⟨_, hu⟩ := jw F G1 H1 μ1 e1 S1.st al i
    obtain ⟨hgo, hy⟩ := hu us[i] (List.getElem?_eq_getElem hlt)
    refine .inr ⟨hgo, fun σ H => ∃ G1 ρ μ, Ext G0 G1 ∧ Sim K F G1 H μ σ ρ ∧ forGo wg wt Al (us.drop (i + 1)) B ρ μ, fun σ' H' z => ⟨us.length - (i + 1), by omega, rfl, hlt, z⟩, fun x H2 yl => ?_⟩
    obtain ⟨G2, e2, S2, r2⟩ := hy x H2 yl
    refine hg F G2 H2 μ1 σ1 ρ1 x us[i] _ _ (S1.mono e2 S2) r2 w1 fun σ3 G3 H3 ρ3 μ3 e3 S3 w3 => ?_
    have e03 : Ext G0 G3 := (e1.trans e2).trans e3
    refine k F G3 H3 μ3 σ3 ρ3 _ { B with nx := forGo wg wt Al (us.drop (i + 1)) B, ct := forGo wg wt Al (us.drop (i + 1)) B, bk := B.nx } S3 ⟨?_, ?_, ?_, ?_⟩ w3
    · exact fun σ4 G4 H4 ρ4 μ4 e4 S4 w4 => ⟨G4, ρ4, μ4, e03.trans e4, S4, w4⟩
    · exact fun v u G4 H4 μ4 e4 => L.rt v u G4 H4 μ4 ((e0.trans e03).trans e4)
    · exact fun σ4 G4 H4 ρ4 μ4 e4 => L.nx σ4 G4 H4 ρ4 μ4 ((e0.trans e03).trans e4)
    · exact fun σ4 G4 H4 ρ4 μ4 e4 S4 w4 => ⟨G4, ρ4, μ4, e03.trans e4, S4, w4⟩
  · have hd : us.drop i = [] := List.drop_eq_nil_of_le (by omega)
    rw [hd] at w1
    obtain ⟨al, w1⟩ := w1
    obtain ⟨hs, _⟩ := jw F G1 H1 μ1 e1 S1.st al i
    exact .inl ⟨hs (by omega), L.nx σ1 G1 H1 ρ1 μ1 (e0.trans e1) S1 w1⟩
theorem w_snil : WSs X [] tNext wNext := ⟨pss_nil, rs_next⟩
theorem w_scons (h : WS X st t wt) (k : WSs X rest u wu) : WSs X (st :: rest) (tSeq t u) (wSeq wt wu) := ⟨pss_cons h.ps k.ps, rs_seq h.rs k.rs⟩
theorem w_sone (h : WS X st t wt) : WSs X [st] t wt := ⟨pss_one h.ps, h.rs⟩
theorem w_pass : WS X (.Pass pos) tNext wNext := ⟨ps_pass, rs_next⟩
theorem w_break : WS X (.Break pos) tBreak wBreak := ⟨ps_break, rs_break⟩
theorem w_continue : WS X (.Continue pos) tCont wCont := ⟨ps_continue, rs_cont⟩
theorem w_expr (h : WE X e te we) (hs : swapsWith e none pos.line X.env = pure false := by rfl) : WS X (.Expr e pos) (tDrop te) (wDrop we) := ⟨ps_expr h.pe hs, rs_drop h.re⟩
theorem w_ret (h : WE X e te we) : WS X (.Return (some e) pos) (tRet te) (wRet we) := ⟨ps_ret h.pe, rs_ret h.re⟩
theorem w_retN : WS X (.Return none pos) tRetN wRetN := ⟨ps_retN, rs_retN⟩
theorem w_ifS (h : WT X c tc wc) (k : WSs X a t wt) (l : WSs X b u wu) : WS X (.If c a b pos) (tIfS tc t u) (wIfS wc wt wu) := ⟨ps_if h.pt k.ps l.ps, rs_if h.rt k.rs l.rs⟩
theorem w_set (i : Nat) {x : Str} {pos' : Pos} (hN : X.N.Nodup) (h : WE X e te we) (hi : X.N[i]? = some x := by rfl) (hx : Loc X.env.scope x := by first | exact Or.inl rfl | exact Or.inr rfl) (hs : swapsWith e (some (.Name x pos')) pos.line X.env = pure false := by rfl)
    (hf : X.fn x = true ∨ X.env.scope.names.lookup x = some .local := by first | exact .inl rfl | exact .inr rfl) : WS X (.Assign [.Name x pos'] e pos) (tAsg te (gName i)) (wAsg we (gN i)) := ⟨ps_set hN hi hx h.pe hs hf, rs_asg h.re rg_name⟩
theorem w_asg {tg : Expr} {g : TG} {wg : WTg} (h : WE X e te we) (k : WG X tg g wg) (hs : swapsWithSole [tg] e pos.line X.env = pure false := by rfl) (hw : swappedStores [tg] e X.env = pure none := by rfl)
    (h1 : (assignEach [tg] X.env).map (·.2) = [assign tg X.env] := by rfl) : WS X (.Assign [tg] e pos) (tAsg te g) (wAsg we wg) := ⟨ps_asg h.pe k.pg hs hw h1, rs_asg h.re k.rg⟩
theorem w_aug (i : Nat) {x : Str} {op : Operator} {f : Int → Int → Int} {pos' : Pos} (hN : X.N.Nodup) (h : WE X e te we) (ho : PIp X op (ipI f)) (hi : X.N[i]? = some x := by rfl) (hx : Loc X.env.scope x := by first | exact Or.inl rfl | exact Or.inr rfl)
    (hf : X.fn x = true ∨ X.env.scope.names.lookup x = some .local := by first | exact .inl rfl | exact .inr rfl) : WS X (.AugAssign (.Name x pos') op e pos) (tAug i te (ipI f)) (wAug i f we) := ⟨ps_aug hN hi hx h.pe ho hf, rs_aug h.re⟩
theorem w_while (hp : PassesOwn (model X.prog X.w) X.A X.env X.xe) (h : WT X c tc wc) (k : WSs X a t wt) : WS X (.While c a [] pos) (tWhile tc t) (wWhile wc wt) := ⟨ps_while hp h.pt k.ps, rs_while h.rt k.rs⟩
theorem w_for {tg iter : Expr} {wi : TI} {wj : WIt} {g : TG} {wg : WTg} (hp : PassesOwn (model X.prog X.w) X.A X.env X.xe) (hc : X.calm = true) (hi : WI X tg iter wi wj) (hg : WG X tg g wg) (k : WSs X a t wt) (hs : ∀ x, foldedSetIterable iter X.env x = pure x := by intro _; rfl) :
    WS X (.For tg iter a [] pos) (tFor wi g t) (wFor wj wg wt) := ⟨ps_for hp hc hi.pi hg.pg k.ps hs, rs_for hi.ri hg.rg k.rs⟩
end
end L3

namespace L3
open PySem PySem.Spec PyProof.Rows L2

/-! ### comprehensions -/
theorem wipe_get (σ : L2.St) : ∀ (vs : List Nat) (i : Nat), (wipe σ vs)[i]? = if i ∈ vs then σ[i]?.map (fun _ => none) else σ[i]?
  | [], i => by simp [wipe]
  | v :: vs, i => by
    show ((wipe σ vs).set v none)[i]? = _
    by_cases h : v = i
    · subst h
      rw [if_pos List.mem_cons_self]
      by_cases hl : v < σ.length
      · rw [List.getElem?_set_self (by rw [wipe_length]; exact hl), List.getElem?_eq_getElem hl]; rfl
      · rw [List.getElem?_eq_none (by rw [List.length_set, wipe_length]; omega), List.getElem?_eq_none (by omega)]; rfl
    · rw [List.getElem?_set_ne h, wipe_get σ vs i]
      have e : (i ∈ v :: vs) ↔ i ∈ vs := ⟨fun z => (List.mem_cons.mp z).resolve_left fun q => h q.symm, List.mem_cons_of_mem _⟩
      simp only [e]
theorem wipe_ext {σ τ : L2.St} {vs : List Nat} (hl : σ.length = τ.length) (h : ∀ i, i ∉ vs → σ[i]? = τ[i]?) : wipe σ vs = wipe τ vs := by
  apply List.ext_getElem?
  intro i
  rw [wipe_get, wipe_get]
  by_cases hi : i ∈ vs
  · rw [if_pos hi, if_pos hi]
    by_cases hb : i < σ.length
    · rw [List.getElem?_eq_getElem hb, List.getElem?_eq_getElem (by omega : i < τ.length)]; rfl
    · rw [List.getElem?_eq_none (by omega), List.getElem?_eq_none (by omega)]
  · rw [if_neg hi, if_neg hi, h i hi]
theorem wipe_wipe (σ : L2.St) (vs : List Nat) : wipe (wipe σ vs) vs = wipe σ vs := wipe_ext (wipe_length _ _) fun i hi => by rw [wipe_get, if_neg hi]
def wipeR (ρ : Rho) : List Nat → Rho
  | [] => ρ
  | v :: vs => (wipeR ρ vs).set v none
theorem Sim.unset {K : Fg} {F G H : Hp} {μ : Mu} {σ : L2.St} {ρ : Rho} (S : Sim K F G H μ σ ρ) (i : Nat) : Sim K F G H μ (σ.set i none) (ρ.set i none) := by
  refine ⟨S.st, by rw [List.length_set, List.length_set]; exact S.len, fun j u h => ?_⟩
  by_cases q : i = j
  · subst q
    have hl : i < (ρ.set i none).length := (List.getElem?_eq_some_iff.mp h).1
    rw [List.length_set] at hl
    rw [List.getElem?_set_self hl] at h
    cases h
  · rw [List.getElem?_set_ne q] at h ⊢
    exact S.sl j u h
theorem Sim.wipe {K : Fg} {F G H : Hp} {μ : Mu} {σ : L2.St} {ρ : Rho} (S : Sim K F G H μ σ ρ) : ∀ vs : List Nat, Sim K F G H μ (L2.wipe σ vs) (wipeR ρ vs)
  | [] => S
  | v :: vs => (Sim.wipe S vs).unset v
def GOnly (g : TG) (vs : List Nat) : Prop := ∀ v σ H (Q : L2.St → Hp → Prop), g v σ H Q → g v σ H fun σ2 H2 => wipe σ2 vs = wipe σ vs ∧ Q σ2 H2
theorem go_name {i : Nat} {vs : List Nat} (h : i ∈ vs) : GOnly (gName i) vs := fun v σ H Q q => ⟨wipe_ext (List.length_set ..) fun j hj => by
  rw [List.getElem?_set_ne]
  intro e
  subst e
  exact hj h, q⟩
def GsOnly (g : TGs) (vs : List Nat) : Prop := ∀ xs σ H (Q : L2.St → Hp → Prop), g xs σ H Q → g xs σ H fun σ2 H2 => wipe σ2 vs = wipe σ vs ∧ Q σ2 H2
theorem gso_nil {vs : List Nat} : GsOnly gNil vs := fun xs σ H Q ⟨e, q⟩ => ⟨e, rfl, q⟩
def lcGo (g : WTg) (wt : WB) (we : WX) (Al : Mu → Prop) : List U → List U → Rho → Mu → (List U → Mu → Prop) → Prop
  | [], acc, _, μ, P => Al μ ∧ P acc μ
  | u :: us, acc, ρ, μ, P => Al μ ∧ g u ρ μ fun ρ1 μ1 => wt ρ1 μ1 fun b μ2 => if b = true then we ρ1 μ2 fun y μ3 => acc.length < sizeLine ∧ lcGo g wt we Al us (acc ++ [y]) ρ μ3 P else lcGo g wt we Al us acc ρ μ2 P
def wLc (it : WIt) (vs : List Nat) (g : WTg) (wt : WB) (we : WX) : WX := fun ρ μ P => it ρ μ fun us Al μ1 => lcGo g wt we Al us [] (wipeR ρ vs) μ1 fun ys μ2 => ∃ ds : List PyData, ys = ds.map U.d ∧ P (.d (.list ds)) μ2
def wLcM (it : WIt) (vs : List Nat) (g : WTg) (wt : WB) (we : WX) : WX := fun ρ μ P => it ρ μ fun us Al μ1 => lcGo g wt we Al us [] (wipeR ρ vs) μ1 fun ys μ2 => ∀ p, μ2 p = none → P (.r p) (put μ2 p (.lst ys))
def wYes : WB := fun _ μ P => P true μ
structure WTs (X : Cx) (ifs : List Expr) (t : TT) (w : WB) : Prop where
  pt : PTs X ifs t
  rt : RT X.K t w
theorem w_tsnil {X : Cx} : WTs X [] tYes wYes := ⟨pts_nil, fun F G H μ σ ρ P Q S w q => q true G H μ (Ext.refl G) S.st w⟩
theorem w_tsone {X : Cx} {c : Expr} {t : TT} {w : WB} (h : WT X c t w) : WTs X [c] t w := ⟨pts_one h.pt, h.rt⟩
section
variable {K : Fg} {wi : TI} {wj : WIt} {g : TG} {wg : WTg} {tt : TT} {wt : WB} {te : TE} {we : WX} {vs : List Nat}
theorem lc_run (hi : RI K wi wj) (hg : RG K g wg) (go : GOnly g vs) (ht : RT K tt wt) (he : RE K te we) {F G H : Hp} {μ : Mu} {σ : L2.St} {ρ : Rho} {P : List U → Mu → Prop} {Q : VK} (S : Sim K F G H μ σ ρ) (w : wj ρ μ fun us Al μ1 => lcGo wg wt we Al us [] (wipeR ρ vs) μ1 P)
    (q : ∀ (D : Addr) (acc : List V) (ys : List U) (G' H' : Hp) (μ' : Mu), Ext G G' → F D = none → St3 K (upd F D (.lst acc)) G' H' μ' → Rus K G' acc ys → P ys μ' → Q (.ref D) H') : tLc wi g tt te vs σ H Q := by
  refine hi F G H μ σ ρ _ _ S w fun J us Al G0 H0 μ0 e0 S0 jw p D hD => ?_
  have hFD := S0.fnone hD
  refine ⟨fun i m H => m = us.length - i ∧ i ≤ us.length ∧ ∃ G1 μ acc ys, Ext G0 G1 ∧ St3 K (upd F D (.lst acc)) G1 H μ ∧ Rus K G1 acc ys ∧ lcGo wg wt we Al (us.drop i) ys (wipeR ρ vs) μ P, ⟨us.length, by simp, Nat.zero_le _, G0, μ0, [], [], Ext.refl _, S0.newF hD, .nil, p⟩, ?_⟩
  rintro i m H1 ⟨rfl, hi, G1, μ1, acc, ys, e1, S1, r1, w1⟩
  by_cases hlt : i < us.length
  · have hd : us.drop i = us[i] :: us.drop (i + 1) := List.drop_eq_getElem_cons hlt
    rw [hd] at w1
    obtain ⟨al, w1⟩ := w1
    obtain ⟨_, hu⟩ := jw _ G1 H1 μ1 e1 S1 al i
    obtain ⟨hgo, hy⟩ := hu us[i] (List.getElem?_eq_getElem hlt)
    refine .inr ⟨hgo, fun H => ∃ G1 μ acc ys, Ext G0 G1 ∧ St3 K (upd F D (.lst acc)) G1 H μ ∧ Rus K G1 acc ys ∧ lcGo wg wt we Al (us.drop (i + 1)) ys (wipeR ρ vs) μ P, fun H' z => ⟨us.length - (i + 1), by omega, rfl, hlt, z⟩, fun x H2 yl => ?_⟩
    obtain ⟨G2, e2, S2, r2⟩ := hy x H2 yl
    have Sw : Sim K (upd F D (.lst acc)) G2 H2 μ1 (wipe σ vs) (wipeR ρ vs) := ⟨S2, (S.wipe vs).len, fun j u h => by
      obtain ⟨v, h1, h2⟩ := (S.wipe vs).sl j u h
      exact ⟨v, h1, h2.mono ((e0.trans e1).trans e2)⟩⟩
    have key := go x (wipe σ vs) H2 _ (hg _ G2 H2 μ1 (wipe σ vs) (wipeR ρ vs) x us[i] _ (fun σ3 H3 => tt σ3 H3 fun b H3 =>
      if b = true then te σ3 H3 fun y H4 => ∃ acc, H4 D = some (.lst acc) ∧ acc.length < sizeLine ∧ (∃ G1 μ acc' ys, Ext G0 G1 ∧ St3 K (upd F D (.lst acc')) G1 (upd H4 D (.lst (acc ++ [y]))) μ ∧ Rus K G1 acc' ys ∧ lcGo wg wt we Al (us.drop (i + 1)) ys (wipeR ρ vs) μ P)
      else (∃ G1 μ acc ys, Ext G0 G1 ∧ St3 K (upd F D (.lst acc)) G1 H3 μ ∧ Rus K G1 acc ys ∧ lcGo wg wt we Al (us.drop (i + 1)) ys (wipeR ρ vs) μ P)) Sw r2 w1 fun σ3 G3 H3 ρ3 μ3 e3 S3 w3 => ?_)
    · rw [wipe_wipe] at key
      exact key
    · refine ht _ G3 H3 μ3 σ3 ρ3 _ _ S3 w3 fun b G4 H4 μ4 e4 S4 w4 => ?_
      cases b with
      | true =>
        show te σ3 H4 _
        refine he _ G4 H4 μ4 σ3 ρ3 _ _ (S3.mono e4 S4) w4 fun y u G5 H5 μ5 e5 S5 r5 ⟨hz, w5⟩ => ?_
        obtain ⟨hD5, _, _⟩ := S5.fr D _ upd_same
        have e15 : Ext G1 G5 := ((e2.trans e3).trans e4).trans e5
        exact ⟨acc, hD5, by rw [r1.length]; exact hz, G5, μ5, acc ++ [y], ys ++ [u], e1.trans e15, S5.setF, (r1.mono e15).append (.cons r5 .nil), w5⟩
      | false => exact ⟨G4, μ4, acc, ys, ((e1.trans e2).trans e3).trans e4, S4, r1.mono ((e2.trans e3).trans e4), w4⟩
  · have hd : us.drop i = [] := List.drop_eq_nil_of_le (by omega)
    rw [hd] at w1
    obtain ⟨al, w1⟩ := w1
    obtain ⟨hs, _⟩ := jw _ G1 H1 μ1 e1 S1 al i
    exact .inl ⟨hs (by omega), q D acc ys G1 H1 μ1 (e0.trans e1) hFD S1 r1 w1⟩
theorem re_lc (hi : RI K wi wj) (hg : RG K g wg) (go : GOnly g vs) (ht : RT K tt wt) (he : RE K te we) : RE K (tLc wi g tt te vs) (wLc wj vs wg wt we) := fun F G H μ σ ρ P Q S w q =>
  lc_run hi hg go ht he S w fun D acc ys G1 H1 μ1 e1 hD S1 r1 ⟨ds, e, p⟩ => by
    subst e
    obtain ⟨e2, S2⟩ := S1.unF hD
    exact q (.ref D) (.d (.list ds)) _ _ μ1 (e1.trans e2) S2 (Rp.lst (SqL.of upd_same) ((d_rus r1).mono e2)) p
theorem re_lcM (hi : RI K wi wj) (hg : RG K g wg) (go : GOnly g vs) (ht : RT K tt wt) (he : RE K te we) : RE K (tLc wi g tt te vs) (wLcM wj vs wg wt we) := fun F G H μ σ ρ P Q S w q =>
  lc_run hi hg go ht he S w fun D acc ys G1 H1 μ1 e1 hD S1 r1 p => by
    obtain ⟨h1, h2, h3⟩ := S1.fr D _ upd_same
    exact q (.ref D) (.r D) G1 H1 _ e1 (S1.unFM (m := .lst ys) hD ⟨acc, h1, r1⟩) rfl (p D h3)
end
section
variable {X : Cx} {elt tg iter : Expr} {ifs : List Expr} {scope : Scope} {own : List (Str × Nat)} {pos : Pos} {wi : TI} {wj : WIt} {g : TG} {wg : WTg} {tt : TT} {wt : WB} {te : TE} {we : WX}
theorem w_lc (hc : X.calm = true) (hN : X.N.Nodup) (hi : WI X tg iter wi wj) (ok : BlkOk X.N X.env.scope scope own) (go : GOnly g (own.map (·.2)))
    (hg : ∀ (s : Shared) (H : Hp) (C : Addr) (cl : List (Str × Addr)) (fp : List Addr), WG (X.blk s H scope (compEnvC scope cl C X.env) fp) tg g wg) (ht : ∀ (s : Shared) (H : Hp) (C : Addr) (cl : List (Str × Addr)) (fp : List Addr), WTs (X.blk s H scope (compEnvC scope cl C X.env) fp) ifs tt wt)
    (he : ∀ (s : Shared) (H : Hp) (C : Addr) (cl : List (Str × Addr)) (fp : List Addr), WE (X.blk s H scope (compEnvC scope cl C X.env) fp) elt te we) (hs : ∀ x, foldedSetIterable iter X.env x = pure x := by intro _; rfl) :
    WE X (.ListComp elt [⟨tg, iter, ifs, 0⟩] scope pos) (tLc wi g tt te (own.map (·.2))) (wLc wj (own.map (·.2)) wg wt we) :=
  ⟨pe_lc hc hN hi.pi ok (fun s H C cl fp => (hg s H C cl fp).pg) (fun s H C cl fp => (ht s H C cl fp).pt) (fun s H C cl fp => (he s H C cl fp).pe) hs, re_lc hi.ri (hg X.s_0 X.H_0 0 [] []).rg go (ht X.s_0 X.H_0 0 [] []).rt (he X.s_0 X.H_0 0 [] []).re⟩
theorem w_lcM (hc : X.calm = true) (hN : X.N.Nodup) (hi : WI X tg iter wi wj) (ok : BlkOk X.N X.env.scope scope own) (go : GOnly g (own.map (·.2)))
    (hg : ∀ (s : Shared) (H : Hp) (C : Addr) (cl : List (Str × Addr)) (fp : List Addr), WG (X.blk s H scope (compEnvC scope cl C X.env) fp) tg g wg) (ht : ∀ (s : Shared) (H : Hp) (C : Addr) (cl : List (Str × Addr)) (fp : List Addr), WTs (X.blk s H scope (compEnvC scope cl C X.env) fp) ifs tt wt)
    (he : ∀ (s : Shared) (H : Hp) (C : Addr) (cl : List (Str × Addr)) (fp : List Addr), WE (X.blk s H scope (compEnvC scope cl C X.env) fp) elt te we) (hs : ∀ x, foldedSetIterable iter X.env x = pure x := by intro _; rfl) :
    WE X (.ListComp elt [⟨tg, iter, ifs, 0⟩] scope pos) (tLc wi g tt te (own.map (·.2))) (wLcM wj (own.map (·.2)) wg wt we) :=
  ⟨pe_lc hc hN hi.pi ok (fun s H C cl fp => (hg s H C cl fp).pg) (fun s H C cl fp => (ht s H C cl fp).pt) (fun s H C cl fp => (he s H C cl fp).pe) hs, re_lcM hi.ri (hg X.s_0 X.H_0 0 [] []).rg go (ht X.s_0 X.H_0 0 [] []).rt (he X.s_0 X.H_0 0 [] []).re⟩
/-- name = [..] on one line -/
theorem w_setLc (i : Nat) {y : Str} {py spos : Pos} (hc : X.calm = true) (hN : X.N.Nodup) (hsw : swapsWith (.ListComp elt [⟨tg, iter, ifs, 0⟩] scope pos) (some (.Name y py)) spos.line X.env = pure true) (hi : WI X tg iter wi wj) (ok : BlkOk X.N X.env.scope scope own) (go : GOnly g (own.map (·.2)))
    (hg : ∀ (s : Shared) (H : Hp) (C : Addr) (cl : List (Str × Addr)) (fp : List Addr), WG (X.blk s H scope (compEnvC scope cl C X.env) fp) tg g wg) (ht : ∀ (s : Shared) (H : Hp) (C : Addr) (cl : List (Str × Addr)) (fp : List Addr), WTs (X.blk s H scope (compEnvC scope cl C X.env) fp) ifs tt wt)
    (he : ∀ (s : Shared) (H : Hp) (C : Addr) (cl : List (Str × Addr)) (fp : List Addr), WE (X.blk s H scope (compEnvC scope cl C X.env) fp) elt te we) (hy : X.N[i]? = some y := by rfl) (hyl : X.env.scope.names.lookup y = some .local := by rfl) (hs : ∀ x, foldedSetIterable iter X.env x = pure x := by intro _; rfl) :
    WS X (.Assign [.Name y py] (.ListComp elt [⟨tg, iter, ifs, 0⟩] scope pos) spos) (tAsg (tLc wi g tt te (own.map (·.2))) (gName i)) (wAsg (wLc wj (own.map (·.2)) wg wt we) (gN i)) :=
  ⟨ps_setLc hc hN hy hyl hsw hi.pi ok (fun s H C cl fp => (hg s H C cl fp).pg) (fun s H C cl fp => (ht s H C cl fp).pt) (fun s H C cl fp => (he s H C cl fp).pe) hs, rs_asg (re_lc hi.ri (hg X.s_0 X.H_0 0 [] []).rg go (ht X.s_0 X.H_0 0 [] []).rt (he X.s_0 X.H_0 0 [] []).re) rg_name⟩
theorem w_setLcM (i : Nat) {y : Str} {py spos : Pos} (hc : X.calm = true) (hN : X.N.Nodup) (hsw : swapsWith (.ListComp elt [⟨tg, iter, ifs, 0⟩] scope pos) (some (.Name y py)) spos.line X.env = pure true) (hi : WI X tg iter wi wj) (ok : BlkOk X.N X.env.scope scope own) (go : GOnly g (own.map (·.2)))
    (hg : ∀ (s : Shared) (H : Hp) (C : Addr) (cl : List (Str × Addr)) (fp : List Addr), WG (X.blk s H scope (compEnvC scope cl C X.env) fp) tg g wg) (ht : ∀ (s : Shared) (H : Hp) (C : Addr) (cl : List (Str × Addr)) (fp : List Addr), WTs (X.blk s H scope (compEnvC scope cl C X.env) fp) ifs tt wt)
    (he : ∀ (s : Shared) (H : Hp) (C : Addr) (cl : List (Str × Addr)) (fp : List Addr), WE (X.blk s H scope (compEnvC scope cl C X.env) fp) elt te we) (hy : X.N[i]? = some y := by rfl) (hyl : X.env.scope.names.lookup y = some .local := by rfl) (hs : ∀ x, foldedSetIterable iter X.env x = pure x := by intro _; rfl) :
    WS X (.Assign [.Name y py] (.ListComp elt [⟨tg, iter, ifs, 0⟩] scope pos) spos) (tAsg (tLc wi g tt te (own.map (·.2))) (gName i)) (wAsg (wLcM wj (own.map (·.2)) wg wt we) (gN i)) :=
  ⟨ps_setLc hc hN hy hyl hsw hi.pi ok (fun s H C cl fp => (hg s H C cl fp).pg) (fun s H C cl fp => (ht s H C cl fp).pt) (fun s H C cl fp => (he s H C cl fp).pe) hs, rs_asg (re_lcM hi.ri (hg X.s_0 X.H_0 0 [] []).rg go (ht X.s_0 X.H_0 0 [] []).rt (he X.s_0 X.H_0 0 [] []).re) rg_name⟩
end

/-! ### changes of words alone -/
/-- the things at a frozen, dropped, or told otherwise -/
def frzR (a : Addr) (ds : List PyData) (ρ : Rho) : Rho := ρ.map fun o => match o with
  | some (.r b) => if b = a then some (.d (.list ds)) else some (.r b)
  | o => o
theorem Sim.freeze {K : Fg} {F G H : Hp} {μ : Mu} {σ : L2.St} {ρ : Rho} {a : Addr} {ds : List PyData} (S : Sim K F G H μ σ ρ) (h : μ a = some (.lst (ds.map U.d))) : ∃ G', Ext G G' ∧ Sim K F G' H (del μ a) σ (frzR a ds ρ) := by
  obtain ⟨vs, e, S', r⟩ := S.st.freeze h
  refine ⟨_, e, S', by unfold frzR; rw [List.length_map]; exact S.len, fun i u hu => ?_⟩
  unfold frzR at hu
  rw [List.getElem?_map] at hu
  cases q : ρ[i]? with
  | none => rw [q] at hu; cases hu
  | some o =>
    rw [q] at hu
    cases o with
    | none => cases hu
    | some w =>
      obtain ⟨v, h1, h2⟩ := S.sl i w q
      cases w with
      | d x =>
        cases hu
        exact ⟨v, h1, Ru.mono e h2⟩
      | r b =>
        have hu' : (if b = a then some (U.d (.list ds)) else some (U.r b)) = some u := Option.some.inj hu
        by_cases hb : b = a
        · subst hb
          rw [if_pos rfl] at hu'
          cases hu'
          exact ⟨v, h1, by rw [show v = .ref b from h2]; exact r⟩
        · rw [if_neg hb] at hu'
          cases hu'
          exact ⟨v, h1, h2⟩
/-- behind a freezing of the list in slot i -/
def wFrz (i : Nat) (w : WSt) : WSt := fun B ρ μ => ∃ a ds, ρ[i]? = some (some (.r a)) ∧ μ a = some (.lst (ds.map U.d)) ∧ w B (frzR a ds ρ) (del μ a)
theorem rs_frz {K : Fg} {t : TS} {w : WSt} (i : Nat) (h : RS K t w) : RS K t (wFrz i w) := fun F G H μ σ ρ D B S L ⟨a, ds, h1, h2, w⟩ => by
  obtain ⟨G', e, S'⟩ := S.freeze h2
  exact h F G' H _ σ _ D B S' (L.mono e) w
theorem w_frz {X : Cx} {s : List Stmt} {t : TS} {w : WSt} (i : Nat) (h : WSs X s t w) : WSs X s t (wFrz i w) := ⟨h.ps, rs_frz i h.rs⟩
/-- what a def hands back, told otherwise: a list frozen, a hand made, things forgotten -/
inductive Gv (μ0 : Mu) : U → Mu → U → Mu → Prop
  | rfl {u : U} {μ : Mu} : Gv μ0 u μ u μ
  | frz {a : Addr} {ds : List PyData} {μ : Mu} : μ a = some (.lst (ds.map U.d)) → Gv μ0 (.r a) μ (.d (.list ds)) (del μ a)
  | drop {u w : U} {a : Addr} {μ μ' : Mu} : Gv μ0 u (del μ a) w μ' → Gv μ0 u μ w μ'
  | hand {u w : U} {a : Addr} {ns : List Int} {i r t : Int} {μ μ' : Mu} : μ a = some (.lst [.d (.list (ns.map .int)), .d (.int i), .d (.int r), .d (.int t)]) → ns.length ≤ 63 → (∀ x ∈ ns, 0 ≤ x) → 0 ≤ i → i ≤ 63 → 0 ≤ r → Gv μ0 u (put μ a .hand) w μ' → Gv μ0 u μ w μ'
theorem rus_cons {K : Fg} {G : Hp} {vs : List V} {u : U} {us : List U} (h : Rus K G vs (u :: us)) : ∃ v ws, vs = v :: ws ∧ Ru K G v u ∧ Rus K G ws us := by
  cases h with
  | cons h t => exact ⟨_, _, rfl, h, t⟩
theorem Gv.go {K : Fg} {F : Hp} {μ0 : Mu} {u w : U} {μ μ' : Mu} (g : Gv μ0 u μ w μ') : ∀ {G H : Hp} {v : V}, St3 K F G H μ → Ru K G v u → ∃ G', Ext G G' ∧ St3 K F G' H μ' ∧ Ru K G' v w := by
  induction g with
  | rfl => exact fun S r => ⟨_, Ext.refl _, S, r⟩
  | frz h =>
    intro G H v S r
    obtain ⟨vs, e, S', r'⟩ := S.freeze h
    exact ⟨_, e, S', by rw [show v = .ref _ from r]; exact r'⟩
  | drop _ ih => exact fun S r => ih S.drop r
  | hand h l1 l2 l3 l4 l5 _ ih =>
    intro G H v S r
    refine ih (S.reword h ?_) r
    obtain ⟨vs, h1, h2⟩ := S.lst h
    obtain ⟨v1, w1, rfl, r1, h2⟩ := rus_cons h2
    obtain ⟨v2, w2, rfl, r2, h2⟩ := rus_cons h2
    obtain ⟨v3, w3, rfl, r3, h2⟩ := rus_cons h2
    obtain ⟨v4, w4, rfl, r4, h2⟩ := rus_cons h2
    cases h2
    obtain ⟨c, xs, rfl, g1, g2⟩ := rp_lst r1
    rw [rps_ints g2] at g1
    rw [rp_int r2, rp_int r3, rp_int r4] at h1
    exact ⟨c, _, _, _, _, h1, g1, l1, l2, l3, l4, l5⟩
/-- the hand opened -/
theorem St3.openHand {K : Fg} {F G H : Hp} {μ : Mu} {a : Addr} (S : St3 K F G H μ) (h : μ a = some .hand) : ∃ (ns : List Int) (i r t : Int), ns.length ≤ 63 ∧ (∀ x ∈ ns, 0 ≤ x) ∧ 0 ≤ i ∧ i ≤ 63 ∧ 0 ≤ r ∧
    St3 K F G H (put μ a (.lst [.d (.list (ns.map .int)), .d (.int i), .d (.int r), .d (.int t)])) := by
  obtain ⟨hg, c, i, r, t, ns, h1, h2, l1, l2, l3, l4, l5⟩ := S.mu _ _ h
  exact ⟨ns, i, r, t, l1, l2, l3, l4, l5, S.reword h ⟨_, h1, .cons (Rp.lst h2 (rps_ints' ns)) (.cons (Rp.int i) (.cons (Rp.int r) (.cons (Rp.int t) .nil)))⟩⟩

/-! ### a def by its body -/
def start3 (N : List Str) (us : List U) : Rho := us.map some ++ List.replicate (N.length - us.length) none
theorem start_sim {K : Fg} {F G H : Hp} {μ : Mu} {N : List Str} {vs : List V} {us : List U} (S : St3 K F G H μ) (r : Rus K G vs us) : Sim K F G H μ (L2.start N vs) (start3 N us) := by
  have hl := r.length
  refine ⟨S, by unfold L2.start start3; rw [List.length_append, List.length_append, List.length_map, List.length_map, List.length_replicate, List.length_replicate, hl], fun i u h => ?_⟩
  unfold start3 at h
  unfold L2.start
  by_cases hi : i < us.length
  · rw [List.getElem?_append_left (by rw [List.length_map]; exact hi), List.getElem?_map] at h
    rw [List.getElem?_append_left (by rw [List.length_map]; omega), List.getElem?_map]
    cases q : us[i]? with
    | none => rw [q] at h; cases h
    | some w =>
      rw [q] at h
      cases h
      obtain ⟨v, h1, h2⟩ := r.getU q
      exact ⟨v, by rw [h1]; rfl, h2⟩
  · rw [List.getElem?_append_right (by rw [List.length_map]; omega), List.getElem?_replicate] at h
    split at h <;> cases h
section
variable {P : Program} {w : World} {K : Fg} {mg : Str → Option Value} {base : Heap}
/-- THE RULE for a def: its body's worth; what it hands back may be told otherwise -/
theorem fn3 {x : Str} {params : Arguments} {body : List Stmt} {scope : Scope} {f : Addr} {fd : FuncData} {N ps : List Str} {k : Nat} {s : WF} (Fd : FunD K x x params body scope [] [] f fd) (hmg : mg x = some (.ref f)) (hbind : Binds K fd ps []) (S : FnScope N ps scope)
    (len : ∀ us μ Q, s us μ Q → us.length = ps.length)
    (hbody : ∀ (cdv : Value) (A : Around) (outer : List Env) (sh : Shared) (H : Hp) (E : XK), Room k (A.deeper (envOfC x scope sh.heap.objs.size f cdv)) →
      ∃ t wt, WSs (cxOf CX0 P w K mg base N x scope f cdv A outer sh H E).nox body t wt ∧ ∀ us μ Q, s us μ Q → wt { nx := fun _ μ' => ∃ u2 μ2, Gv μ (.d .none) μ' u2 μ2 ∧ Q u2 μ2, rt := fun u μ' => ∃ u2 μ2, Gv μ u μ' u2 μ2 ∧ Q u2 μ2 } (start3 N us) μ) :
    C8.Cal P w K mg base (k + 1) x (sp3 K s) [] := by
  refine ⟨f, fd, ps, [], FunD.ok Fd S (fun vs H Q E h => ?_) (fun cdv A outer sh H vs Q E hr h => ?_), hmg, Fd.kp, hbind, .nil⟩
  · obtain ⟨us, F, G, μ, P, S, r, hs, q⟩ := h
    rw [r.length]
    exact len _ _ _ hs
  · obtain ⟨us, F, G, μ, Pz, S3, r, hs, q⟩ := h
    obtain ⟨t, wt, hw, hq⟩ := hbody cdv A outer sh H E hr
    refine ⟨t, PSs.nox hw.ps, hw.rs F G H μ (L2.start N vs) (start3 N us) _ _ (start_sim S3 r) ⟨?_, ?_, ?_, ?_⟩ (hq us μ Pz hs)⟩
    · rintro σ' G' H' ρ' μ' e S' ⟨u2, μ2, g, p⟩
      obtain ⟨G2, e2, S2, r2⟩ := g.go (v := .non) S'.st Rp.non
      exact q .non u2 G2 H' μ2 (e.trans e2) S2 r2 p
    · rintro v u G' H' μ' e S' r' ⟨u2, μ2, g, p⟩
      obtain ⟨G2, e2, S2, r2⟩ := g.go S' r'
      exact q v u2 G2 H' μ2 (e.trans e2) S2 r2 p
    · exact fun _ _ _ _ _ _ _ h => h.elim
    · exact fun _ _ _ _ _ _ _ h => h.elim
/-- a weaker promise -/
theorem cal_imp {k : Nat} {x : Str} {s s' : WF} (c : C8.Cal P w K mg base k x (sp3 K s) []) (h : ∀ us μ Q, s' us μ Q → s us μ Q) : C8.Cal P w K mg base k x (sp3 K s') [] := by
  obtain ⟨f, fd, ps, ds, F, hm, kp, b, d⟩ := c.ex
  refine ⟨f, fd, ps, ds, F.imp (fun vs H Q E ⟨us, F, G, μ, P, S, r, hs, q⟩ => ⟨us, F, G, μ, P, S, r, h _ _ _ hs, q⟩), hm, kp, b, d⟩
theorem cal_mono {j k : Nat} {x : Str} {s : Sp} (c : C8.Cal P w K mg base j x s []) (h : j ≤ k) : C8.Cal P w K mg base k x s [] := by
  obtain ⟨f, fd, ps, ds, F, hm, kp, b, d⟩ := c.ex
  exact ⟨f, fd, ps, ds, F.mono h, hm, kp, b, d⟩
end
end L3

/-! the least of two texts, the least of a list of texts with a default -/
namespace L3M
open PySem PySem.Spec PyProof.Rows L2
def ltS (x y : Str) : Bool := decide (x.cps.toList < y.cps.toList)
def leastS (z : Str) (zs : List Str) : Str := zs.foldl (fun m y => if ltS y m = true then y else m) z
theorem CmpOf_strs {prog : Program} {w : World} {A : Around} {P : Nat → Value → Prop} (val : Nat → Str) (hval : ∀ i v, P i v → ∃ t, v = .str (val i) t) :
    CmpOf prog w A .Lt P (fun i j => ltS (val i) (val j)) := fun i j vi vj s Q E hi hj h => by
  obtain ⟨t, rfl⟩ := hval i vi hi
  obtain ⟨u, rfl⟩ := hval j vj hj
  exact PyProof.Rows.lt_str (show Q (.bool (decide ((val i).cps.toList < (val j).cps.toList))) s from h)
section
variable {prog : Program} {w : World} {A : Around} {R : Result → Shared → Prop} {I : Addr} {fp wr : List Addr} {n : Nat} {P : Nat → Value → Prop} {St : Nat → Heap → Prop} {kw : List (Str × Value)}
theorem min_loop (W : Walks prog w A.in1 I fp wr n P St) (bt : Nat → Nat → Bool) (hcmp : CmpOf prog w A.in1 .Lt P bt) (S : Addr) (hSf : S ∉ fp) :
    ∀ (k j : Nat) (s : Shared) (vb : Value) (c : Nat), n - (j + 1) = k → j + 1 ≤ n → St (j + 1) s.heap → P (argBest bt j) vb →
    s.heap.get? S = some { cls := .type "list", dict := none, data := .seq #[vb, vb] c, slots := #[] } →
    (∀ v h' tk, P (argBest bt (n - 1)) v → (∀ b o, b ∉ wr → b ≠ S → s.heap.get? b = some o → h'.get? b = some o) → R (.ok (.ret v)) { s with heap := h', toks := tk }) →
    codeAny (model prog w) A (.builtin "min.loop" ⟨[.ref I, .none, .ref S], kw⟩) R s := by
  have hSw : S ∉ wr := fun h => hSf (W.sub _ h)
  have hname : (toString "min" ++ toString ".loop" : String) = "min.loop" := by decide
  intro k
  induction k with
  | zero =>
    intro j s vb c hk hj hst hPb hS hR
    have hin : j + 1 = n := by omega
    refine codeAny_builtin PySem.F.entry_min_loop ?_
    rw [Around.under_plainId PySem.F.plain_min_loop _]
    show wpAny _ A.in1 (seqItems? (.ref S) >>= _) _ _ s
    refine wpAny_bind (wpAny_seqItems hS rfl ?_)
    show wpAny _ A.in1 (tryCatch (pyNext (.ref I)) _ >>= _) _ _ s
    refine wpAny_bind (wpAny_tryCatch (W.done s _ _ (hin ▸ hst) fun h' tk hk' => ?_))
    have hS' := hk' S _ hSw hS
    show wpAny _ A.in1 (updateSeq S (fun _ => #[]) >>= _) _ _ _
    refine wpAny_bind ?_
    refine wpAny_updateSeq hS' rfl (wpAny_bind (wpAny_letGo (wpAny_pure ?_)))
    refine hR vb _ tk (by rw [← hin]; exact hPb) fun b o hbw hbS e => (Heap.get?_update_other _ _ (Ne.symm hbS)).trans (hk' b o hbw e)
  | succ k ih =>
    intro j s vb c hk hj hst hPb hS hR
    have hlt : j + 1 < n := by omega
    refine codeAny_builtin PySem.F.entry_min_loop ?_
    rw [Around.under_plainId PySem.F.plain_min_loop _]
    show wpAny _ A.in1 (seqItems? (.ref S) >>= _) _ _ s
    refine wpAny_bind (wpAny_seqItems hS rfl ?_)
    show wpAny _ A.in1 (tryCatch (pyNext (.ref I)) _ >>= _) _ _ s
    refine wpAny_bind (wpAny_tryCatch (W.item (j + 1) s _ _ hlt hst fun v h' tk hP hst' hk' => ?_))
    have hS' := hk' S _ hSw hS
    show wpAny _ A.in1 (tryCatch (holding [v, v] (richCompare .Lt v vb >>= _)) _ >>= _) _ _ _
    refine wpAny_bind (wpAny_tryCatch (wpAny_holding (wpAny_bind (hcmp (j + 1) (argBest bt j) v vb _ _ _ hP hPb ?_))))
    refine wpAny_bind (wpAny_holding (wpAny_truthy_bool ?_))
    refine wpAny_bind (wpAny_letGo (wpAny_pure ?_))
    cases hb : bt (j + 1) (argBest bt j) with
    | true =>
      simp only [if_true]
      refine wpAny_bind ?_
      refine wpAny_updateSeq hS' rfl (wpAny_bind (wpAny_letGo ?_))
      rw [hname]
      refine wpAny_pure ⟨plainId_quiet PySem.F.plain_min_loop _, ih (j + 1) _ v _ (by omega) hlt (W.frame _ _ _ hst' fun b hbf o e => ?_) (by simp only [argBest, hb, if_true]; exact hP) (Heap.get?_update_self _ hS' rfl)
        fun v' h'' tk'' hP' hk'' => ?_⟩
      · exact (Heap.get?_update_other _ _ (fun h : S = b => hSf (by rw [h]; exact hbf))).trans e
      · exact hR v' h'' tk'' hP' fun b o hbw hbS e => hk'' b o hbw hbS ((Heap.get?_update_other _ _ (Ne.symm hbS)).trans (hk' b o hbw e))
    | false =>
      simp only [Bool.false_eq_true, if_false]
      refine wpAny_bind (wpAny_letGo ?_)
      rw [hname]
      refine wpAny_pure ⟨plainId_quiet PySem.F.plain_min_loop _, ih (j + 1) _ vb c (by omega) hlt hst' (by simp only [argBest, hb, Bool.false_eq_true, if_false]; exact hPb) hS' fun v' h'' tk'' hP' hk'' => ?_⟩
      exact hR v' h'' tk'' hP' fun b o hbw hbS e => hk'' b o hbw hbS (hk' b o hbw e)
theorem min_loop_first (W : Walks prog w A.in1 I fp wr n P St) (bt : Nat → Nat → Bool) (hcmp : CmpOf prog w A.in1 .Lt P bt) (S : Addr) (hSf : S ∉ fp) (hn : 0 < n) {s : Shared} {c : Nat} (hst : St 0 s.heap)
    (hS : s.heap.get? S = some { cls := .type "list", dict := none, data := .seq #[] c, slots := #[] })
    (hR : ∀ v h' tk, P (argBest bt (n - 1)) v → (∀ b o, b ∉ wr → b ≠ S → s.heap.get? b = some o → h'.get? b = some o) → R (.ok (.ret v)) { s with heap := h', toks := tk }) :
    codeAny (model prog w) A (.builtin "min.loop" ⟨[.ref I, .none, .ref S], kw⟩) R s := by
  have hSw : S ∉ wr := fun h => hSf (W.sub _ h)
  have hname : (toString "min" ++ toString ".loop" : String) = "min.loop" := by decide
  refine codeAny_builtin PySem.F.entry_min_loop ?_
  rw [Around.under_plainId PySem.F.plain_min_loop _]
  show wpAny _ A.in1 (seqItems? (.ref S) >>= _) _ _ s
  refine wpAny_bind (wpAny_seqItems hS rfl ?_)
  show wpAny _ A.in1 (tryCatch (pyNext (.ref I)) _ >>= _) _ _ s
  refine wpAny_bind (wpAny_tryCatch (W.item 0 s _ _ hn hst fun v h' tk hP hst' hk' => ?_))
  have hS' := hk' S _ hSw hS
  show wpAny _ A.in1 (updateSeq S (fun _ => #[v, v]) >>= _) _ _ _
  refine wpAny_bind ?_
  refine wpAny_updateSeq hS' rfl ?_
  rw [hname]
  refine wpAny_pure ⟨plainId_quiet PySem.F.plain_min_loop _, min_loop W bt hcmp S hSf _ 0 _ v _ rfl hn (W.frame _ _ _ hst' fun b hbf o e => ?_) hP (Heap.get?_update_self _ hS' rfl) fun v' h'' tk'' hP' hk'' => ?_⟩
  · exact (Heap.get?_update_other _ _ (fun h : S = b => hSf (by rw [h]; exact hbf))).trans e
  · exact hR v' h'' tk'' hP' fun b o hbw hbS e => hk'' b o hbw hbS ((Heap.get?_update_other _ _ (Ne.symm hbS)).trans (hk' b o hbw e))
/-- nothing to walk: the default -/
theorem min_loop_none (W : Walks prog w A.in1 I fp wr n P St) (S : Addr) (hSf : S ∉ fp) (hn : n = 0) {s : Shared} {c : Nat} {d : Value} {x : Str} (hst : St 0 s.heap)
    (hS : s.heap.get? S = some { cls := .type "list", dict := none, data := .seq #[] c, slots := #[] })
    (hR : ∀ h' tk, (∀ b o, b ∉ wr → b ≠ S → s.heap.get? b = some o → h'.get? b = some o) → R (.ok (.ret d)) { s with heap := h', toks := tk }) :
    codeAny (model prog w) A (.builtin "min.loop" ⟨[.ref I, .none, .ref S], [(x, d)]⟩) R s := by
  subst hn
  refine codeAny_builtin PySem.F.entry_min_loop ?_
  rw [Around.under_plainId PySem.F.plain_min_loop _]
  show wpAny _ A.in1 (seqItems? (.ref S) >>= _) _ _ s
  refine wpAny_bind (wpAny_seqItems hS rfl ?_)
  show wpAny _ A.in1 (tryCatch (pyNext (.ref I)) _ >>= _) _ _ s
  refine wpAny_bind (wpAny_tryCatch (W.done s _ _ hst fun h' tk hk' => ?_))
  refine wpAny_bind (wpAny_rule (wpAny_pure ?_))
  exact hR h' tk fun b o hbw _ e => hk' b o hbw e
end
def strItems (xs : Array (Str × Tok)) : Array Value := xs.map fun p => .str p.1 p.2
def strAt (xs : Array (Str × Tok)) (i : Nat) : Str := (xs[i]?.map (·.1)).getD ⟨#[]⟩
theorem strItems_at {xs : Array (Str × Tok)} {i : Nat} {v : Value} (h : (strItems xs)[i]? = some v) : ∃ t, v = .str (strAt xs i) t := by
  simp only [strItems, Array.getElem?_map, Option.map_eq_some_iff] at h
  obtain ⟨p, hp, rfl⟩ := h
  exact ⟨p.2, by simp [strAt, hp]⟩
/-- the best place's text is the least by the fold -/
theorem best_least (f : Nat → Str) : ∀ k, f (argBest (fun i j => ltS (f i) (f j)) k) = leastS (f 0) ((List.range k).map fun i => f (i + 1))
  | 0 => rfl
  | k + 1 => by
    have ih := best_least f k
    have e : leastS (f 0) ((List.range (k + 1)).map fun i => f (i + 1)) = (if ltS (f (k + 1)) (leastS (f 0) ((List.range k).map fun i => f (i + 1))) = true then f (k + 1) else leastS (f 0) ((List.range k).map fun i => f (i + 1))) := by
      unfold leastS
      rw [List.range_succ, List.map_append, List.foldl_append]
      rfl
    rw [e, ← ih]
    show f (if ltS (f (k + 1)) (f (argBest (fun i j => ltS (f i) (f j)) k)) = true then k + 1 else argBest (fun i j => ltS (f i) (f j)) k) = _
    split <;> rfl
section
variable {prog : Program} {w : World} {A : Around} {E : Value → Shared → Prop} {s : Shared}
theorem min_two_strs {a b : Str} {t u : Tok} {Q : Value → Shared → Prop} (hh : A.handled = none)
    (h : ∀ h' tk v, (∀ c o, s.heap.get? c = some o → h'.get? c = some o) → (∃ t, v = .str (if ltS b a = true then b else a) t) → Q v { s with heap := h', toks := tk }) :
    wpAny (model prog w) A (call (.builtin "min") [.str a t, .str b u]) Q E s := by
  have hT : (s.heap.push { cls := .type "tuple", data := .seq #[.str a t, .str b u] }).IsTuple s.heap.objs.size (strItems #[(a, t), (b, u)]) := ⟨_, Heap.get?_push_size _ rfl, rfl, 0, by simp [strItems]⟩
  refine call_min_two (wpAny_pyIter_tuple hT ?_)
  have hsz : (s.heap.push { cls := .type "tuple", data := .seq #[.str a t, .str b u] }).objs.size = s.heap.objs.size + 1 := Heap.size_push ..
  refine ⟨_, [_, s.heap.objs.size], [_], _, _, _, _, rfl, Walks.tuple (A := A.in1) hh _ s.heap.objs.size (by rw [hsz]; exact Nat.ne_of_lt (Nat.lt_succ_self _)) (strItems #[(a, t), (b, u)]),
    ⟨⟨_, Heap.get?_push_size _ rfl, rfl, rfl⟩, hT.push _⟩, fun c hc => ?_, by simp [strItems], CmpOf_strs (strAt #[(a, t), (b, u)]) (fun _ _ => strItems_at), fun v h' tk hP hk => ?_⟩
  · show c < ((s.heap.push _).push _).objs.size
    rw [Heap.size_push, hsz]
    rcases List.mem_cons.mp hc with rfl | hc
    · rw [hsz]; exact Nat.lt_succ_self _
    · rcases List.mem_cons.mp hc with rfl | hc
      · exact Nat.lt_succ_of_lt (Nat.lt_succ_self _)
      · cases hc
  · have hold : ∀ c o, s.heap.get? c = some o → h'.get? c = some o := fun c o e => by
      refine hk c o (fun hm => ?_) (Heap.get?_push_of_some _ (Heap.get?_push_of_some _ e))
      rcases List.mem_cons.mp hm with e1 | hm
      · have := Heap.lt_size e; rw [e1, hsz] at this; exact Nat.lt_irrefl _ (Nat.lt_of_succ_lt this)
      · cases hm
    refine h h' tk v hold ?_
    obtain ⟨t', rfl⟩ := strItems_at hP
    refine ⟨t', ?_⟩
    have hsz2 : (strItems #[(a, t), (b, u)]).size - 1 = 1 := by simp [strItems]
    rw [hsz2, best_least (strAt #[(a, t), (b, u)])]
    rfl
theorem min_default {x : Value} {d : Value} {Q : Value → Shared → Prop}
    (h : wpAny (model prog w) A.in1 (pyIter x) (fun it s₂ => ∃ I fp wr n P St bt, it = .ref I ∧ Walks prog w A.in1 I fp wr n P St ∧ St 0 s₂.heap ∧ (∀ b ∈ fp, b < s₂.heap.objs.size) ∧ CmpOf prog w A.in1 .Lt P bt ∧
      (n = 0 → ∀ h' tk, (∀ b o, b ∉ wr → s₂.heap.get? b = some o → h'.get? b = some o) → Q d { s₂ with heap := h', toks := tk }) ∧
      (0 < n → ∀ v h' tk, P (argBest bt (n - 1)) v → (∀ b o, b ∉ wr → s₂.heap.get? b = some o → h'.get? b = some o) → Q v { s₂ with heap := h', toks := tk })) E s) :
    wpAny (model prog w) A (call (.builtin "min") [x] [(Str.ofString "default", d)]) Q E s := by
  have hname : (toString "min" ++ toString ".loop" : String) = "min.loop" := by decide
  refine wpAny_call (codeAny_call_builtin PySem.F.plain_min PySem.F.entry_min ?_)
  have ha : argsOk "min" ⟨[x], [(Str.ofString "default", d)]⟩ := by unfold argsOk; kernel_rfl
  simp only [checkBuiltinCall, PySem.F.kind_min]
  have main : wpAny (model prog w) A.in1 (Builtin.«min» ⟨[x], [(Str.ofString "default", d)]⟩) (fun fin s' => match fin with
      | .done f => (match (Except.ok f : Result) with | .ok (.ret v) => Q v s' | .ok _ => False | .error e => E e s')
      | .again c' => c'.quiet = true ∧ codeAny (model prog w) A c' (fun r s' => match r with | .ok (.ret v) => Q v s' | .ok _ => False | .error e => E e s') s') E s := by
    show wpAny _ A.in1 (Builtin.Builtins.bindParams "min" ["key", "default"] 0 ⟨[], [(Str.ofString "default", d)]⟩ >>= _) _ _ s
    refine wpAny_bind (wpAny_of_eq (show Builtin.Builtins.bindParams "min" ["key", "default"] 0 ⟨[], [(Str.ofString "default", d)]⟩ = pure [none, some d] from by kernel_rfl) ?_)
    refine wpAny_bind (wpAny_pure ?_)
    refine wpAny_bind (wpAny_mono h (fun it s₂ h₂ => ?_) fun _ _ e => e)
    obtain ⟨I, fp, wr, n, P, St, bt, rfl, W, hst, hfp, hcmp, h0, h1⟩ := h₂
    refine wpAny_bind (wpAny_newObj_type ?_)
    have hSf : s₂.heap.objs.size ∉ fp := fun hm => Nat.lt_irrefl _ (hfp _ hm)
    rw [hname]
    by_cases hn : n = 0
    · refine wpAny_pure ⟨plainId_quiet PySem.F.plain_min_loop _, min_loop_none W s₂.heap.objs.size hSf hn (W.frame _ _ _ hst fun b _ o e => Heap.get?_push_of_some _ e) (Heap.get?_push_size _ rfl) fun h' tk hk => ?_⟩
      exact h0 hn h' tk fun b o hbw e => hk b o hbw (Nat.ne_of_lt (Heap.lt_size e)) (Heap.get?_push_of_some _ e)
    · refine wpAny_pure ⟨plainId_quiet PySem.F.plain_min_loop _, min_loop_first W bt hcmp s₂.heap.objs.size hSf (by omega) (W.frame _ _ _ hst fun b _ o e => Heap.get?_push_of_some _ e) (Heap.get?_push_size _ rfl) fun v h' tk hP hk => ?_⟩
      exact h1 (by omega) v h' tk hP fun b o hbw e => hk b o hbw (Nat.ne_of_lt (Heap.lt_size e)) (Heap.get?_push_of_some _ e)
  cases hsig : Manifest.signature? "min" with
  | none => exact wpAny_pure main
  | some sig =>
    simp only [argsOk, hsig] at ha
    have h2 : Bind.checkArgs "min" sig ⟨[x], [(Str.ofString "default", d)]⟩ = pure () := ha
    show wpAny _ A.in1 (Bind.checkArgs "min" sig ⟨[x], [(Str.ofString "default", d)]⟩) _ _ s
    rw [h2]; exact wpAny_pure main
theorem iter_strList {l : Addr} {xs : Array (Str × Tok)} {Q : Value → Shared → Prop} (hl : s.heap.IsList l (strItems xs))
    (h : ∀ s₂ : Shared, s₂ = { s with heap := s.heap.push { cls := .type "list_iterator", data := .fields #[.ref l, .int 0 0] } } →
      (s₂.heap.IsListIter s.heap.objs.size l 0 ∧ s₂.heap.IsList l (strItems xs)) → (∀ b ∈ [s.heap.objs.size, l], b < s₂.heap.objs.size) → l ≠ s.heap.objs.size → Q (.ref s.heap.objs.size) s₂) :
    wpAny (model prog w) A (pyIter (.ref l)) Q E s := by
  have hlt : l < s.heap.objs.size := by obtain ⟨_, e, _⟩ := hl; exact Heap.lt_size e
  refine wpAny_pyIter_list hl (h _ rfl ⟨⟨_, Heap.get?_push_size _ rfl, rfl, rfl⟩, hl.push _⟩ (fun b hb => ?_) (Nat.ne_of_lt hlt))
  show b < (s.heap.push _).objs.size
  rw [Heap.size_push]
  rcases List.mem_cons.mp hb with rfl | hb
  · exact Nat.lt_succ_self _
  · rcases List.mem_cons.mp hb with rfl | hb
    · exact Nat.lt_succ_of_lt hlt
    · cases hb
theorem min_strList {l : Addr} {xs : Array (Str × Tok)} {d : Value} {Q : Value → Shared → Prop} (hh : A.handled = none) (hl : s.heap.IsList l (strItems xs))
    (h0 : xs.size = 0 → ∀ h' tk, (∀ b o, s.heap.get? b = some o → h'.get? b = some o) → Q d { s with heap := h', toks := tk })
    (h1 : 0 < xs.size → ∀ v h' tk, (∃ t, v = .str (leastS (strAt xs 0) ((List.range (xs.size - 1)).map fun i => strAt xs (i + 1))) t) → (∀ b o, s.heap.get? b = some o → h'.get? b = some o) → Q v { s with heap := h', toks := tk }) :
    wpAny (model prog w) A (call (.builtin "min") [.ref l] [(Str.ofString "default", d)]) Q E s := by
  refine min_default (iter_strList hl fun s₂ e st hfp hlI => ?_)
  subst e
  have kept : ∀ {h' : Heap}, (∀ b o, b ∉ [s.heap.objs.size] → (s.heap.push { cls := .type "list_iterator", data := .fields #[.ref l, .int 0 0] }).get? b = some o → h'.get? b = some o) → ∀ b o, s.heap.get? b = some o → h'.get? b = some o := fun {h'} hk b o e => by
    refine hk b o (fun hm => ?_) (Heap.get?_push_of_some _ e)
    rcases List.mem_cons.mp hm with e1 | hm
    · exact absurd (e1 ▸ Heap.lt_size e) (Nat.lt_irrefl _)
    · cases hm
  refine ⟨_, _, _, _, _, _, _, rfl, Walks.list (A := A.in1) hh _ l hlI (strItems xs), st, hfp, CmpOf_strs (strAt xs) (fun _ _ => strItems_at), fun hn h' tk hk => ?_, fun hn v h' tk hP hk => ?_⟩
  · exact h0 (by simpa [strItems] using hn) h' tk (kept hk)
  · have hz : (strItems xs).size = xs.size := by simp [strItems]
    rw [hz] at hn
    refine h1 hn v h' tk ?_ (kept hk)
    obtain ⟨t, rfl⟩ := strItems_at hP
    refine ⟨t, ?_⟩
    rw [hz, best_least (strAt xs)]
end
theorem strs_items : ∀ {zs : List Str} {its : List Value}, Vals (zs.map V.str) its → ∃ xs : List (Str × Tok), its = xs.map (fun p => Value.str p.1 p.2) ∧ xs.map (·.1) = zs
  | [], _, h => by cases h; exact ⟨[], rfl, rfl⟩
  | z :: zs, _, h => by
    cases h with
    | cons h t =>
      obtain ⟨t0, rfl⟩ := h
      obtain ⟨xs, rfl, e⟩ := strs_items t
      exact ⟨(z, t0) :: xs, rfl, by rw [List.map_cons, e]⟩
def minD : List Str → V → V
  | [], d => d
  | z :: zs, _ => .str (leastS z zs)
section
variable {X : Cx}
theorem call_minS (hc : X.calm = true) : CallR X (.builtin "min") (fun xs H Q => ∃ i j, xs = [.str i, .str j] ∧ Q (.str (if ltS j i = true then j else i)) H) := by
  intro pins s σ H xs us Q I r h
  obtain ⟨i, j, rfl, q⟩ := h
  obtain ⟨u, w', rfl, ⟨t, rfl⟩, ⟨t', rfl⟩⟩ := vals2 r
  exact min_two_strs (I.ok.hd hc) fun h' tk v k ⟨t2, e⟩ => ⟨.str _, H, I.kept k, ⟨t2, e⟩, q⟩
def rMinD (K : PySem.W.Frag) : List V → List V → Hp → VK → Prop := fun vs zs H Q => ∃ (a : Addr) (xs : List Str) (d : V), vs = [.ref a] ∧ zs = [d] ∧ SqL K H a (xs.map V.str) ∧ Q (minD xs d) H
theorem call_minD (hc : X.calm = true) : CallRK X (.builtin "min") [Str.ofString "default"] (rMinD X.K) := by
  intro pins s σ H vs zs us ws Q I r1 r2 h
  obtain ⟨a, xs, d, rfl, rfl, hs, q⟩ := h
  obtain ⟨its, rv, hl, _⟩ := I.list hs
  rw [Vals.ref1 r1]
  obtain ⟨dv, rfl, rd⟩ := vals1 r2
  obtain ⟨ps, rfl, e⟩ := strs_items rv
  have hl' : s.heap.IsList a (strItems ps.toArray) := by
    have e2 : (ps.map fun p => Value.str p.1 p.2).toArray = strItems ps.toArray := by unfold strItems; simp
    rw [← e2]; exact hl.isList
  show wpAny _ _ (call (.builtin "min") [.ref a] [(Str.ofString "default", dv)]) _ _ _
  refine min_strList (I.ok.hd hc) hl' (fun hz h' tk hk => ?_) (fun hz v h' tk ⟨t, e3⟩ hk => ?_)
  · have : ps = [] := by
      cases ps with
      | nil => rfl
      | cons _ _ => simp at hz
    subst this
    subst e
    exact ⟨d, H, I.kept hk, rd, q⟩
  · cases ps with
    | nil => simp at hz
    | cons p ps =>
      subst e
      refine ⟨.str _, H, I.kept hk, ⟨t, e3⟩, ?_⟩
      have e4 : leastS (strAt (p :: ps).toArray 0) ((List.range ((p :: ps).toArray.size - 1)).map fun i => strAt (p :: ps).toArray (i + 1)) = leastS p.1 (ps.map (·.1)) := by
        have e5 : (List.range ((p :: ps).toArray.size - 1)).map (fun i => strAt (p :: ps).toArray (i + 1)) = ps.map (·.1) := by
          apply List.ext_getElem
          · simp
          · intro i h1 h2
            simp at h1 h2
            simp [strAt, h2]
        rw [e5]
        rfl
      rw [e4]
      exact q
end
end L3M

namespace PySem.AutoSeq1
theorem list_extend_tupG (l : Addr) (items : Array Value) (n : Nat) (b : Addr) (items2 : Array Value) (n2 : Nat) (dd : Option Addr) (sl : Array (Option Value)) (hs0 : ¬(!items.isEmpty && Builtin.List.listTooLong (items.size + items2.size)) = true) (hs1 : items.size ≤ sizeLine) (hs2 : items.size + items2.size ≤ sizeLine + 1) :
    Meets (Builtin.«list.extend» ⟨[.ref l, .ref b], []⟩) (fun _ R s => s.heap.get? l = some { cls := .type "list", dict := none, data := .seq items n, slots := #[] } ∧ s.heap.get? b = some { cls := .type "tuple", dict := dd, data := .seq items2 n2, slots := sl } ∧ R (.ok (.ret Value.none)) { s with heap := s.heap.update l (Obj.mapSeq fun x => x ++ items2), toks := s.toks }) :=
  .of_wp fun prog w A R s h => by
    obtain ⟨hp, g, d, tk, os⟩ := s; obtain ⟨hl, hb, h⟩ := h; have f1 := idx_int; have f2 := sub_tuple_tuple; have f3 := sub_list_list; have f4 := sub_tuple_list; have f5 := sub_list_tuple;
    have hz' : (items ++ items2).size ≤ sizeLine + 1 := by rw [Array.size_append]; exact hs2
    wp_walk using (wpAny_updateSeq hl rfl (hz := hs1) (_hz' := hz')), wpAny_loadPart' hl, wpAny_loadPart' hb; exact ⟨_, rfl, h⟩
end PySem.AutoSeq1
namespace L3
open PySem PySem.Spec PyProof.Rows L2

/-! ### list.extend of a tuple -/
def rExtT (K : Fg) : V → List V → Hp → VK → Prop := fun x vs H Q => ∃ l b xs zs, x = .ref l ∧ vs = [.ref b] ∧ H l = some (.lst xs) ∧ SqT K H b zs ∧ xs.length + zs.length ≤ sizeLine ∧ Q .non (upd H l (.lst (xs ++ zs)))
theorem mt_extT {X : Cx} : MtM X "list.extend" (rExtT X.K) := by
  intro pins s σ H x vs v us Q I rx rv h
  obtain ⟨l, b, xs, zs, rfl, rfl, hH, hB, hz, q⟩ := h
  cases rx
  obtain ⟨u, rfl, ru⟩ := rv.one
  cases ru
  obtain ⟨z, its, n, r, hl, e⟩ := I.lstM hH
  obtain ⟨its2, r2, ⟨⟨cls, dd, data, sl⟩, e2, hc, n2, hd⟩, _⟩ := I.tuple hB
  simp only at hc hd
  subst hc hd
  have hl2 := r2.length
  have hsz : its.toArray.size + its2.toArray.size ≤ sizeLine := by rw [List.size_toArray, List.size_toArray]; omega
  have hlong : ¬ (!its.toArray.isEmpty && Builtin.List.listTooLong (its.toArray.size + its2.toArray.size)) = true := by
    rw [notLongL hsz, Bool.and_false]
    exact Bool.false_ne_true
  refine call_meets F.slot_list_extend ⟨_, e, rfl⟩ F.entry_list_extend (F.args_list_extend_2 _ _)
    (AutoSeq1.list_extend_tupG l its.toArray n b its2.toArray n2 dd sl hlong (by rw [List.size_toArray]; omega) (by omega)) ⟨e, e2, ?_⟩
  refine ⟨.non, _, I.lset (its' := its ++ its2) hH e (by simp) (r.append r2) ?_, rfl, q⟩
  rw [List.length_append]
  omega
theorem rm_extT {K : Fg} : RM K (rExtT K) mExtendT := fun F G H μ x vs u us P Q S rx rv ⟨a, ws, ds, e1, e2, h, z, p⟩ q => by
  subst e1 e2
  obtain ⟨v, rfl, q1⟩ := rus1 rv
  obtain ⟨xs, h1, h2⟩ := S.lst h
  obtain ⟨b, zs, rfl, t1, t2⟩ := rp_tup q1
  refine ⟨a, b, xs, zs, rx, rfl, h1, t1.sq S.sub, by rw [h2.length, t2.length]; exact z, ?_⟩
  exact q .non (.d .none) G _ _ (Ext.refl G) (S.write (m' := .lst (ws ++ ds.map U.d)) h ⟨xs ++ zs, upd_same, h2.append (rus_d t2)⟩) Rp.non p

/-! ### min of texts -/
def qMinS : WQ := fun us μ P => ∃ i j : Str, us = [.d (.str i), .d (.str j)] ∧ P (.d (.str (if L3M.ltS j i = true then j else i))) μ
def minDU : List Str → PyData → PyData
  | [], d => d
  | z :: zs, _ => .str (L3M.leastS z zs)
def wMinD (w : WL) (k : WL) : WX := fun ρ μ P => w ρ μ fun us μ1 => k ρ μ1 fun ks μ2 => ∃ (u : U) (xs : List Str) (d : PyData), us = [u] ∧ ks = [.d d] ∧ listU μ2 u = some (xs.map fun z => U.d (.str z)) ∧ P (.d (minDU xs d)) μ2
structure WK (X : Cx) (kws : List Keyword) (t : TA) (w : WL) : Prop where
  pk : PK X kws t
  ra : RA X.K t w
section
variable {K : Fg} {X : Cx} {pos p : Pos} {e : Expr} {es : List Expr} {t tk : TA} {w wk : WL} {x : Str}
theorem rq_minS : RQ K (fun xs H Q => ∃ i j, xs = [.str i, .str j] ∧ Q (.str (if L3M.ltS j i = true then j else i)) H) qMinS := fun F G H μ vs us P Q S r ⟨i, j, e, p⟩ q => by
  subst e
  obtain ⟨v, x, rfl, q1, q2⟩ := rus2 r
  rw [rp_str q1, rp_str q2]
  exact ⟨i, j, rfl, q _ (.d (.str _)) G H μ (Ext.refl G) S (Rp.str _) p⟩
theorem w_knil : WK X [] tNil wNil := ⟨pk_nil, ra_nil⟩
theorem w_kcons {nm : Option Str} {kpos : Pos} {kws : List Keyword} {te : TE} {we : WX} (h : WE X e te we) (k : WK X kws t w)
    (hp : PK X (⟨nm, e, kpos⟩ :: kws) (tCons te t)) : WK X (⟨nm, e, kpos⟩ :: kws) (tCons te t) (wCons we w) := ⟨hp, ra_cons h.re k.ra⟩
theorem re_minD (h : RA K t w) (k : RA K tk wk) : RE K (tCKw (L3M.rMinD K) t tk) (wMinD w wk) := fun F G H μ σ ρ P Q S x q => h F G H μ σ ρ _ _ S x fun vs us G1 H1 μ1 e1 S1 r1 p1 =>
  k F G1 H1 μ1 σ ρ _ _ (S.mono e1 S1) p1 fun zs ks G2 H2 μ2 e2 S2 r2 ⟨u, xs, d, eu, ek, hl, p2⟩ => by
    subst eu ek
    obtain ⟨v, rfl, q1⟩ := rus1 (r1.mono e2)
    obtain ⟨dv, rfl, q2⟩ := rus1 r2
    obtain ⟨a, ys, rfl, h1, h2⟩ := listU_ok S2 q1 hl
    rw [rus_map_str h2] at h1
    refine ⟨a, xs, dv, rfl, rfl, h1, ?_⟩
    refine q _ (.d (minDU xs d)) G2 H2 μ2 (e1.trans e2) S2 ?_ p2
    cases xs with
    | nil => exact q2
    | cons z zs => exact Rp.str _
theorem w_minD {kws : List Keyword} (hc : X.calm = true) (hg : Gl X x) (hm : X.mg x = none) (hv : bootBuiltins x = some (.builtin "min")) (ha : WAr X (e :: es) t w) (hk : WK X kws tk wk) (hn : x ≠ "__name__" := by decide) (hdb : (x == ("__debug__" : Str)) = false := by decide)
    (he : backTo pos (starEach (e :: es) X.env) = (false, eval e X.env) :: backTo pos (starEach es X.env) := by rfl) (hpl : (backTo pos (starEach (e :: es) X.env)).any (·.1) = false := by rfl)
    (hall : (backToKw pos (keywordEach kws X.env)).all (·.1.isSome) = true := by rfl) (hnone : (backToKw pos (keywordEach kws X.env)).any (·.1.isNone) = false := by rfl) (hks : (backToKw pos (keywordEach kws X.env)).filterMap (·.1) = [Str.ofString "default"] := by rfl) :
    WE X (.Call (.Name x p) (e :: es) kws pos) (tCKw (L3M.rMinD X.K) t tk) (wMinD w wk) := ⟨pe_callBK (L3M.call_minD hc) hg hm hv ha.pa hk.pk hn hdb he hpl hall hnone hks, re_minD ha.ra hk.ra⟩
end

/-! ### dicts that may change -/
def kU : Key → U
  | .inl i => .d (.int i)
  | .inr x => .d (.str x)
def putU (kvs : List (Key × U)) (k : Key) (v : U) : List (Key × U) :=
  if (kvs.any fun kv => decide (kv.1 = k)) = true then kvs.map (fun kv => if kv.1 = k then (kv.1, v) else kv) else kvs ++ [(k, v)]
def wDictN : WX := fun _ μ P => ∀ p, μ p = none → P (.r p) (put μ p (.dct []))
def wDPut (wd wk wv : WX) : WSt := fun B ρ μ => wv ρ μ fun v μ1 => wd ρ μ1 fun d μ2 => wk ρ μ2 fun k μ3 => ∃ a kvs y, d = .r a ∧ k = kU y ∧ μ3 a = some (.dct kvs) ∧ kvs.length < sizeLine ∧ B.nx ρ (put μ3 a (.dct (putU kvs y v)))
def qSortD : WQ := fun us μ P => ∃ (a : Addr) (kvs : List (Key × U)) (ks : List Str), us = [.r a] ∧ μ a = some (.dct kvs) ∧ kvs.map (·.1) = ks.map Sum.inr ∧ ks.length < 64 ∧ ∀ ys : List Str, ys.Perm ks → sortedS ys = true → P (.d (.list (ys.map .str))) μ
section
variable {K : Fg} {X : Cx} {pos : Pos}
theorem rkv_len {G : Hp} : ∀ {vs : List (Key × V)} {us : List (Key × U)}, Rkv K G vs us → vs.length = us.length
  | _, _, .nil => rfl
  | _, _, .cons _ t => congrArg Nat.succ (rkv_len t)
theorem rkv_keys {G : Hp} : ∀ {vs : List (Key × V)} {us : List (Key × U)}, Rkv K G vs us → vs.map (·.1) = us.map (·.1)
  | _, _, .nil => rfl
  | _, _, .cons _ t => by rw [List.map_cons, List.map_cons, rkv_keys t]
theorem rkv_any {G : Hp} {k : Key} : ∀ {vs : List (Key × V)} {us : List (Key × U)}, Rkv K G vs us → (vs.any fun kv => decide (kv.1 = k)) = us.any fun kv => decide (kv.1 = k)
  | _, _, .nil => rfl
  | _, _, .cons _ t => by rw [List.any_cons, List.any_cons, rkv_any t]
theorem rkv_map {G : Hp} {k : Key} {v : V} {u : U} (r : Ru K G v u) : ∀ {vs : List (Key × V)} {us : List (Key × U)}, Rkv K G vs us → Rkv K G (vs.map fun kv => if kv.1 = k then (kv.1, v) else kv) (us.map fun kv => if kv.1 = k then (kv.1, u) else kv)
  | _, _, .nil => .nil
  | _, _, .cons (k := j) h t => by
    rw [List.map_cons, List.map_cons]
    by_cases e : j = k
    · rw [if_pos e, if_pos e]; exact .cons r (rkv_map r t)
    · rw [if_neg e, if_neg e]; exact .cons h (rkv_map r t)
theorem rkv_app {G : Hp} {k : Key} {v : V} {u : U} (r : Ru K G v u) : ∀ {vs : List (Key × V)} {us : List (Key × U)}, Rkv K G vs us → Rkv K G (vs ++ [(k, v)]) (us ++ [(k, u)])
  | _, _, .nil => .cons r .nil
  | _, _, .cons h t => .cons h (rkv_app r t)
theorem rkv_put {G : Hp} {k : Key} {v : V} {u : U} (r : Ru K G v u) {vs : List (Key × V)} {us : List (Key × U)} (h : Rkv K G vs us) : Rkv K G (putK vs k v) (putU us k u) := by
  unfold putK putU
  rw [rkv_any h]
  split
  · exact rkv_map r h
  · exact rkv_app r h
theorem ru_key {G : Hp} {v : V} {k : Key} (h : Ru K G v (kU k)) : v = kV k := by
  cases k with
  | inl i => exact rp_int h
  | inr x => exact rp_str h
theorem w_dictN : WE X (.Dict [] [] pos) tDNewK wDictN := ⟨pe_dnewK, fun F G H μ σ ρ P Q S w q => fun p hp => q (.ref p) (.r p) G _ _ (Ext.refl G) (S.st.newM (m := .dct []) hp ⟨[], upd_same, .nil⟩) rfl (w p (S.st.mnone hp))⟩
theorem rs_dput {td ty tv : TE} {wd wk wv : WX} (hd : RE K td wd) (hk : RE K ty wk) (hv : RE K tv wv) : RS K (sDPut td ty tv) (wDPut wd wk wv) := fun F G H μ σ ρ D B S L w => hv F G H μ σ ρ _ _ S w fun v vu G1 H1 μ1 e1 S1 r1 p1 =>
  hd F G1 H1 μ1 σ ρ _ _ (S.mono e1 S1) p1 fun d du G2 H2 μ2 e2 S2 r2 p2 => hk F G2 H2 μ2 σ ρ _ _ (S.mono (e1.trans e2) S2) p2 fun k ku G3 H3 μ3 e3 S3 r3 ⟨a, kvs, y, ed, ek, hm, hz, p3⟩ => by
    subst ed ek
    obtain ⟨_, kws, h1, h2⟩ := S3.mu _ _ hm
    have rv : Ru K G3 v vu := (r1.mono e2).mono e3
    rw [ru_key r3]
    refine ⟨a, _, r2, DPut.k h1 (by rw [rkv_len h2]; exact hz), ?_⟩
    have S4 := S3.write (m' := .dct (putU kvs y vu)) hm ⟨putK kws y v, upd_same, rkv_put rv h2⟩
    exact L.nx σ G3 _ ρ _ ((e1.trans e2).trans e3) ((S.mono ((e1.trans e2).trans e3) S3).mono (Ext.refl _) S4) p3
theorem w_dput {o i value : Expr} {pos' : Pos} {td ty tv : TE} {wd wk wv : WX} (hu : X.A.units + 1 < cLine) (ho : WE X o td wd) (hi : WE X i ty wk) (hv : WE X value tv wv) (hs : swapsWith value (some (.Subscript o i pos')) pos.line X.env = pure false := by rfl) :
    WS X (.Assign [.Subscript o i pos'] value pos) (sDPut td ty tv) (wDPut wd wk wv) := ⟨ps_dput hu ho.pe hi.pe hv.pe hs, rs_dput ho.re hi.re hv.re⟩
theorem rq_sortD : RQ K (fun xs H Q => ∃ (a : Addr) (kvs : List (Key × V)) (ks : List Str), xs = [.ref a] ∧ Rd H a (.dK kvs) ∧ kvs.map (·.1) = ks.map Sum.inr ∧ ks.length < 64 ∧ ∀ ys p, ys.Perm ks → sortedS ys = true → H p = none → Q (.ref p) (upd H p (.lst (ys.map V.str)))) qSortD := fun F G H μ vs us P Q S r ⟨a, kvs, ks, e, hm, hk, hz, p⟩ q => by
  subst e
  obtain ⟨v, rfl, q1⟩ := rus1 r
  obtain ⟨_, kws, h1, h2⟩ := S.mu _ _ hm
  refine ⟨a, kws, ks, by rw [show v = .ref a from q1], .inl h1, by rw [rkv_keys h2]; exact hk, hz, fun zs l hp hso hl => ?_⟩
  obtain ⟨e2, S2⟩ := S.newG (o := .lst (zs.map V.str)) hl
  exact q (.ref l) (.d (.list (zs.map .str))) _ _ μ e2 S2 (Rp.lst (SqL.of upd_same) (rps_strs' zs)) (p zs hp hso)
end

/-! ### join -/
def wJoin (wo we : WX) : WX := fun ρ μ P => wo ρ μ fun o μ1 => ∃ a : Str, o = .d (.str a) ∧ we ρ μ1 fun u μ2 => ∃ ys : List Str, itemsU μ2 u = some (ys.map fun z => U.d (.str z)) ∧ (ys.map (·.length)).sum + ys.length * a.length ≤ 16777216 ∧ P (.d (.str (Txt.join a ys))) μ2
theorem w_join {X : Cx} {o e : Expr} {to te : TE} {wo we : WX} {apos pos : Pos} (ho : WE X o to wo) (he : WE X e te we) (hs : starEach [e] X.env = [(false, eval e X.env)] := by rfl) (hbase : attributeBase o "join" X.env (eval o X.env) = eval o X.env := by rfl) (hline : (apos.endLine == pos.line) = true := by rfl) :
    WE X (.Call (.Attribute o "join" apos) [e] [] pos) (tM1 (fun x xs H Q => ∃ a p, ∃ ys : List Str, x = .str a ∧ xs = [.ref p] ∧ (SqL X.K H p (ys.map V.str) ∨ SqT X.K H p (ys.map V.str)) ∧
      (ys.map (·.length)).sum + ys.length * a.length ≤ 16777216 ∧ Q (.str (Txt.join a ys)) H) to te) (wJoin wo we) :=
  ⟨pe_join ho.pe he.pe hs hbase hline, fun F G H μ σ ρ P Q S w q => ho.re F G H μ σ ρ _ _ S w fun v u G1 H1 μ1 e1 S1 r1 ⟨a, eo, p1⟩ => by
    subst eo
    refine ⟨⟨a, rp_str r1⟩, he.re F G1 H1 μ1 σ ρ _ _ (S.mono e1 S1) p1 fun v2 u2 G2 H2 μ2 e2 S2 r2 ⟨ys, hi, hz, p2⟩ => ?_⟩
    obtain ⟨b, vs, rfl, hs, r3⟩ := itemsU_ok S2 r2 hi
    rw [rus_map_str r3] at hs
    exact ⟨a, b, ys, rp_str r1, rfl, hs, hz, q (.str _) (.d (.str _)) G2 H2 μ2 (e1.trans e2) S2 (Rp.str _) p2⟩⟩
end L3

namespace L3
open PySem PySem.Spec PyProof.Rows L2

/-! ### one rule a sign, whatever the kinds -/
theorem ro_or {K : Fg} {r r' : R2} {s s' t : WR} (h : RO K r s) (h' : RO K r' s') (ht : ∀ u w μ P, t u w μ P → s u w μ P ∨ s' u w μ P) : RO K (fun x y H Q => r x y H Q ∨ r' x y H Q) t := fun F G H μ x y u w P Q S rx ry p q => by
  rcases ht u w μ P p with p | p
  · exact .inl (h F G H μ x y u w P Q S rx ry p q)
  · exact .inr (h' F G H μ x y u w P Q S rx ry p q)
theorem rq_or {K : Fg} {r r' : List V → Hp → VK → Prop} {s s' t : WQ} (h : RQ K r s) (h' : RQ K r' s') (ht : ∀ u μ P, t u μ P → s u μ P ∨ s' u μ P) : RQ K (fun x H Q => r x H Q ∨ r' x H Q) t := fun F G H μ vs us P Q S rx p q => by
  rcases ht us μ P p with p | p
  · exact .inl (h F G H μ vs us P Q S rx p q)
  · exact .inr (h' F G H μ vs us P Q S rx p q)
theorem rm_or {K : Fg} {r r' : V → List V → Hp → VK → Prop} {s s' t : WM} (h : RM K r s) (h' : RM K r' s') (ht : ∀ u us μ P, t u us μ P → s u us μ P ∨ s' u us μ P) : RM K (fun x vs H Q => r x vs H Q ∨ r' x vs H Q) t := fun F G H μ x vs u us P Q S rx rv p q => by
  rcases ht u us μ P p with p | p
  · exact .inl (h F G H μ x vs u us P Q S rx rv p q)
  · exact .inr (h' F G H μ x vs u us P Q S rx rv p q)
def sAdd : WR := fun u w μ P => match u, w with
  | .d (.int i), .d (.int j) => P (.d (.int (i + j))) μ
  | .d (.str i), .d (.str j) => i.length + j.length ≤ sizeLine ∧ P (.d (.str (i ++ j))) μ
  | u, w => sCatL u w μ P
def sCmp (fi : Int → Int → Bool) (fs : Str → Str → Bool) : WR := fun u w μ P => match u, w with
  | .d (.int i), .d (.int j) => P (.d (.bool (fi i j))) μ
  | .d (.str i), .d (.str j) => P (.d (.bool (fs i j))) μ
  | _, _ => False
def sEqA (f : Bool → Bool) : WR := fun u w μ P => match u, w with
  | .d (.int i), .d (.int j) => P (.d (.bool (f (decide (i = j))))) μ
  | .d (.str i), .d (.str j) => P (.d (.bool (f (decide (i = j))))) μ
  | .d (.bool i), .d (.bool j) => P (.d (.bool (f (decide (i = j))))) μ
  | u, w => sEq f u w μ P
def sInA (f : Bool → Bool) : WR := fun u w μ P => match u with
  | .d (.str _) => sInS f u w μ P
  | _ => sInI f u w μ P
def sEqS (f : Bool → Bool) : WR := fun u w μ P => (∃ i j, u = .d (.int i) ∧ w = .d (.int j) ∧ P (.d (.bool (f (decide (i = j))))) μ) ∨ (∃ i j, u = .d (.str i) ∧ w = .d (.str j) ∧ P (.d (.bool (f (decide (i = j))))) μ) ∨ (∃ i j, u = .d (.bool i) ∧ w = .d (.bool j) ∧ P (.d (.bool (f (decide (i = j))))) μ)
section
variable {K : Fg} {X : Cx} {pos : Pos} {a b : Expr} {ta tb : TE} {wa wb : WX}
theorem ro_eqS : RO K rEq (sEqS id) := fun F G H μ x y u w P Q S rx ry p q => by
  rcases p with ⟨i, j, e1, e2, p⟩ | ⟨i, j, e1, e2, p⟩ | ⟨i, j, e1, e2, p⟩ <;> subst e1 e2
  · rw [rp_int rx, rp_int ry]
    refine ⟨rfl, ?_⟩
    have e : decide (V.int i = V.int j) = decide (i = j) := by simp
    rw [e]; exact q _ (.d (.bool _)) G H μ (Ext.refl G) S (Rp.bl _) p
  · rw [rp_str rx, rp_str ry]
    refine ⟨rfl, ?_⟩
    have e : decide (V.str i = V.str j) = decide (i = j) := by simp
    rw [e]; exact q _ (.d (.bool _)) G H μ (Ext.refl G) S (Rp.bl _) p
  · rw [rp_bl rx, rp_bl ry]
    refine ⟨rfl, ?_⟩
    have e : decide (V.bl i = V.bl j) = decide (i = j) := by simp
    rw [e]; exact q _ (.d (.bool _)) G H μ (Ext.refl G) S (Rp.bl _) p
theorem ro_neS : RO K rNe (sEqS not) := fun F G H μ x y u w P Q S rx ry p q => by
  rcases p with ⟨i, j, e1, e2, p⟩ | ⟨i, j, e1, e2, p⟩ | ⟨i, j, e1, e2, p⟩ <;> subst e1 e2
  · rw [rp_int rx, rp_int ry]
    refine ⟨rfl, ?_⟩
    have e : decide (V.int i = V.int j) = decide (i = j) := by simp
    rw [e]; exact q _ (.d (.bool _)) G H μ (Ext.refl G) S (Rp.bl _) p
  · rw [rp_str rx, rp_str ry]
    refine ⟨rfl, ?_⟩
    have e : decide (V.str i = V.str j) = decide (i = j) := by simp
    rw [e]; exact q _ (.d (.bool _)) G H μ (Ext.refl G) S (Rp.bl _) p
  · rw [rp_bl rx, rp_bl ry]
    refine ⟨rfl, ?_⟩
    have e : decide (V.bl i = V.bl j) = decide (i = j) := by simp
    rw [e]; exact q _ (.d (.bool _)) G H μ (Ext.refl G) S (Rp.bl _) p
theorem eqA_cases {f : Bool → Bool} {u w : U} {μ : Mu} {P : XP} (h : sEqA f u w μ P) : sEqS f u w μ P ∨ sEq f u w μ P := by
  unfold sEqA at h
  split at h
  · exact .inl (.inl ⟨_, _, rfl, rfl, h⟩)
  · exact .inl (.inr (.inl ⟨_, _, rfl, rfl, h⟩))
  · exact .inl (.inr (.inr ⟨_, _, rfl, rfl, h⟩))
  · exact .inr h
structure WCp (X : Cx) (c : Expr) (t : TE) (w : WX) : Prop where
  e : WE X c t w
  t : WT X c (tB t) (wB w)
theorem w_cmpC {op : CmpOp} {r : R2} {s : WR} (ho : OpR X (compareOp op) r) (hr : RO X.K r s) (ha : WE X a ta wa) (hb : WE X b tb wb) (hm : behindInMarks op b = false) : WCp X (.Compare a [op] [b] pos) (tOp r ta tb) (wOp s wa wb) :=
  ⟨w_cmp ho hr ha hb hm, ⟨pt_cmpR ho ha.pe hb.pe hm, rt_B (re_op hr ha.re hb.re)⟩⟩
theorem w_eq (hu : X.A.units + 64 < cLine) (ha : WE X a ta wa) (hb : WE X b tb wb) : WCp X (.Compare a [.Eq] [b] pos) (tOp (fun x y H Q => rEq x y H Q ∨ rEqD X.K x y H Q) ta tb) (wOp (sEqA id) wa wb) :=
  w_cmpC (OpR.or op_eq (op_eqD hu)) (ro_or ro_eqS ro_eq fun _ _ _ _ => eqA_cases) ha hb (nomark _)
theorem w_ne (hu : X.A.units + 64 < cLine) (ha : WE X a ta wa) (hb : WE X b tb wb) : WCp X (.Compare a [.NotEq] [b] pos) (tOp (fun x y H Q => rNe x y H Q ∨ rNeD X.K x y H Q) ta tb) (wOp (sEqA not) wa wb) :=
  w_cmpC (OpR.or op_ne (op_neD hu)) (ro_or ro_neS ro_ne fun _ _ _ _ => eqA_cases) ha hb (nomark _)
theorem cmp_cases {fi : Int → Int → Bool} {fs : Str → Str → Bool} {u w : U} {μ : Mu} {P : XP} (h : sCmp fi fs u w μ P) : sI0 (fun i j => .bool (fi i j)) u w μ P ∨ sS (fun i j => .bool (fs i j)) u w μ P := by
  unfold sCmp at h
  split at h
  · exact .inl ⟨_, _, rfl, rfl, h⟩
  · exact .inr ⟨_, _, rfl, rfl, h⟩
  · exact h.elim
abbrev sLt : WR := sCmp (fun i j => decide (i < j)) (fun i j => decide (i.cps.toList < j.cps.toList))
abbrev sGt : WR := sCmp (fun i j => decide (j < i)) (fun i j => decide (j.cps.toList < i.cps.toList))
abbrev sLe : WR := sCmp (fun i j => decide (i ≤ j)) (fun i j => !decide (j.cps.toList < i.cps.toList))
abbrev sGe : WR := sCmp (fun i j => decide (j ≤ i)) (fun i j => !decide (i.cps.toList < j.cps.toList))
def w_lt (ha : WE X a ta wa) (hb : WE X b tb wb) := show WCp X (.Compare a [.Lt] [b] pos) _ (wOp sLt wa wb) from w_cmpC (OpR.or op_lt op_lt_str) (ro_or (ro_I0 fun _ _ _ => .bl _) (ro_S (gv := fun i j => .bl (decide (i.cps.toList < j.cps.toList))) fun _ _ _ => .bl _) fun _ _ _ _ => cmp_cases) ha hb (nomark _)
def w_gt (ha : WE X a ta wa) (hb : WE X b tb wb) := show WCp X (.Compare a [.Gt] [b] pos) _ (wOp sGt wa wb) from w_cmpC (OpR.or op_gt op_gt_str) (ro_or (ro_I0 fun _ _ _ => .bl _) (ro_S (gv := fun i j => .bl (decide (j.cps.toList < i.cps.toList))) fun _ _ _ => .bl _) fun _ _ _ _ => cmp_cases) ha hb (nomark _)
def w_le (ha : WE X a ta wa) (hb : WE X b tb wb) := show WCp X (.Compare a [.LtE] [b] pos) _ (wOp sLe wa wb) from w_cmpC (OpR.or op_le op_le_str) (ro_or (ro_I0 fun _ _ _ => .bl _) (ro_S (gv := fun i j => .bl (!decide (j.cps.toList < i.cps.toList))) fun _ _ _ => .bl _) fun _ _ _ _ => cmp_cases) ha hb (nomark _)
def w_ge (ha : WE X a ta wa) (hb : WE X b tb wb) := show WCp X (.Compare a [.GtE] [b] pos) _ (wOp sGe wa wb) from w_cmpC (OpR.or op_ge op_ge_str) (ro_or (ro_I0 fun _ _ _ => .bl _) (ro_S (gv := fun i j => .bl (!decide (i.cps.toList < j.cps.toList))) fun _ _ _ => .bl _) fun _ _ _ _ => cmp_cases) ha hb (nomark _)
theorem inA_cases {f : Bool → Bool} {u w : U} {μ : Mu} {P : XP} (h : sInA f u w μ P) : sInS f u w μ P ∨ sInI f u w μ P := by
  unfold sInA at h
  split at h
  · exact .inl h
  · exact .inr h
theorem or_same {f : Value → Value → Sem Value} {r : R2} (h : OpR X f r) : OpR X f (fun x y H Q => r x y H Q ∨ r x y H Q) := OpR.or h h
def w_in (ha : WE X a ta wa) (hb : WE X b tb wb) (hm : behindInMarks .In b = false := by rfl) := show WCp X (.Compare a [.In] [b] pos) _ (wOp (sInA id) wa wb) from w_cmpC (or_same op_in_seq) (ro_or (ro_inS (neg := false)) (ro_inI (neg := false)) fun _ _ _ _ h => inA_cases h) ha hb hm
def w_notin (ha : WE X a ta wa) (hb : WE X b tb wb) (hm : behindInMarks .NotIn b = false := by rfl) := show WCp X (.Compare a [.NotIn] [b] pos) _ (wOp (sInA not) wa wb) from w_cmpC (or_same op_notIn_seq) (ro_or (ro_inS (neg := true)) (ro_inI (neg := true)) fun _ _ _ _ h => inA_cases h) ha hb hm
def w_isB {c : Bool} {j : Nat} {p2 : Pos} (ha : WE X a ta wa) := show WCp X (.Compare a [.Is] [.Constant (.bool c) j p2] pos) _ (wOp (sIs c id) wa (wC (.bool c))) from w_cmpC (op_isB (b := c)) (ro_isB (b := c) (f := id)) ha (w_bl (b := c) (j := j) (pos := p2)) (nomark _)
def w_isnotB {c : Bool} {j : Nat} {p2 : Pos} (ha : WE X a ta wa) := show WCp X (.Compare a [.IsNot] [.Constant (.bool c) j p2] pos) _ (wOp (sIs c not) wa (wC (.bool c))) from w_cmpC (op_isnotB (b := c)) (ro_isB (b := c) (f := not)) ha (w_bl (b := c) (j := j) (pos := p2)) (nomark _)
def w_isN {j : Nat} {p2 : Pos} (ha : WE X a ta wa) := show WCp X (.Compare a [.Is] [.Constant .none j p2] pos) _ (wOp (sIsN id) wa (wC .none)) from w_cmpC op_isN ro_isN ha w_non (nomark _)
def w_isnotN {j : Nat} {p2 : Pos} (ha : WE X a ta wa) := show WCp X (.Compare a [.IsNot] [.Constant .none j p2] pos) _ (wOp (sIsN not) wa (wC .none)) from w_cmpC op_notN ro_notN ha w_non (nomark _)
theorem add_cases {u w : U} {μ : Mu} {P : XP} (h : sAdd u w μ P) : sI0 (fun i j => .int (i + j)) u w μ P ∨ (sCatS u w μ P ∨ sCatL u w μ P) := by
  unfold sAdd at h
  split at h
  · exact .inl ⟨_, _, rfl, rfl, h⟩
  · exact .inr (.inl ⟨_, _, rfl, rfl, h.1, h.2⟩)
  · exact .inr (.inr h)
def w_add (ha : WE X a ta wa) (hb : WE X b tb wb) := show WE X (.BinOp a .Add b pos) _ (wOp sAdd wa wb) from w_bin (OpR.or op_add (OpR.or op_add_str op_catW)) (ro_or (ro_I0 fun _ _ _ => .int _) (ro_or ro_catS ro_catL (t := fun u w μ P => sCatS u w μ P ∨ sCatL u w μ P) fun _ _ _ _ h => h) fun _ _ _ _ => add_cases) ha hb
abbrev sSub : WR := sI0 fun i j => .int (i - j)
abbrev sMul : WR := sI CMul fun i j => .int (i * j)
abbrev sFdiv : WR := sI CDivN fun i j => .int (i.fdiv j)
abbrev sMod : WR := sI (fun _ j => 0 < j) fun i j => .int (i % j)
abbrev sPow : WR := sI CPow fun i j => .int (i ^ j.toNat)
abbrev sShl : WR := sI CPow fun i j => .int (i * 2 ^ j.toNat)
abbrev sShr : WR := sI (fun _ j => 0 ≤ j) fun i j => .int (i / 2 ^ j.toNat)
abbrev sBand : WR := sI0 fun i j => .int (Builtin.bitAnd i j)
def w_sub (ha : WE X a ta wa) (hb : WE X b tb wb) := show WE X (.BinOp a .Sub b pos) _ (wOp sSub wa wb) from w_bin op_sub (ro_I0 fun _ _ _ => .int _) ha hb
def w_mul (ha : WE X a ta wa) (hb : WE X b tb wb) := show WE X (.BinOp a .Mult b pos) _ (wOp sMul wa wb) from w_bin op_mul (ro_I fun _ _ _ => .int _) ha hb
def w_fdiv (ha : WE X a ta wa) (hb : WE X b tb wb) := show WE X (.BinOp a .FloorDiv b pos) _ (wOp sFdiv wa wb) from w_bin op_fdivN (ro_I fun _ _ _ => .int _) ha hb
def w_mod (ha : WE X a ta wa) (hb : WE X b tb wb) := show WE X (.BinOp a .Mod b pos) _ (wOp sMod wa wb) from w_bin op_mod (ro_I fun _ _ _ => .int _) ha hb
def w_pow (ha : WE X a ta wa) (hb : WE X b tb wb) := show WE X (.BinOp a .Pow b pos) _ (wOp sPow wa wb) from w_bin op_pow (ro_I fun _ _ _ => .int _) ha hb
def w_shl (ha : WE X a ta wa) (hb : WE X b tb wb) := show WE X (.BinOp a .LShift b pos) _ (wOp sShl wa wb) from w_bin op_shl (ro_I fun _ _ _ => .int _) ha hb
def w_shr (ha : WE X a ta wa) (hb : WE X b tb wb) := show WE X (.BinOp a .RShift b pos) _ (wOp sShr wa wb) from w_bin op_shr (ro_I fun _ _ _ => .int _) ha hb
def w_band (ha : WE X a ta wa) (hb : WE X b tb wb) := show WE X (.BinOp a .BitAnd b pos) _ (wOp sBand wa wb) from w_bin op_and (ro_I0 fun _ _ _ => .int _) ha hb
def wNeg (w : WX) : WX := fun ρ μ P => w ρ μ fun u μ1 => ∃ i, u = .d (.int i) ∧ P (.d (.int (-i))) μ1
theorem w_neg (ha : WE X a ta wa) : WE X (.UnaryOp .USub a pos) (tUn (rU fun i => .int (-i)) ta) (wNeg wa) := ⟨pe_un un_neg ha.pe, fun F G H μ σ ρ P Q S w q => ha.re F G H μ σ ρ _ _ S w fun v u G1 H1 μ1 e1 S1 r1 ⟨i, e, p⟩ => by
  subst e
  exact ⟨i, rp_int r1, q (.int (-i)) (.d (.int (-i))) G1 H1 μ1 e1 S1 (Rp.int _) p⟩⟩
end

/-! ### truth of any thing -/
def truU (μ : Mu) : U → Option Bool
  | .d .none => some false
  | .d (.bool b) => some b
  | .d (.int i) => some (i != 0)
  | .d (.list l) => some (!l.isEmpty)
  | .d (.tuple l) => some (!l.isEmpty)
  | .r a => (match μ a with
    | some (.lst us) => some (!us.isEmpty)
    | some (.dct us) => some (!us.isEmpty)
    | _ => none)
  | _ => none
def wTru (a : WX) : WB := fun ρ μ P => a ρ μ fun x μ1 => ∃ b, truU μ1 x = some b ∧ P b μ1
section
variable {K : Fg} {X : Cx} {pos : Pos} {a : Expr} {ta : TE} {wa : WX}
theorem rt_tru (h : RE K ta wa) : RT K (fun σ H Q => ta σ H fun x H' => ∃ k, TruV K x H' k ∧ Q k H') (wTru wa) := fun F G H μ σ ρ P Q S w q => h F G H μ σ ρ _ _ S w fun v u G1 H1 μ1 e1 S1 r1 ⟨b, hb, p⟩ => by
  refine ⟨b, ?_, q b G1 H1 μ1 e1 S1 p⟩
  cases u with
  | d z =>
    cases z with
    | none => rw [rp_non r1]; exact (Option.some.inj hb).symm
    | bool c => rw [rp_bl r1]; exact (Option.some.inj hb).symm
    | int c => rw [rp_int r1]; exact (Option.some.inj hb).symm
    | str c => cases hb
    | list l =>
      obtain ⟨x, vs, rfl, h1, h2⟩ := rp_lst r1
      exact .inl ⟨vs, sqlE S1.sub h1, by rw [isEmpty_len h2.length]; exact (Option.some.inj hb).symm⟩
    | tuple l =>
      obtain ⟨x, vs, rfl, h1, h2⟩ := rp_tup r1
      exact .inr (.inl ⟨vs, h1.sq S1.sub, by rw [isEmpty_len h2.length]; exact (Option.some.inj hb).symm⟩)
    | dict l => cases hb
  | r x =>
    have hb' : (match μ1 x with
      | some (.lst us) => some (!us.isEmpty)
      | some (.dct us) => some (!us.isEmpty)
      | _ => none) = some b := hb
    rw [show v = .ref x from r1]
    cases hm : μ1 x with
    | none => rw [hm] at hb'; cases hb'
    | some m =>
      rw [hm] at hb'
      cases m with
      | lst us =>
        obtain ⟨vs, h1, h2⟩ := S1.lst hm
        exact .inl ⟨vs, SqL.of h1, by rw [isEmpty_len h2.length]; exact (Option.some.inj hb').symm⟩
      | dct us =>
        obtain ⟨_, kws, h1, h2⟩ := S1.mu _ _ hm
        exact .inr (.inr ⟨kws, h1, by rw [isEmpty_len (rkv_len h2)]; exact (Option.some.inj hb').symm⟩)
      | hand => cases hb'
theorem w_tru (h : WE X a ta wa) (he : ∀ whole, isTrue a X.env whole = (do let v ← whole; standAt a.pos; holding [v] (truthy v)) := by intro _; rfl) : WT X a (fun σ H Q => ta σ H fun x H' => ∃ k, TruV X.K x H' k ∧ Q k H') (wTru wa) := ⟨pt_truth h.pe he, rt_tru h.re⟩
end

/-! ### built-in calls, whatever the kinds -/
def qLenA : WQ := fun us μ P => match us with
  | [.d (.str z)] => z.length ≤ sizeLine ∧ P (.d (.int (z.length : Int))) μ
  | us => qLen us μ P
def qMinA : WQ := fun us μ P => match us with
  | [.d (.int i), .d (.int j)] => P (.d (.int (if j < i then j else i))) μ
  | us => qMinS us μ P
def isDct (μ : Mu) : U → Bool
  | .r a => (match μ a with
    | some (.dct _) => true
    | _ => false)
  | _ => false
def qSortA : WQ := fun us μ P => match us with
  | [u] => if isDct μ u = true then qSortD us μ P else qSortS us μ P
  | _ => False
section
variable {K : Fg} {X : Cx} {pos p : Pos} {e : Expr} {es : List Expr} {t : TA} {w : WL} {x : Str}
theorem or_Q {f : Value} {r r' : List V → Hp → VK → Prop} (h : CallR X f r) (h' : CallR X f r') : CallR X f (fun xs H Q => r xs H Q ∨ r' xs H Q) := CallR.or h h'
def w_len (hg : Gl X "len") (hm : X.mg "len" = none) (ha : WAr X (e :: es) t w) (he : starEach (e :: es) X.env = (false, eval e X.env) :: starEach es X.env := by rfl) (hpl : (backTo pos (starEach es X.env)).any (·.1) = false := by rfl) := show WE X (.Call (.Name "len" p) (e :: es) [] pos) _ (wQ qLenA w) from w_qb (or_Q call_len_seq call_len_str) (rq_or rq_len rq_lenS (t := qLenA) fun us μ P h => by
      unfold qLenA at h
      split at h
      · exact .inr ⟨_, rfl, h.1, h.2⟩
      · exact .inl h) hg hm boot_len ha (by decide) (by decide) he hpl
def w_abs (hg : Gl X "abs") (hm : X.mg "abs" = none) (ha : WAr X (e :: es) t w) (he : starEach (e :: es) X.env = (false, eval e X.env) :: starEach es X.env := by rfl) (hpl : (backTo pos (starEach es X.env)).any (·.1) = false := by rfl) := show WE X (.Call (.Name "abs" p) (e :: es) [] pos) _ (wQ qAbs w) from w_qb call_abs rq_abs hg hm boot_abs ha (by decide) (by decide) he hpl
theorem boot_min' : bootBuiltins "min" = some (.builtin "min") := by decide +kernel
theorem boot_max' : bootBuiltins "max" = some (.builtin "max") := by decide +kernel
theorem boot_int' : bootBuiltins "int" = some (.type "int") := by decide +kernel
theorem boot_str' : bootBuiltins "str" = some (.type "str") := by decide +kernel
theorem boot_list' : bootBuiltins "list" = some (.type "list") := by decide +kernel
theorem boot_tuple' : bootBuiltins "tuple" = some (.type "tuple") := by decide +kernel
theorem boot_bool' : bootBuiltins "bool" = some (.type "bool") := by decide +kernel
def w_min (hc : X.calm = true) (hg : Gl X "min") (hm : X.mg "min" = none) (ha : WAr X (e :: es) t w) (he : starEach (e :: es) X.env = (false, eval e X.env) :: starEach es X.env := by rfl) (hpl : (backTo pos (starEach es X.env)).any (·.1) = false := by rfl) := show WE X (.Call (.Name "min" p) (e :: es) [] pos) _ (wQ qMinA w) from w_qb (or_Q (call_min2 hc) (L3M.call_minS hc)) (rq_or rq_min2 rq_minS (t := qMinA) fun us μ P h => by
      unfold qMinA at h
      split at h
      · exact .inl ⟨_, _, rfl, h⟩
      · exact .inr h) hg hm boot_min' ha (by decide) (by decide) he hpl
def w_max (hc : X.calm = true) (hg : Gl X "max") (hm : X.mg "max" = none) (ha : WAr X (e :: es) t w) (he : starEach (e :: es) X.env = (false, eval e X.env) :: starEach es X.env := by rfl) (hpl : (backTo pos (starEach es X.env)).any (·.1) = false := by rfl) := show WE X (.Call (.Name "max" p) (e :: es) [] pos) _ (wQ qMax2 w) from w_qb (call_max2 hc) rq_max2 hg hm boot_max' ha (by decide) (by decide) he hpl
def w_sorted (hc : X.calm = true) (hg : Gl X "sorted") (hm : X.mg "sorted" = none) (ha : WAr X (e :: es) t w) (he : starEach (e :: es) X.env = (false, eval e X.env) :: starEach es X.env := by rfl) (hpl : (backTo pos (starEach es X.env)).any (·.1) = false := by rfl) := show WE X (.Call (.Name "sorted" p) (e :: es) [] pos) _ (wQ qSortA w) from w_qb (or_Q cr_sortedS (call_sortedD hc)) (rq_or rq_sortS rq_sortD (t := qSortA) fun us μ P h => by
      unfold qSortA at h
      split at h
      · split at h
        · exact .inr h
        · exact .inl h
      · exact h.elim) hg hm boot_sorted ha (by decide) (by decide) he hpl
def w_intc (hg : Gl X "int") (hm : X.mg "int" = none) (ha : WAr X (e :: es) t w) (he : starEach (e :: es) X.env = (false, eval e X.env) :: starEach es X.env := by rfl) (hpl : (backTo pos (starEach es X.env)).any (·.1) = false := by rfl) := show WE X (.Call (.Name "int" p) (e :: es) [] pos) _ (wQ qInt w) from w_qt call_int1 rq_int hg hm boot_int' ha (by decide) (by decide) he hpl
def w_strc (hg : Gl X "str") (hm : X.mg "str" = none) (ha : WAr X (e :: es) t w) (he : starEach (e :: es) X.env = (false, eval e X.env) :: starEach es X.env := by rfl) (hpl : (backTo pos (starEach es X.env)).any (·.1) = false := by rfl) := show WE X (.Call (.Name "str" p) (e :: es) [] pos) _ (wQ qStr w) from w_qt call_str_int rq_str hg hm boot_str' ha (by decide) (by decide) he hpl
def w_listc (hg : Gl X "list") (hm : X.mg "list" = none) (ha : WAr X (e :: es) t w) (he : starEach (e :: es) X.env = (false, eval e X.env) :: starEach es X.env := by rfl) (hpl : (backTo pos (starEach es X.env)).any (·.1) = false := by rfl) := show WE X (.Call (.Name "list" p) (e :: es) [] pos) _ (wQ qList w) from w_qt call_list_of rq_list hg hm boot_list' ha (by decide) (by decide) he hpl
def w_listcM (hg : Gl X "list") (hm : X.mg "list" = none) (ha : WAr X (e :: es) t w) (he : starEach (e :: es) X.env = (false, eval e X.env) :: starEach es X.env := by rfl) (hpl : (backTo pos (starEach es X.env)).any (·.1) = false := by rfl) := show WE X (.Call (.Name "list" p) (e :: es) [] pos) _ (wQ qListM w) from w_qt call_list_of rq_listM hg hm boot_list' ha (by decide) (by decide) he hpl
def w_tuplec (hg : Gl X "tuple") (hm : X.mg "tuple" = none) (ha : WAr X (e :: es) t w) (he : starEach (e :: es) X.env = (false, eval e X.env) :: starEach es X.env := by rfl) (hpl : (backTo pos (starEach es X.env)).any (·.1) = false := by rfl) := show WE X (.Call (.Name "tuple" p) (e :: es) [] pos) _ (wQ qTuple w) from w_qt call_tuple_of rq_tuple hg hm boot_tuple' ha (by decide) (by decide) he hpl
end
/-! ### methods -/
def mPopA : WM := mPop
def mExtL : WM := fun u vs μ P => ∃ (a b : Addr) (us : List U) (ws : List U), u = .r a ∧ vs = [.r b] ∧ μ a = some (.lst us) ∧ μ b = some (.lst ws) ∧ us.length + ws.length ≤ sizeLine ∧ P (.d .none) (put μ a (.lst (us ++ ws)))
def mExtF : WM := fun u vs μ P => ∃ (a : Addr) (us : List U) (ds : List PyData), u = .r a ∧ vs = [.d (.list ds)] ∧ μ a = some (.lst us) ∧ us.length + ds.length ≤ sizeLine ∧ P (.d .none) (put μ a (.lst (us ++ ds.map .d)))
def mExtend : WM := fun u vs μ P => match vs with
  | [.d (.tuple _)] => mExtendT u vs μ P
  | _ => False
section
variable {K : Fg} {X : Cx} {pos apos cpos p : Pos} {o e : Expr} {es : List Expr} {to te : TE} {wo we : WX} {t : TA} {w : WL}
def w_append (ho : WE X o to wo) (ha : WAr X [e] t w)
    (hbase : attributeBase o "append" X.env (eval o X.env) = eval o X.env := by rfl)
    (hfew : ((backTo cpos (starEach [e] X.env)).all (fun x => !x.1) && (backToKw cpos (keywordEach [] X.env)).all (fun x => x.1.isSome)
      && decide (([e] : List Expr).length + ([] : List Keyword).length + (if ([] : List Keyword).isEmpty then 0 else 1) < 30)) = true := by rfl)
    (hline : (apos.endLine == cpos.line) = true := by rfl) (hs : starEach [e] X.env = (false, eval e X.env) :: starEach [] X.env := by rfl) (hplain : (backTo cpos (starEach [] X.env)).any (·.1) = false := by rfl) := show WE X (.Call (.Attribute o "append" apos) [e] [] cpos) _ (wML mAppend wo w) from w_bm PySem.F.slot_list_append PySem.F.type_list_append mt_append rm_append ho ha hbase hfew hline hs hplain
def w_extend (ho : WE X o to wo) (ha : WAr X [e] t w)
    (hbase : attributeBase o "extend" X.env (eval o X.env) = eval o X.env := by rfl)
    (hfew : ((backTo cpos (starEach [e] X.env)).all (fun x => !x.1) && (backToKw cpos (keywordEach [] X.env)).all (fun x => x.1.isSome)
      && decide (([e] : List Expr).length + ([] : List Keyword).length + (if ([] : List Keyword).isEmpty then 0 else 1) < 30)) = true := by rfl)
    (hline : (apos.endLine == cpos.line) = true := by rfl) (hs : starEach [e] X.env = (false, eval e X.env) :: starEach [] X.env := by rfl) (hplain : (backTo cpos (starEach [] X.env)).any (·.1) = false := by rfl) := show WE X (.Call (.Attribute o "extend" apos) [e] [] cpos) _ (wML mExtend wo w) from w_bm PySem.F.slot_list_extend PySem.F.type_list_extend (MtR.or mt_extT mt_extT) (rm_or rm_extT rm_extT (t := mExtend) fun u us μ P h => by
      unfold mExtend at h
      split at h
      · exact .inl h
      · exact h.elim) ho ha hbase hfew hline hs hplain
def w_popAt (ho : WE X o to wo) (ha : WAr X [e] t w)
    (hbase : attributeBase o "pop" X.env (eval o X.env) = eval o X.env := by rfl)
    (hfew : ((backTo cpos (starEach [e] X.env)).all (fun x => !x.1) && (backToKw cpos (keywordEach [] X.env)).all (fun x => x.1.isSome)
      && decide (([e] : List Expr).length + ([] : List Keyword).length + (if ([] : List Keyword).isEmpty then 0 else 1) < 30)) = true := by rfl)
    (hline : (apos.endLine == cpos.line) = true := by rfl) (hs : starEach [e] X.env = (false, eval e X.env) :: starEach [] X.env := by rfl) (hplain : (backTo cpos (starEach [] X.env)).any (·.1) = false := by rfl) := show WE X (.Call (.Attribute o "pop" apos) [e] [] cpos) _ (wML mPopAt wo w) from w_bm PySem.F.slot_list_pop PySem.F.type_list_pop mt_popAt rm_popAt ho ha hbase hfew hline hs hplain
def w_pop (ho : WE X o to wo) (hbase : attributeBase o "pop" X.env (eval o X.env) = eval o X.env := by rfl) (hline : (apos.endLine == cpos.line) = true := by rfl) := show WE X (.Call (.Attribute o "pop" apos) [] [] cpos) _ (wML mPop wo wNil) from w_bm0 PySem.F.slot_list_pop PySem.F.type_list_pop mt_pop rm_pop ho hbase hline
def w_reverse (ho : WE X o to wo) (hbase : attributeBase o "reverse" X.env (eval o X.env) = eval o X.env := by rfl) (hline : (apos.endLine == cpos.line) = true := by rfl) := show WE X (.Call (.Attribute o "reverse" apos) [] [] cpos) _ (wML mReverse wo wNil) from w_bm0 PySem.F.slot_list_reverse PySem.F.type_list_reverse mt_reverse rm_reverse ho hbase hline
end
/-! ### slices of lists, tuples -/
def wSl (w : WX) (l h : WO) : WX := fun ρ μ P => w ρ μ fun u μ1 => l ρ μ1 fun lo μ2 => h ρ μ2 fun hi μ3 => match u with
  | .d (.tuple ds) => P (.d (.tuple (cutL ds lo hi))) μ3
  | u => ∃ ds : List PyData, listU μ3 u = some (ds.map U.d) ∧ P (.d (.list (cutL ds lo hi))) μ3
section
variable {K : Fg} {X : Cx} {pos p2 : Pos} {e : Expr} {lo hi : Option Expr} {te : TE} {we : WX} {tl th : TO} {wl wh : WO}
theorem re_sl (h : RE K te we) (hl : RPt K tl wl) (hh : RPt K th wh) : RE K (tSl (fun x lo hi H Q => rSlL K x lo hi H Q ∨ rSlA K x lo hi H Q) te tl th) (wSl we wl wh) := fun F G H μ σ ρ P Q S w q => h F G H μ σ ρ _ _ S w fun v u G1 H1 μ1 e1 S1 r1 p1 =>
  hl F G1 H1 μ1 σ ρ _ _ (S.mono e1 S1) p1 fun lo G2 H2 μ2 e2 S2 p2 => hh F G2 H2 μ2 σ ρ _ _ (S.mono (e1.trans e2) S2) p2 fun hi G3 H3 μ3 e3 S3 p3 => by
    by_cases ht : ∃ ds, u = .d (.tuple ds)
    · obtain ⟨ds, rfl⟩ := ht
      have p3 : P (.d (.tuple (cutL ds lo hi))) μ3 := p3
      have r3 : Ru K G3 v (.d (.tuple ds)) := (r1.mono e2).mono e3
      obtain ⟨a, vs, rfl, h1, h2⟩ := rp_tup r3
      have hl := h2.length
      refine .inr ⟨a, vs, rfl, h1.sq S3.sub, fun hw => ?_, fun _ l hl => ?_⟩
      · rw [hl] at hw
        rw [cut_all ds lo hi hw] at p3
        exact q (.ref a) (.d (.tuple ds)) _ _ μ3 ((e1.trans e2).trans e3) S3 r3 p3
      · obtain ⟨e4, S4⟩ := S3.newG (o := .tup (cutV vs lo hi)) hl
        have r4 := rus_cut lo hi (rus_d h2)
        rw [cut_map] at r4
        exact q (.ref l) (.d (.tuple (cutL ds lo hi))) _ _ μ3 (((e1.trans e2).trans e3).trans e4) S4 (Rp.tup (.inl upd_same) ((d_rus r4).mono e4)) p3
    · have p3 : ∃ ds : List PyData, listU μ3 u = some (ds.map U.d) ∧ P (.d (.list (cutL ds lo hi))) μ3 := by
        revert p3
        cases u with
        | d z =>
          cases z with
          | tuple l => exact fun _ => absurd ⟨l, rfl⟩ ht
          | _ => exact fun h => h
        | r a => exact fun h => h
      obtain ⟨ds, hd, p3⟩ := p3
      obtain ⟨a, vs, rfl, h1, h2⟩ := listU_ok S3 ((r1.mono e2).mono e3) hd
      refine .inl ⟨a, vs, rfl, h1, fun l hl => ?_⟩
      obtain ⟨e4, S4⟩ := S3.newG (o := .lst (cutV vs lo hi)) hl
      have r4 := rus_cut lo hi h2
      rw [cut_map] at r4
      exact q (.ref l) (.d (.list (cutL ds lo hi))) _ _ μ3 (((e1.trans e2).trans e3).trans e4) S4 (Rp.lst (SqL.of upd_same) ((d_rus r4).mono e4)) p3
def w_sl (h : WE X e te we) (hl : WPo X lo tl wl) (hh : WPo X hi th wh) := show WE X (.Subscript e (.Slice lo hi none p2) pos) _ (wSl we wl wh) from ⟨pe_slice (SlR.or sl_list sl_tupA) h.pe hl.po hh.po, re_sl h.re hl.rp hh.rp⟩
end

/-! ### comprehensions with one place -/
section
variable {X : Cx} {elt tg iter : Expr} {ifs : List Expr} {scope : Scope} {pos : Pos} {wi : TI} {wj : WIt} {g : TG} {wg : WTg} {tt : TT} {wt : WB} {te : TE} {we : WX}
theorem w_lc1 (v : Str) (k : Nat) (hc : X.calm = true) (hN : X.N.Nodup) (hi : WI X tg iter wi wj) (ok : BlkOk X.N X.env.scope scope [(v, k)]) (go : GOnly g [k]) (_ : WG (X.blk X.s_0 X.H_0 scope (compEnvC scope [] 0 X.env) []) tg g wg) (_ : WTs (X.blk X.s_0 X.H_0 scope (compEnvC scope [] 0 X.env) []) ifs tt wt) (_ : WE (X.blk X.s_0 X.H_0 scope (compEnvC scope [] 0 X.env) []) elt te we)
    (hg : ∀ (s : Shared) (H : Hp) (C : Addr) (cl : List (Str × Addr)) (fp : List Addr), WG (X.blk s H scope (compEnvC scope cl C X.env) fp) tg g wg) (ht : ∀ (s : Shared) (H : Hp) (C : Addr) (cl : List (Str × Addr)) (fp : List Addr), WTs (X.blk s H scope (compEnvC scope cl C X.env) fp) ifs tt wt)
    (he : ∀ (s : Shared) (H : Hp) (C : Addr) (cl : List (Str × Addr)) (fp : List Addr), WE (X.blk s H scope (compEnvC scope cl C X.env) fp) elt te we) (hs : ∀ x, foldedSetIterable iter X.env x = pure x := by intro _; rfl) :
    WE X (.ListComp elt [⟨tg, iter, ifs, 0⟩] scope pos) (tLc wi g tt te [k]) (wLc wj [k] wg wt we) := w_lc (own := [(v, k)]) hc hN hi ok go hg ht he hs
theorem w_setLc1 (i : Nat) (v : Str) (k : Nat) {y : Str} {py spos : Pos} (hc : X.calm = true) (hN : X.N.Nodup) (hsw : swapsWith (.ListComp elt [⟨tg, iter, ifs, 0⟩] scope pos) (some (.Name y py)) spos.line X.env = pure true) (hi : WI X tg iter wi wj) (ok : BlkOk X.N X.env.scope scope [(v, k)]) (go : GOnly g [k]) (_ : WG (X.blk X.s_0 X.H_0 scope (compEnvC scope [] 0 X.env) []) tg g wg) (_ : WTs (X.blk X.s_0 X.H_0 scope (compEnvC scope [] 0 X.env) []) ifs tt wt) (_ : WE (X.blk X.s_0 X.H_0 scope (compEnvC scope [] 0 X.env) []) elt te we)
    (hg : ∀ (s : Shared) (H : Hp) (C : Addr) (cl : List (Str × Addr)) (fp : List Addr), WG (X.blk s H scope (compEnvC scope cl C X.env) fp) tg g wg) (ht : ∀ (s : Shared) (H : Hp) (C : Addr) (cl : List (Str × Addr)) (fp : List Addr), WTs (X.blk s H scope (compEnvC scope cl C X.env) fp) ifs tt wt)
    (he : ∀ (s : Shared) (H : Hp) (C : Addr) (cl : List (Str × Addr)) (fp : List Addr), WE (X.blk s H scope (compEnvC scope cl C X.env) fp) elt te we) (hy : X.N[i]? = some y := by rfl) (hyl : X.env.scope.names.lookup y = some .local := by rfl) (hs : ∀ x, foldedSetIterable iter X.env x = pure x := by intro _; rfl) :
    WS X (.Assign [.Name y py] (.ListComp elt [⟨tg, iter, ifs, 0⟩] scope pos) spos) (tAsg (tLc wi g tt te [k]) (gName i)) (wAsg (wLc wj [k] wg wt we) (gN i)) := w_setLc i (own := [(v, k)]) hc hN hsw hi ok go hg ht he hy hyl hs
theorem w_lcM1 (v : Str) (k : Nat) (hc : X.calm = true) (hN : X.N.Nodup) (hi : WI X tg iter wi wj) (ok : BlkOk X.N X.env.scope scope [(v, k)]) (go : GOnly g [k]) (_ : WG (X.blk X.s_0 X.H_0 scope (compEnvC scope [] 0 X.env) []) tg g wg) (_ : WTs (X.blk X.s_0 X.H_0 scope (compEnvC scope [] 0 X.env) []) ifs tt wt) (_ : WE (X.blk X.s_0 X.H_0 scope (compEnvC scope [] 0 X.env) []) elt te we)
    (hg : ∀ (s : Shared) (H : Hp) (C : Addr) (cl : List (Str × Addr)) (fp : List Addr), WG (X.blk s H scope (compEnvC scope cl C X.env) fp) tg g wg) (ht : ∀ (s : Shared) (H : Hp) (C : Addr) (cl : List (Str × Addr)) (fp : List Addr), WTs (X.blk s H scope (compEnvC scope cl C X.env) fp) ifs tt wt)
    (he : ∀ (s : Shared) (H : Hp) (C : Addr) (cl : List (Str × Addr)) (fp : List Addr), WE (X.blk s H scope (compEnvC scope cl C X.env) fp) elt te we) (hs : ∀ x, foldedSetIterable iter X.env x = pure x := by intro _; rfl) :
    WE X (.ListComp elt [⟨tg, iter, ifs, 0⟩] scope pos) (tLc wi g tt te [k]) (wLcM wj [k] wg wt we) := w_lcM (own := [(v, k)]) hc hN hi ok go hg ht he hs
theorem w_setLcM1 (i : Nat) (v : Str) (k : Nat) {y : Str} {py spos : Pos} (hc : X.calm = true) (hN : X.N.Nodup) (hsw : swapsWith (.ListComp elt [⟨tg, iter, ifs, 0⟩] scope pos) (some (.Name y py)) spos.line X.env = pure true) (hi : WI X tg iter wi wj) (ok : BlkOk X.N X.env.scope scope [(v, k)]) (go : GOnly g [k]) (_ : WG (X.blk X.s_0 X.H_0 scope (compEnvC scope [] 0 X.env) []) tg g wg) (_ : WTs (X.blk X.s_0 X.H_0 scope (compEnvC scope [] 0 X.env) []) ifs tt wt) (_ : WE (X.blk X.s_0 X.H_0 scope (compEnvC scope [] 0 X.env) []) elt te we)
    (hg : ∀ (s : Shared) (H : Hp) (C : Addr) (cl : List (Str × Addr)) (fp : List Addr), WG (X.blk s H scope (compEnvC scope cl C X.env) fp) tg g wg) (ht : ∀ (s : Shared) (H : Hp) (C : Addr) (cl : List (Str × Addr)) (fp : List Addr), WTs (X.blk s H scope (compEnvC scope cl C X.env) fp) ifs tt wt)
    (he : ∀ (s : Shared) (H : Hp) (C : Addr) (cl : List (Str × Addr)) (fp : List Addr), WE (X.blk s H scope (compEnvC scope cl C X.env) fp) elt te we) (hy : X.N[i]? = some y := by rfl) (hyl : X.env.scope.names.lookup y = some .local := by rfl) (hs : ∀ x, foldedSetIterable iter X.env x = pure x := by intro _; rfl) :
    WS X (.Assign [.Name y py] (.ListComp elt [⟨tg, iter, ifs, 0⟩] scope pos) spos) (tAsg (tLc wi g tt te [k]) (gName i)) (wAsg (wLcM wj [k] wg wt we) (gN i)) := w_setLcM i (own := [(v, k)]) hc hN hsw hi ok go hg ht he hy hyl hs
end

/-! ### the scope that stands in a comprehension -/
def relS (sc S : Scope) : Scope := { sc with names := sc.names.map fun (n, k) => if (k == NameKind.free && S.kind == .function && S.names.lookup n == some .cell) then (n, NameKind.cell) else (n, k) }
theorem relS_eq (sc : Scope) (env : Env) : relabel sc env = relS sc env.scope := rfl
/-! ### comprehensions with several places -/
theorem gso_consN {i : Nat} {ts : TGs} {vs : List Nat} (h : i ∈ vs) (t : GsOnly ts vs) : GsOnly (gCons (gName i) ts) vs := fun xs σ H Q ⟨v, r, e, q⟩ => by
  have e0 : wipe (σ.set i (some v)) vs = wipe σ vs := (go_name h v σ H (fun σ2 _ => wipe σ2 vs = wipe (σ.set i (some v)) vs) rfl).1
  have q := t r (σ.set i (some v)) H Q q
  rw [e0] at q
  exact ⟨v, r, e, q⟩
theorem go_tup {K : Fg} {n : Nat} {ts : TGs} {vs : List Nat} (t : GsOnly ts vs) : GOnly (gTup K n ts) vs := fun v σ H Q ⟨a, xs, e, s, l, q⟩ => ⟨a, xs, e, s, l, t xs σ H Q q⟩
section
variable {X : Cx} {elt tg iter : Expr} {ifs : List Expr} {scope : Scope} {pos : Pos} {wi : TI} {wj : WIt} {g : TG} {wg : WTg} {tt : TT} {wt : WB} {te : TE} {we : WX}
theorem w_lcN (own : List (Str × Nat)) (vs : List Nat) (hv : own.map (·.2) = vs) (hc : X.calm = true) (hN : X.N.Nodup) (hi : WI X tg iter wi wj) (ok : BlkOk X.N X.env.scope scope own) (go : GOnly g vs) (_ : WG (X.blk X.s_0 X.H_0 scope (compEnvC scope [] 0 X.env) []) tg g wg) (_ : WTs (X.blk X.s_0 X.H_0 scope (compEnvC scope [] 0 X.env) []) ifs tt wt) (_ : WE (X.blk X.s_0 X.H_0 scope (compEnvC scope [] 0 X.env) []) elt te we)
    (hg : ∀ (s : Shared) (H : Hp) (C : Addr) (cl : List (Str × Addr)) (fp : List Addr), WG (X.blk s H scope (compEnvC scope cl C X.env) fp) tg g wg) (ht : ∀ (s : Shared) (H : Hp) (C : Addr) (cl : List (Str × Addr)) (fp : List Addr), WTs (X.blk s H scope (compEnvC scope cl C X.env) fp) ifs tt wt)
    (he : ∀ (s : Shared) (H : Hp) (C : Addr) (cl : List (Str × Addr)) (fp : List Addr), WE (X.blk s H scope (compEnvC scope cl C X.env) fp) elt te we) (hs : ∀ x, foldedSetIterable iter X.env x = pure x := by intro _; rfl) :
    WE X (.ListComp elt [⟨tg, iter, ifs, 0⟩] scope pos) (tLc wi g tt te vs) (wLc wj vs wg wt we) := by
  subst hv
  exact w_lc (own := own) hc hN hi ok go hg ht he hs
theorem w_setLcN (i : Nat) (own : List (Str × Nat)) (vs : List Nat) (hv : own.map (·.2) = vs) {y : Str} {py spos : Pos} (hc : X.calm = true) (hN : X.N.Nodup) (hsw : swapsWith (.ListComp elt [⟨tg, iter, ifs, 0⟩] scope pos) (some (.Name y py)) spos.line X.env = pure true) (hi : WI X tg iter wi wj) (ok : BlkOk X.N X.env.scope scope own) (go : GOnly g vs) (_ : WG (X.blk X.s_0 X.H_0 scope (compEnvC scope [] 0 X.env) []) tg g wg) (_ : WTs (X.blk X.s_0 X.H_0 scope (compEnvC scope [] 0 X.env) []) ifs tt wt) (_ : WE (X.blk X.s_0 X.H_0 scope (compEnvC scope [] 0 X.env) []) elt te we)
    (hg : ∀ (s : Shared) (H : Hp) (C : Addr) (cl : List (Str × Addr)) (fp : List Addr), WG (X.blk s H scope (compEnvC scope cl C X.env) fp) tg g wg) (ht : ∀ (s : Shared) (H : Hp) (C : Addr) (cl : List (Str × Addr)) (fp : List Addr), WTs (X.blk s H scope (compEnvC scope cl C X.env) fp) ifs tt wt)
    (he : ∀ (s : Shared) (H : Hp) (C : Addr) (cl : List (Str × Addr)) (fp : List Addr), WE (X.blk s H scope (compEnvC scope cl C X.env) fp) elt te we) (hy : X.N[i]? = some y := by rfl) (hyl : X.env.scope.names.lookup y = some .local := by rfl) (hs : ∀ x, foldedSetIterable iter X.env x = pure x := by intro _; rfl) :
    WS X (.Assign [.Name y py] (.ListComp elt [⟨tg, iter, ifs, 0⟩] scope pos) spos) (tAsg (tLc wi g tt te vs) (gName i)) (wAsg (wLc wj vs wg wt we) (gN i)) := by
  subst hv
  exact w_setLc i (own := own) hc hN hsw hi ok go hg ht he hy hyl hs
theorem w_lcMN (own : List (Str × Nat)) (vs : List Nat) (hv : own.map (·.2) = vs) (hc : X.calm = true) (hN : X.N.Nodup) (hi : WI X tg iter wi wj) (ok : BlkOk X.N X.env.scope scope own) (go : GOnly g vs) (_ : WG (X.blk X.s_0 X.H_0 scope (compEnvC scope [] 0 X.env) []) tg g wg) (_ : WTs (X.blk X.s_0 X.H_0 scope (compEnvC scope [] 0 X.env) []) ifs tt wt) (_ : WE (X.blk X.s_0 X.H_0 scope (compEnvC scope [] 0 X.env) []) elt te we)
    (hg : ∀ (s : Shared) (H : Hp) (C : Addr) (cl : List (Str × Addr)) (fp : List Addr), WG (X.blk s H scope (compEnvC scope cl C X.env) fp) tg g wg) (ht : ∀ (s : Shared) (H : Hp) (C : Addr) (cl : List (Str × Addr)) (fp : List Addr), WTs (X.blk s H scope (compEnvC scope cl C X.env) fp) ifs tt wt)
    (he : ∀ (s : Shared) (H : Hp) (C : Addr) (cl : List (Str × Addr)) (fp : List Addr), WE (X.blk s H scope (compEnvC scope cl C X.env) fp) elt te we) (hs : ∀ x, foldedSetIterable iter X.env x = pure x := by intro _; rfl) :
    WE X (.ListComp elt [⟨tg, iter, ifs, 0⟩] scope pos) (tLc wi g tt te vs) (wLcM wj vs wg wt we) := by
  subst hv
  exact w_lcM (own := own) hc hN hi ok go hg ht he hs
theorem w_setLcMN (i : Nat) (own : List (Str × Nat)) (vs : List Nat) (hv : own.map (·.2) = vs) {y : Str} {py spos : Pos} (hc : X.calm = true) (hN : X.N.Nodup) (hsw : swapsWith (.ListComp elt [⟨tg, iter, ifs, 0⟩] scope pos) (some (.Name y py)) spos.line X.env = pure true) (hi : WI X tg iter wi wj) (ok : BlkOk X.N X.env.scope scope own) (go : GOnly g vs) (_ : WG (X.blk X.s_0 X.H_0 scope (compEnvC scope [] 0 X.env) []) tg g wg) (_ : WTs (X.blk X.s_0 X.H_0 scope (compEnvC scope [] 0 X.env) []) ifs tt wt) (_ : WE (X.blk X.s_0 X.H_0 scope (compEnvC scope [] 0 X.env) []) elt te we)
    (hg : ∀ (s : Shared) (H : Hp) (C : Addr) (cl : List (Str × Addr)) (fp : List Addr), WG (X.blk s H scope (compEnvC scope cl C X.env) fp) tg g wg) (ht : ∀ (s : Shared) (H : Hp) (C : Addr) (cl : List (Str × Addr)) (fp : List Addr), WTs (X.blk s H scope (compEnvC scope cl C X.env) fp) ifs tt wt)
    (he : ∀ (s : Shared) (H : Hp) (C : Addr) (cl : List (Str × Addr)) (fp : List Addr), WE (X.blk s H scope (compEnvC scope cl C X.env) fp) elt te we) (hy : X.N[i]? = some y := by rfl) (hyl : X.env.scope.names.lookup y = some .local := by rfl) (hs : ∀ x, foldedSetIterable iter X.env x = pure x := by intro _; rfl) :
    WS X (.Assign [.Name y py] (.ListComp elt [⟨tg, iter, ifs, 0⟩] scope pos) spos) (tAsg (tLc wi g tt te vs) (gName i)) (wAsg (wLcM wj vs wg wt we) (gN i)) := by
  subst hv
  exact w_setLcM i (own := own) hc hN hsw hi ok go hg ht he hy hyl hs
end
/-! ### a def of the module under its name -/
structure Dn (K : Fg) (mg : Str → Option Value) (x : Str) (s : Stmt) : Prop where
  ex : ∃ (f : Addr) (fd : FuncData), FunD K x x (defArgs s) (defBody s) (defScope s) [] [] f fd ∧ mg x = some (.ref f)
theorem Dn.zero {P : Program} {w : World} {K : Fg} {mg : Str → Option Value} {base : Heap} {x : Str} {s : Stmt} {ps : List Str} (D : Dn K mg x s) (b : ∀ {f : Addr} {fd : FuncData}, FunD K x x (defArgs s) (defBody s) (defScope s) [] [] f fd → Binds K fd ps []) :
    C8.Cal P w K mg base 0 x (sp3 K fun _ _ _ => False) [] := by
  obtain ⟨f, fd, F, h⟩ := D.ex
  refine ⟨f, fd, ps, [], ⟨fun vs H Q E ⟨_, _, _, _, _, _, _, z, _⟩ => z.elim, fun A outer s H args us vs Q E _ _ _ _ ⟨_, _, _, _, _, _, _, z, _⟩ => z.elim⟩, h, F.kp, b F, .nil⟩

/-- the ends of a def's body -/
def E3 (μ : Mu) (Q : XP) : End3 := { nx := fun _ μ' => ∃ u2 μ2, Gv μ (.d .none) μ' u2 μ2 ∧ Q u2 μ2, rt := fun u μ' => ∃ u2 μ2, Gv μ u μ' u2 μ2 ∧ Q u2 μ2 }
theorem rtE {μ μ' : Mu} {Q : XP} {u : U} (q : Q u μ') : (E3 μ Q).rt u μ' := ⟨u, μ', .rfl, q⟩
theorem rtF {μ μ' : Mu} {Q : XP} {a : Addr} {ds : List PyData} (h : μ' a = some (.lst (ds.map U.d))) (q : Q (.d (.list ds)) (del μ' a)) : (E3 μ Q).rt (.r a) μ' := ⟨_, _, .frz h, q⟩
theorem rtD {μ μ' : Mu} {Q : XP} {u : U} (a : Addr) (h : (E3 μ Q).rt u (del μ' a)) : (E3 μ Q).rt u μ' := by
  obtain ⟨u2, μ2, g, q⟩ := h
  exact ⟨u2, μ2, .drop g, q⟩
theorem rtH {μ μ' : Mu} {Q : XP} {u : U} {a : Addr} {ns : List Int} {i r t : Int} (h : μ' a = some (.lst [.d (.list (ns.map .int)), .d (.int i), .d (.int r), .d (.int t)])) (h1 : ns.length ≤ 63) (h2 : ∀ x ∈ ns, 0 ≤ x) (h3 : 0 ≤ i) (h4 : i ≤ 63) (h5 : 0 ≤ r) (q : (E3 μ Q).rt u (put μ' a .hand)) : (E3 μ Q).rt u μ' := by
  obtain ⟨u2, μ2, g, q⟩ := q
  exact ⟨u2, μ2, .hand h h1 h2 h3 h4 h5 g, q⟩
theorem nxE {μ μ' : Mu} {ρ : Rho} {Q : XP} (q : Q (.d .none) μ') : (E3 μ Q).nx ρ μ' := ⟨_, μ', .rfl, q⟩

/-! ### the hand opened -/
def wOpen (i : Nat) (w : WSt) : WSt := fun B ρ μ => ∃ a, ρ[i]? = some (some (.r a)) ∧ μ a = some .hand ∧ ∀ (ns : List Int) (j r t : Int), ns.length ≤ 63 → (∀ x ∈ ns, 0 ≤ x) → 0 ≤ j → j ≤ 63 → 0 ≤ r → w B ρ (put μ a (.lst [.d (.list (ns.map .int)), .d (.int j), .d (.int r), .d (.int t)]))
theorem rs_open {K : Fg} {t : TS} {w : WSt} (i : Nat) (h : RS K t w) : RS K t (wOpen i w) := fun F G H μ σ ρ D B S L ⟨a, h1, h2, w⟩ => by
  obtain ⟨ns, j, r, z, l1, l2, l3, l4, l5, S'⟩ := S.st.openHand h2
  exact h F G H _ σ ρ D B ⟨S', S.len, S.sl⟩ L (w ns j r z l1 l2 l3 l4 l5)
theorem w_open {X : Cx} {s : List Stmt} {t : TS} {w : WSt} (i : Nat) (h : WSs X s t w) : WSs X s t (wOpen i w) := ⟨h.ps, rs_open i h.rs⟩

/-! ### loops by an invariant -/
theorem forGo_inv {g : WTg} {t : WSt} {Al : Mu → Prop} {us : List U} {B : End3} {ρ : Rho} {μ : Mu} (I : Nat → Rho → Mu → Prop) (h0 : I 0 ρ μ) (al : ∀ j ρ μ, I j ρ μ → Al μ)
    (step : ∀ (j : Nat) (hj : j < us.length) (ρ : Rho) (μ : Mu) (N : Rho → Mu → Prop), I j ρ μ → (∀ ρ' μ', I (j + 1) ρ' μ' → N ρ' μ') → g us[j] ρ μ fun ρ1 μ1 => t { B with nx := N, ct := N, bk := B.nx } ρ1 μ1)
    (fin : ∀ ρ μ, I us.length ρ μ → B.nx ρ μ) : forGo g t Al us B ρ μ := by
  have key : ∀ (k j : Nat) (ρ : Rho) (μ : Mu), us.length - j = k → j ≤ us.length → I j ρ μ → forGo g t Al (us.drop j) B ρ μ := by
    intro k
    induction k with
    | zero =>
      intro j ρ μ hk hj h
      have e : j = us.length := by omega
      subst e
      rw [List.drop_length]
      exact ⟨al _ _ _ h, fin _ _ h⟩
    | succ k ih =>
      intro j ρ μ hk hj h
      have hj' : j < us.length := by omega
      rw [List.drop_eq_getElem_cons hj']
      exact ⟨al _ _ _ h, step j hj' ρ μ _ h fun ρ' μ' h' => ih (j + 1) ρ' μ' (by omega) hj' h'⟩
  have := key us.length 0 ρ μ (by omega) (Nat.zero_le _) h0
  rwa [List.drop_zero] at this
theorem lcGo_inv {g : WTg} {wt : WB} {we : WX} {Al : Mu → Prop} {us : List U} {ρ : Rho} {μ : Mu} {P : List U → Mu → Prop} (I : Nat → List U → Mu → Prop) (h0 : I 0 [] μ) (al : ∀ j acc μ, I j acc μ → Al μ)
    (step : ∀ (j : Nat) (hj : j < us.length) (acc : List U) (μ : Mu) (N : List U → Mu → Prop), I j acc μ → (∀ acc' μ', I (j + 1) acc' μ' → N acc' μ') → g us[j] ρ μ fun ρ1 μ1 => wt ρ1 μ1 fun b μ2 => if b = true then we ρ1 μ2 fun y μ3 => acc.length < sizeLine ∧ N (acc ++ [y]) μ3 else N acc μ2)
    (fin : ∀ acc μ, I us.length acc μ → P acc μ) : lcGo g wt we Al us [] ρ μ P := by
  have key : ∀ (k j : Nat) (acc : List U) (μ : Mu), us.length - j = k → j ≤ us.length → I j acc μ → lcGo g wt we Al (us.drop j) acc ρ μ P := by
    intro k
    induction k with
    | zero =>
      intro j acc μ hk hj h
      have e : j = us.length := by omega
      subst e
      rw [List.drop_length]
      exact ⟨al _ _ _ h, fin _ _ h⟩
    | succ k ih =>
      intro j acc μ hk hj h
      have hj' : j < us.length := by omega
      rw [List.drop_eq_getElem_cons hj']
      exact ⟨al _ _ _ h, step j hj' acc μ _ h fun acc' μ' h' => ih (j + 1) acc' μ' (by omega) hj' h'⟩
  have := key us.length 0 [] μ (by omega) (Nat.zero_le _) h0
  rwa [List.drop_zero] at this

section
variable {P : Program} {w : World} {K : Fg} {mg : Str → Option Value} {base : Heap}
theorem fn3F {x : Str} {params : Arguments} {body : List Stmt} {scope : Scope} {f : Addr} {fd : FuncData} {N ps : List Str} {k : Nat} {s : WF} (Fd : FunD K x x params body scope [] [] f fd) (S : FnScope N ps scope)
    (len : ∀ us μ Q, s us μ Q → us.length = ps.length)
    (hbody : ∀ (cdv : Value) (A : Around) (outer : List Env) (sh : Shared) (H : Hp) (E : XK), Room k (A.deeper (envOfC x scope sh.heap.objs.size f cdv)) →
      ∃ t wt, WSs (cxOf CX0 P w K mg base N x scope f cdv A outer sh H E).nox body t wt ∧ ∀ us μ Q, s us μ Q → wt { nx := fun _ μ' => ∃ u2 μ2, Gv μ (.d .none) μ' u2 μ2 ∧ Q u2 μ2, rt := fun u μ' => ∃ u2 μ2, Gv μ u μ' u2 μ2 ∧ Q u2 μ2 } (start3 N us) μ) :
    FnOk P w K mg base C8.CX0 (k + 1) f fd ps (sp3 K s) := by
  refine FunD.ok Fd S (fun vs H Q E h => ?_) (fun cdv A outer sh H vs Q E hr h => ?_)
  · obtain ⟨us, F, G, μ, P, S, r, hs, q⟩ := h
    rw [r.length]
    exact len _ _ _ hs
  · obtain ⟨us, F, G, μ, Pz, S3, r, hs, q⟩ := h
    obtain ⟨t, wt, hw, hq⟩ := hbody cdv A outer sh H E hr
    refine ⟨t, PSs.nox hw.ps, hw.rs F G H μ (L2.start N vs) (start3 N us) _ _ (start_sim S3 r) ⟨?_, ?_, ?_, ?_⟩ (hq us μ Pz hs)⟩
    · rintro σ' G' H' ρ' μ' e S' ⟨u2, μ2, g, p⟩
      obtain ⟨G2, e2, S2, r2⟩ := g.go (v := .non) S'.st Rp.non
      exact q .non u2 G2 H' μ2 (e.trans e2) S2 r2 p
    · rintro v u G' H' μ' e S' r' ⟨u2, μ2, g, p⟩
      obtain ⟨G2, e2, S2, r2⟩ := g.go S' r'
      exact q v u2 G2 H' μ2 (e.trans e2) S2 r2 p
    · exact fun _ _ _ _ _ _ _ h => h.elim
    · exact fun _ _ _ _ _ _ _ h => h.elim
end
end L3

/-! sorted of data, a star in a row of parts, a list put behind another -/
namespace L3
open PySem PySem.Spec PyProof.Rows L2
def sortD (ds : List PyData) : List PyData := ds.mergeSort (PySem.W.dataLe false id)
theorem sortD_perm (ds : List PyData) : (sortD ds).Perm ds := List.mergeSort_perm _ _
theorem sortD_short {ds : List PyData} (h : ds.length ≤ 1) : sortD ds = ds := by
  match ds, h with
  | [], _ => unfold sortD; exact List.mergeSort_nil
  | [x], _ => exact List.mergeSort_singleton _
/-! ### alike data sort to one list -/
section
open PySem.W
mutual
theorem toks_inj : ∀ (x y : PyData) (l m : List (Int ⊕ List Nat)), alike x y = true → keyToks x ++ l = keyToks y ++ m → x = y ∧ l = m
  | .none, y, l, m, h, e => by
    cases y <;> simp [alike] at h
    simpa [keyToks] using e
  | .bool b, y, l, m, h, e => by
    cases y <;> simp [alike] at h
    rename_i c
    cases b <;> cases c <;> simp [keyToks] at e <;> simp [e]
  | .int b, y, l, m, h, e => by
    cases y <;> simp [alike] at h
    simp [keyToks] at e
    simp [e]
  | .str b, y, l, m, h, e => by
    cases y <;> simp [alike] at h
    simp only [keyToks, List.cons_append, List.nil_append, List.cons.injEq, Sum.inr.injEq] at e
    exact ⟨congrArg _ (str_of_cps e.1), e.2⟩
  | .list xs, y, l, m, h, e => by
    cases y <;> simp [alike] at h
    rename_i ys
    simp only [keyToks] at e
    obtain ⟨h1, h2⟩ := toksAll_inj xs ys l m h e
    exact ⟨by rw [h1], h2⟩
  | .tuple xs, y, l, m, h, e => by
    cases y <;> simp [alike] at h
    rename_i ys
    simp only [keyToks] at e
    obtain ⟨h1, h2⟩ := toksAll_inj xs ys l m h e
    exact ⟨by rw [h1], h2⟩
  | .dict _, y, l, m, h, e => by cases y <;> simp [alike] at h
theorem toksAll_inj : ∀ (xs ys : List PyData) (l m : List (Int ⊕ List Nat)), alikeAll xs ys = true → keyToksAll xs ++ l = keyToksAll ys ++ m → xs = ys ∧ l = m
  | [], [], l, m, _, e => by simpa [keyToksAll] using e
  | [], y :: ys, l, m, _, e => by simp [keyToksAll] at e
  | x :: xs, [], l, m, _, e => by simp [keyToksAll] at e
  | x :: xs, y :: ys, l, m, h, e => by
    simp only [alikeAll, Bool.and_eq_true] at h
    simp only [keyToksAll, List.cons_append, List.append_assoc, List.cons.injEq, true_and] at e
    obtain ⟨h1, h2⟩ := toks_inj x y _ _ h.1 e
    obtain ⟨h3, h4⟩ := toksAll_inj xs ys l m h.2 h2
    exact ⟨by rw [h1, h3], h4⟩
end
theorem le_anti {x y : PyData} (h : alike x y = true) (h1 : dataLe false id x y = true) (h2 : dataLe false id y x = true) : x = y := by
  have h1 : (!(listOrd itemOrd).blt (keyToks y) (keyToks x)) = true := h1
  have h2 : (!(listOrd itemOrd).blt (keyToks x) (keyToks y)) = true := h2
  have e := (listOrd itemOrd).total (keyToks x) (keyToks y) (by simpa using h2) (by simpa using h1)
  exact (toks_inj x y [] [] h (by rw [List.append_nil, List.append_nil]; exact e)).1
theorem le_trans' (x y z : PyData) (h1 : dataLe false id x y = true) (h2 : dataLe false id y z = true) : dataLe false id x z = true := by
  have h1 : (!(listOrd itemOrd).blt (keyToks y) (keyToks x)) = true := h1
  have h2 : (!(listOrd itemOrd).blt (keyToks z) (keyToks y)) = true := h2
  show (!(listOrd itemOrd).blt (keyToks z) (keyToks x)) = true
  cases h : (listOrd itemOrd).blt (keyToks z) (keyToks x) with
  | false => rfl
  | true =>
    rcases (listOrd itemOrd).negTrans _ (keyToks y) _ h with k | k
    · rw [k] at h2; cases h2
    · rw [k] at h1; cases h1
theorem le_total' (x y : PyData) : (dataLe false id x y || dataLe false id y x) = true := by
  show ((!(listOrd itemOrd).blt (keyToks y) (keyToks x)) || (!(listOrd itemOrd).blt (keyToks x) (keyToks y))) = true
  cases h : (listOrd itemOrd).blt (keyToks y) (keyToks x) with
  | false => rfl
  | true =>
    cases k : (listOrd itemOrd).blt (keyToks x) (keyToks y) with
    | false => rfl
    | true =>
      have := (listOrd itemOrd).trans _ _ _ h k
      rw [(listOrd itemOrd).irrefl] at this
      cases this
theorem uniq_sorted {α : Type} {r : α → α → Prop} : ∀ {xs ys : List α}, (∀ x ∈ xs, ∀ y ∈ ys, r x y → r y x → x = y) → xs.Pairwise r → ys.Pairwise r → xs.Perm ys → xs = ys
  | [], ys, _, _, _, p => (List.Perm.eq_nil p.symm).symm
  | x :: xs, [], _, _, _, p => absurd p.length_eq (by simp)
  | x :: xs, y :: ys, an, h1, h2, p => by
    have e : x = y := by
      rcases List.mem_cons.mp (p.mem_iff.mp (List.mem_cons_self (a := x) (l := xs))) with e | hx
      · exact e
      · rcases List.mem_cons.mp (p.mem_iff.mpr (List.mem_cons_self (a := y) (l := ys))) with e | hy
        · exact e.symm
        · exact an x (List.mem_cons_self ..) y (List.mem_cons_self ..) ((List.pairwise_cons.mp h1).1 y hy) ((List.pairwise_cons.mp h2).1 x hx)
    subst e
    rw [uniq_sorted (fun a ha b hb => an a (List.mem_cons_of_mem _ ha) b (List.mem_cons_of_mem _ hb)) (List.pairwise_cons.mp h1).2 (List.pairwise_cons.mp h2).2 p.cons_inv]
theorem sortD_eq {as bs : List PyData} (al : AllAlike as) (p : as.Perm bs) : sortD as = sortD bs := by
  have s1 := sortD_perm as
  have s2 := sortD_perm bs
  refine uniq_sorted (r := fun x y => dataLe false id x y = true) (fun x hx y hy h1 h2 => le_anti (al x (s1.mem_iff.mp hx) y (p.mem_iff.mpr (s2.mem_iff.mp hy))) h1 h2) ?_ ?_ ((s1.trans p).trans s2.symm)
  · exact List.pairwise_mergeSort le_trans' le_total' as
  · exact List.pairwise_mergeSort le_trans' le_total' bs
end
end L3

/-! sorted of data, a star in a row of parts, a list put behind another -/
namespace L3
open PySem PySem.Spec PyProof.Rows L2
/-! ### sorted(xs), xs a list of data -/
inductive ZAll (Z : V → PyData → Prop) : List V → List PyData → Prop
  | nil : ZAll Z [] []
  | cons {v : V} {d : PyData} {vs : List V} {ds : List PyData} : Z v d → ZAll Z vs ds → ZAll Z (v :: vs) (d :: ds)
theorem zall_rps {K : Fg} {G : Hp} : ∀ {vs : List V} {ds : List PyData}, ZAll (Rp K G) vs ds → Rps K G vs ds
  | _, _, .nil => .nil
  | _, _, .cons h t => .cons h (zall_rps t)
theorem rps_zall {K : Fg} {G : Hp} : ∀ {vs : List V} {ds : List PyData}, Rps K G vs ds → ZAll (Rp K G) vs ds
  | _, _, .nil => .nil
  | _, _, .cons h t => .cons h (rps_zall t)
theorem zall_len {Z : V → PyData → Prop} : ∀ {vs : List V} {ds : List PyData}, ZAll Z vs ds → vs.length = ds.length
  | _, _, .nil => rfl
  | _, _, .cons _ t => congrArg Nat.succ (zall_len t)
theorem zall_each {Z : V → PyData → Prop} : ∀ {vs : List V} {us : List Value} {ds : List PyData}, Vals vs us → ZAll Z vs ds → PySem.W.EachIs (fun u d => ∃ v, RelV v u ∧ Z v d) us ds
  | _, _, _, .nil, .nil => .nil
  | _, _, _, .cons r t, .cons h s => .cons ⟨_, r, h⟩ (zall_each t s)
theorem each_zall {Z : V → PyData → Prop} : ∀ {us : List Value} {ds : List PyData}, PySem.W.EachIs (fun u d => ∃ v, RelV v u ∧ Z v d) us ds → ∃ vs, Vals vs us ∧ ZAll Z vs ds
  | _, _, .nil => ⟨[], .nil, .nil⟩
  | _, _, .cons ⟨v, r, h⟩ t => by
    obtain ⟨vs, h1, h2⟩ := each_zall t
    exact ⟨v :: vs, .cons r h1, .cons h h2⟩
theorem perm_short {α : Type} : ∀ {l m : List α}, m.length ≤ 1 → l.Perm m → l = m
  | _, [], _, p => List.Perm.eq_nil p
  | _, [x], _, p => List.perm_singleton.mp p
  | _, _ :: _ :: _, h, _ => by simp at h
def rSortT (K : Fg) : List V → Hp → VK → Prop := fun vs H Q => ∃ (a : Addr) (xs : List V) (ds : List PyData) (Z : V → PyData → Prop), vs = [.ref a] ∧ SqL K H a xs ∧ DpAll K H xs ds ∧ ZAll Z xs ds ∧ (ds.length ≤ 1 ∨ PySem.W.AllAlike ds ∧ PySem.W.Sortable ds) ∧ (∀ d ∈ ds, d.depth ≤ 8) ∧
  ∀ ys p, ZAll Z ys (sortD ds) → H p = none → Q (.ref p) (upd H p (.lst ys))
theorem cr_sortedT {X : Cx} (hu : X.A.units + 64 < cLine) : CallR X (.builtin "sorted") (rSortT X.K) := by
  intro pins s σ H vs us Q I r h
  obtain ⟨a, xs, ds, Z, rfl, hs, hd, hz, ho, hdep, q⟩ := h
  obtain ⟨its, rv, hl, hsz⟩ := I.list hs
  rw [Vals.ref1 r]
  have hlen := zall_len hz
  have fin : ∀ (ys : List V) (out : List Value), Vals ys out → ZAll Z ys (sortD ds) → ∃ v H', Inv X pins σ H' { s with heap := PyProof.Rows.sortedAll s.heap its out.toArray } ∧ RelV v (.ref (s.heap.objs.size + 1)) ∧ Q v H' := fun ys out rv2 z2 => by
    obtain ⟨ep, he'⟩ := PyProof.Rows.sortedAll_at s.heap its out.toArray
    have l2 : ys.length ≤ sizeLine := by
      rw [zall_len z2, (sortD_perm ds).length_eq, ← hlen]
      exact hsz
    exact ⟨.ref _, upd H (s.heap.objs.size + 1) (.lst ys), I.laid (t' := s.toks) (fun _ _ => PyProof.Rows.sortedAll_old) (Nat.le_succ _) ⟨l2, out, ep, rv2, he'⟩, rfl, q _ _ z2 (I.hok.fresh (Nat.le_succ _))⟩
  rcases ho with ho | ⟨hal, hso⟩
  · have l1 : its.length ≤ 1 := by rw [← rv.length, hlen]; exact ho
    refine SrtO.sorted_ord (ltv := fun _ _ => false) ⟨fun _ _ h => (by cases h), fun _ _ _ _ _ => rfl⟩ hl.isList (by rw [← rv.length]; exact hsz) (fun h2 => by omega) fun out h1 h2 => ?_
    have e : out = its := perm_short l1 h2.perm
    subst e
    have := fin xs out rv (by rw [sortD_short ho]; exact hz)
    exact this
  · obtain ⟨as, ra⟩ := Dp.readsAll I ds _ _ hd rv
    refine PySem.W.sorted_data (bs := ds) (enc := id) hl.isList (zall_each rv hz) (PySem.W.readsAll_each id (by rw [List.map_id]; exact ra)) (by rw [List.map_id]; exact hal) (by rw [List.map_id]; exact hso) (by rw [← hlen]; exact hsz) (fun d hd => ?_) fun out _ eo => ?_
    · have := hdep d hd
      show _ + 2 + d.depth < _
      omega
    · obtain ⟨ys, h1, h2⟩ := each_zall eo
      exact fin ys out h1 h2
def qSortT : WQ := fun us μ P => ∃ (u : U) (ds : List PyData), us = [u] ∧ listU μ u = some (ds.map U.d) ∧ (ds.length ≤ 1 ∨ PySem.W.AllAlike ds ∧ PySem.W.Sortable ds) ∧ (∀ d ∈ ds, d.depth ≤ 8) ∧ P (.d (.list (sortD ds))) μ
theorem rq_sortT {K : Fg} : RQ K (rSortT K) qSortT := fun F G H μ vs us P Q S r ⟨u, ds, e, hl, ho, hd, p⟩ q => by
  subst e
  obtain ⟨v, rfl, rv⟩ := rus1 r
  obtain ⟨a, xs, rfl, h1, h2⟩ := listU_ok S rv hl
  have h3 : Rps K G xs ds := d_rus h2
  refine ⟨a, xs, ds, Rp K G, rfl, h1, Rps.dp S.sub h3, rps_zall h3, ho, hd, fun ys p' hz hp => ?_⟩
  obtain ⟨e, S'⟩ := S.newG (o := .lst ys) hp
  exact q (.ref p') (.d (.list _)) _ _ μ e S' (Rp.lst (SqL.of upd_same) ((zall_rps hz).mono e)) p
section
variable {K : Fg} {X : Cx} {pos p : Pos} {e : Expr} {es : List Expr} {te : TE} {we : WX} {t : TA} {w : WL}
def w_sortedT (hu : X.A.units + 64 < cLine) (hg : Gl X "sorted") (hm : X.mg "sorted" = none) (ha : WAr X (e :: es) t w) (he : starEach (e :: es) X.env = (false, eval e X.env) :: starEach es X.env := by rfl) (hpl : (backTo pos (starEach es X.env)).any (·.1) = false := by rfl) := show WE X (.Call (.Name "sorted" p) (e :: es) [] pos) _ (wQ qSortT w) from w_qb (cr_sortedT hu) rq_sortT hg hm boot_sorted ha (by decide) (by decide) he hpl
/-! ### a star in a row of parts -/
def wStar (a : WX) (r : WL) : WL := fun ρ μ P => a ρ μ fun x μ1 => ∃ us, itemsU μ1 x = some us ∧ r ρ μ1 fun xs μ2 => P (us ++ xs) μ2
theorem ra_star (h : RE K te we) (k : RA K t w) : RA K (StX.tStar K te t) (wStar we w) := fun F G H μ σ ρ P Q S x q => h F G H μ σ ρ _ _ S x fun v u G1 H1 μ1 e1 S1 r1 ⟨us, hi, p⟩ => by
  obtain ⟨a, vs, rfl, hs, r⟩ := itemsU_ok S1 r1 hi
  refine ⟨a, vs, rfl, hs.symm, ?_⟩
  exact k F G1 H1 μ1 σ ρ _ _ (S.mono e1 S1) p fun ws xs G2 H2 μ2 e2 S2 r2 p2 => q (vs ++ ws) (us ++ xs) G2 H2 μ2 (e1.trans e2) S2 ((r.mono e2).append r2) p2
theorem w_star {sp : Pos} (h : WE X e te we) (k : WAr X es t w) (hs : starEach (.Starred e sp :: es) X.env = (true, eval e X.env) :: starEach es X.env := by rfl) : WAr X (.Starred e sp :: es) (StX.tStar X.K te t) (wStar we w) := ⟨StX.pa_star h.pe k.pa hs, ra_star h.re k.ra⟩
/-! ### xs.extend(ys), ys a list that may change -/
def mExtM : WM := fun u vs μ P => ∃ (a b : Addr) (us ws : List U), u = .r a ∧ vs = [.r b] ∧ μ a = some (.lst us) ∧ μ b = some (.lst ws) ∧ us.length + ws.length ≤ sizeLine ∧ P (.d .none) (put μ a (.lst (us ++ ws)))
theorem rm_extM : RM K rExtend mExtM := fun F G H μ x vs u us P Q S rx rv ⟨a, b, ws, zs, e1, e2, h, k, z, p⟩ q => by
  subst e1 e2
  obtain ⟨v, rfl, q1⟩ := rus1 rv
  obtain ⟨xs, h1, h2⟩ := S.lst h
  obtain ⟨ys, k1, k2⟩ := S.lst k
  obtain rfl : v = .ref b := q1
  refine ⟨a, b, xs, ys, rx, rfl, h1, k1, by rw [h2.length, k2.length]; exact z, ?_⟩
  exact q .non (.d .none) G _ _ (Ext.refl G) (S.write (m' := .lst (ws ++ zs)) h ⟨xs ++ ys, upd_same, h2.append k2⟩) Rp.non p
variable {apos cpos : Pos} {o : Expr} {to : TE} {wo : WX}
def w_extM (ho : WE X o to wo) (ha : WAr X [e] t w)
    (hbase : attributeBase o "extend" X.env (eval o X.env) = eval o X.env := by rfl)
    (hfew : ((backTo cpos (starEach [e] X.env)).all (fun x => !x.1) && (backToKw cpos (keywordEach [] X.env)).all (fun x => x.1.isSome)
      && decide (([e] : List Expr).length + ([] : List Keyword).length + (if ([] : List Keyword).isEmpty then 0 else 1) < 30)) = true := by rfl)
    (hline : (apos.endLine == cpos.line) = true := by rfl) (hs : starEach [e] X.env = (false, eval e X.env) :: starEach [] X.env := by rfl) (hplain : (backTo cpos (starEach [] X.env)).any (·.1) = false := by rfl) := show WE X (.Call (.Attribute o "extend" apos) [e] [] cpos) _ (wML mExtM wo w) from w_bm PySem.F.slot_list_extend PySem.F.type_list_extend mt_extend rm_extM ho ha hbase hfew hline hs hplain
end
end L3

/-! what the worths say of known kinds: for simp -/
namespace L3
open PySem PySem.Spec PyProof.Rows L2
section
variable {α : Type} {x y z w v : U} {xs : List U} {i j : Int} {s t : Str} {b c : Bool} {f : Bool → Bool} {μ : Mu} {P : XP} {d1 d2 d3 d4 d5 : PyData} {p : List PyData → Prop}
theorem at_n {xs : List α} {n : Nat} (h : n < xs.length) : atI xs (n : Int) = some xs[n] := by
  have e : ixN xs.length (n : Int) = some n := by
    unfold ixN
    rw [if_pos (by omega), if_pos (by omega)]
    simp
  unfold atI
  rw [e]
  exact List.getElem?_eq_getElem h
theorem at_0 {x : α} {xs : List α} : atI (x :: xs) 0 = some x := at_n (xs := x :: xs) (n := 0) (by simp only [List.length_cons]; omega)
theorem at_1 {x y : α} {xs : List α} : atI (x :: y :: xs) 1 = some y := at_n (xs := x :: y :: xs) (n := 1) (by simp only [List.length_cons]; omega)
theorem at_2 {x y z : α} {xs : List α} : atI (x :: y :: z :: xs) 2 = some z := at_n (xs := x :: y :: z :: xs) (n := 2) (by simp only [List.length_cons]; omega)
theorem at_3 {x y z w : α} {xs : List α} : atI (x :: y :: z :: w :: xs) 3 = some w := at_n (xs := x :: y :: z :: w :: xs) (n := 3) (by simp only [List.length_cons]; omega)
theorem eqA_int : sEqA f (.d (.int i)) (.d (.int j)) μ P = P (.d (.bool (f (decide (i = j))))) μ := rfl
theorem eqA_str : sEqA f (.d (.str s)) (.d (.str t)) μ P = P (.d (.bool (f (decide (s = t))))) μ := rfl
theorem eqA_bl : sEqA f (.d (.bool b)) (.d (.bool c)) μ P = P (.d (.bool (f (decide (b = c))))) μ := rfl
theorem lt_int : sLt (.d (.int i)) (.d (.int j)) μ P = P (.d (.bool (decide (i < j)))) μ := rfl
theorem gt_int : sGt (.d (.int i)) (.d (.int j)) μ P = P (.d (.bool (decide (j < i)))) μ := rfl
theorem le_int : sLe (.d (.int i)) (.d (.int j)) μ P = P (.d (.bool (decide (i ≤ j)))) μ := rfl
theorem ge_int : sGe (.d (.int i)) (.d (.int j)) μ P = P (.d (.bool (decide (j ≤ i)))) μ := rfl
theorem lt_str : sLt (.d (.str s)) (.d (.str t)) μ P = P (.d (.bool (L3M.ltS s t))) μ := rfl
theorem gt_str : sGt (.d (.str s)) (.d (.str t)) μ P = P (.d (.bool (L3M.ltS t s))) μ := rfl
theorem le_str : sLe (.d (.str s)) (.d (.str t)) μ P = P (.d (.bool (!L3M.ltS t s))) μ := rfl
theorem ge_str : sGe (.d (.str s)) (.d (.str t)) μ P = P (.d (.bool (!L3M.ltS s t))) μ := rfl
theorem in_strs {w : U} {zs : List Str} (h : itemsU μ w = some (zs.map fun y => U.d (.str y))) (q : P (.d (.bool (f (decide (s ∈ zs))))) μ) : sInA f (.d (.str s)) w μ P := ⟨s, zs, rfl, h, q⟩
theorem add_int : sAdd (.d (.int i)) (.d (.int j)) μ P = P (.d (.int (i + j))) μ := rfl
theorem add_str : sAdd (.d (.str s)) (.d (.str t)) μ P = (s.length + t.length ≤ sizeLine ∧ P (.d (.str (s ++ t))) μ) := rfl
theorem mdp : ∀ {xs ys : List PyData}, xs.map U.d = ys.map U.d → xs = ys
  | [], [], _ => rfl
  | x :: xs, y :: ys, h => by
    simp only [List.map_cons, List.cons.injEq, U.d.injEq] at h
    rw [h.1, mdp h.2]
  | [], y :: ys, h => by simp at h
  | x :: xs, [], h => by simp at h
theorem exd {xs : List PyData} : (∃ ds : List PyData, xs.map U.d = ds.map U.d ∧ p ds) ↔ p xs :=
  ⟨fun ⟨ds, e, h⟩ => by rw [mdp e]; exact h, fun h => ⟨xs, rfl, h⟩⟩
theorem exd0 : (∃ ds : List PyData, [] = ds.map U.d ∧ p ds) ↔ p [] := exd (xs := [])
theorem exd1 : (∃ ds : List PyData, [U.d d1] = ds.map U.d ∧ p ds) ↔ p [d1] := exd (xs := [d1])
theorem exd2 : (∃ ds : List PyData, [U.d d1, U.d d2] = ds.map U.d ∧ p ds) ↔ p [d1, d2] := exd (xs := [d1, d2])
theorem exd3 : (∃ ds : List PyData, [U.d d1, U.d d2, U.d d3] = ds.map U.d ∧ p ds) ↔ p [d1, d2, d3] := exd (xs := [d1, d2, d3])
theorem exd4 : (∃ ds : List PyData, [U.d d1, U.d d2, U.d d3, U.d d4] = ds.map U.d ∧ p ds) ↔ p [d1, d2, d3, d4] := exd (xs := [d1, d2, d3, d4])
theorem min_int : qMinA [.d (.int i), .d (.int j)] μ P = P (.d (.int (if j < i then j else i))) μ := rfl
theorem min_str : qMinA [.d (.str s), .d (.str t)] μ P ↔ P (.d (.str (if L3M.ltS t s = true then t else s))) μ :=
  ⟨fun ⟨_, _, e, h⟩ => by cases e; exact h, fun h => ⟨s, t, rfl, h⟩⟩
theorem len_str : qLenA [.d (.str s)] μ P = (s.length ≤ sizeLine ∧ P (.d (.int (s.length : Int))) μ) := rfl
theorem len_lst {l : List PyData} : qLenA [.d (.list l)] μ P ↔ P (.d (.int (l.length : Int))) μ := by
  show (∃ u ws, [U.d (.list l)] = [u] ∧ itemsU μ u = some ws ∧ P (.d (.int (ws.length : Int))) μ) ↔ _
  simp [itemsU]
theorem len_tup {l : List PyData} : qLenA [.d (.tuple l)] μ P ↔ P (.d (.int (l.length : Int))) μ := by
  show (∃ u ws, [U.d (.tuple l)] = [u] ∧ itemsU μ u = some ws ∧ P (.d (.int (ws.length : Int))) μ) ↔ _
  simp [itemsU]
theorem sl0 {n : Nat} (h : n ≤ 64) : n ≤ sizeLine := Nat.le_trans h (by decide)
theorem kk_nb : kitB "NoneType" "bool" = some false := by decide +kernel
theorem kk_nt : kitB "NoneType" "tuple" = some false := by decide +kernel
theorem kk_ni : kitB "NoneType" "int" = some false := by decide +kernel
theorem kk_ns : kitB "NoneType" "str" = some false := by decide +kernel
theorem kk_nl : kitB "NoneType" "list" = some false := by decide +kernel
theorem kk_bb : kitB "bool" "bool" = some true := by decide +kernel
theorem kk_bt : kitB "bool" "tuple" = some false := by decide +kernel
theorem kk_bi : kitB "bool" "int" = some true := by decide +kernel
theorem kk_bs : kitB "bool" "str" = some false := by decide +kernel
theorem kk_bl : kitB "bool" "list" = some false := by decide +kernel
theorem kk_ib : kitB "int" "bool" = some false := by decide +kernel
theorem kk_it : kitB "int" "tuple" = some false := by decide +kernel
theorem kk_ii : kitB "int" "int" = some true := by decide +kernel
theorem kk_is : kitB "int" "str" = some false := by decide +kernel
theorem kk_il : kitB "int" "list" = some false := by decide +kernel
theorem kk_sb : kitB "str" "bool" = some false := by decide +kernel
theorem kk_st : kitB "str" "tuple" = some false := by decide +kernel
theorem kk_si : kitB "str" "int" = some false := by decide +kernel
theorem kk_ss : kitB "str" "str" = some true := by decide +kernel
theorem kk_sl : kitB "str" "list" = some false := by decide +kernel
theorem kk_tb : kitB "tuple" "bool" = some false := by decide +kernel
theorem kk_tt : kitB "tuple" "tuple" = some true := by decide +kernel
theorem kk_ti : kitB "tuple" "int" = some false := by decide +kernel
theorem kk_ts : kitB "tuple" "str" = some false := by decide +kernel
theorem kk_tl : kitB "tuple" "list" = some false := by decide +kernel
theorem kk_lb : kitB "list" "bool" = some false := by decide +kernel
theorem kk_lt : kitB "list" "tuple" = some false := by decide +kernel
theorem kk_li : kitB "list" "int" = some false := by decide +kernel
theorem kk_ls : kitB "list" "str" = some false := by decide +kernel
theorem kk_ll : kitB "list" "list" = some true := by decide +kernel
theorem len_r {a : Addr} {us : List U} (h : μ a = some (.lst us)) (q : P (.d (.int (us.length : Int))) μ) : qLenA [.r a] μ P := by
  show ∃ u ws, [U.r a] = [u] ∧ itemsU μ u = some ws ∧ P (.d (.int (ws.length : Int))) μ
  refine ⟨_, us, rfl, ?_, q⟩
  simp only [itemsU, h]
theorem isL_r {a : Addr} {us : List U} (h : μ a = some (.lst us)) : isL μ (.r a) := ⟨us, by simp only [listU, h]⟩
theorem add_lst {xs ys : List PyData} (h : xs.length + ys.length ≤ sizeLine) (q : P (.d (.list (xs ++ ys))) μ) : sAdd (.d (.list xs)) (.d (.list ys)) μ P := ⟨xs, ys, rfl, rfl, h, q⟩
theorem append_r {a : Addr} {us : List U} {y : U} (h : μ a = some (.lst us)) (l : us.length < sizeLine) (q : P (.d .none) (put μ a (.lst (us ++ [y])))) : mAppend (.r a) [y] μ P := ⟨a, us, y, rfl, rfl, h, l, q⟩
theorem wipe_nil {ρ : Rho} : wipeR ρ [] = ρ := rfl
theorem max_int : qMax2 [.d (.int i), .d (.int j)] μ P ↔ P (.d (.int (if j > i then j else i))) μ :=
  ⟨fun ⟨_, _, e, h⟩ => by cases e; exact h, fun h => ⟨i, j, rfl, h⟩⟩
end
end L3

/-! conditions as trees; they are told apart by what they say (one form each) -/
namespace L3M
open PySem PySem.Spec PyProof.Rows L2
theorem ltS_irrefl (a : Str) : ltS a a = false := decide_eq_false (List.lt_irrefl _)
theorem ltS_trans {a b c : Str} (h : ltS a b = true) (k : ltS b c = true) : ltS a c = true := decide_eq_true (List.lt_trans (of_decide_eq_true h) (of_decide_eq_true k))
theorem ltS_tri {a b : Str} (h : ltS a b = false) (k : ltS b a = false) : a = b := by
  have h1 : ¬ (a.cps.toList < b.cps.toList) := of_decide_eq_false h
  have h2 : ¬ (b.cps.toList < a.cps.toList) := of_decide_eq_false k
  have e : a.cps.toList = b.cps.toList := List.le_antisymm (List.not_lt.mp h2) (List.not_lt.mp h1)
  cases a; cases b
  exact congrArg Str.mk (Array.toList_inj.mp e)
theorem ltS_asymm {a b : Str} (h : ltS a b = true) : ltS b a = false := by
  cases k : ltS b a with
  | false => rfl
  | true => exact absurd (ltS_trans h k) (by rw [ltS_irrefl]; exact Bool.false_ne_true)
theorem ltS_ne {a b : Str} (h : ltS a b = true) : a ≠ b := fun e => by
  rw [e, ltS_irrefl] at h
  cases h
theorem ltS_le {a b : Str} (h : ltS b a = false) : ltS a b = true ∨ a = b := by
  cases k : ltS a b with
  | true => exact .inl rfl
  | false => exact .inr (ltS_tri k h)
end L3M
namespace Cn
open PySem PySem.Spec PyProof.Rows L2 L3 L3M
inductive T where
  | lit (b : Bool)
  | nd (s : Str) (on off : T)
namespace T
def d : T → PyData
  | lit b => .bool b
  | nd s a b => .tuple [.str s, a.d, b.d]
def h : T → Nat
  | lit _ => 0
  | nd _ a b => max a.h b.h + 1
def nm : T → Prop
  | lit _ => True
  | nd s a b => PyData.strOk s = true ∧ a.nm ∧ b.nm
def Ab (x : Str) : T → Prop
  | lit _ => True
  | nd s _ _ => ltS x s = true
def ok : T → Prop
  | lit _ => True
  | nd s a b => a.ok ∧ b.ok ∧ Ab s a ∧ Ab s b ∧ a ≠ b
def ev : T → (Str → Bool) → Bool
  | lit b, _ => b
  | nd s a b, σ => if σ s = true then a.ev σ else b.ev σ
end T
open T
def set (σ : Str → Bool) (x : Str) (v : Bool) : Str → Bool := fun y => if y = x then v else σ y
theorem set_same {σ : Str → Bool} {x : Str} {v : Bool} : set σ x v x = v := if_pos rfl
theorem set_ne {σ : Str → Bool} {x y : Str} {v : Bool} (h : y ≠ x) : set σ x v y = σ y := if_neg h
theorem set_id {σ : Str → Bool} {x : Str} {v : Bool} (h : σ x = v) : set σ x v = σ := by
  funext y
  unfold set
  split
  · rename_i e; rw [e, h]
  · rfl
theorem Ab.trans {x y : Str} {t : T} (h : ltS x y = true) (k : Ab y t) : Ab x t := by
  cases t with
  | lit b => trivial
  | nd s a b => exact ltS_trans h k
theorem ev_ab : ∀ {t : T} {y : Str} {σ : Str → Bool} {v : Bool}, t.ok → Ab y t → t.ev (set σ y v) = t.ev σ
  | lit b, _, _, _, _, _ => rfl
  | nd s a b, y, σ, v, o, k => by
    unfold ev
    rw [set_ne (ltS_ne k).symm, ev_ab o.1 (Ab.trans k o.2.2.1), ev_ab o.2.1 (Ab.trans k o.2.2.2.1)]
theorem ev_on {s : Str} {a b : T} (o : (nd s a b).ok) (σ : Str → Bool) : (nd s a b).ev (set σ s true) = a.ev σ := by
  show (if set σ s true s = true then a.ev (set σ s true) else _) = _
  rw [set_same, if_pos rfl, ev_ab o.1 o.2.2.1]
theorem ev_off {s : Str} {a b : T} (o : (nd s a b).ok) (σ : Str → Bool) : (nd s a b).ev (set σ s false) = b.ev σ := by
  show (if set σ s false s = true then _ else b.ev (set σ s false)) = _
  rw [set_same, if_neg Bool.false_ne_true, ev_ab o.2.1 o.2.2.2.1]
/-- one form for what is said -/
theorem uniq : ∀ (n : Nat) (a b : T), a.h + b.h ≤ n → a.ok → b.ok → (∀ σ, a.ev σ = b.ev σ) → a = b
  | _, lit x, lit y, _, _, _, e => congrArg lit (e fun _ => true)
  | 0, nd _ _ _, _, l, _, _, _ => by unfold T.h at l; omega
  | 0, _, nd _ _ _, l, _, _, _ => by unfold T.h at l; omega
  | n + 1, lit x, nd s u v, l, o, k, e => by
    have hu := uniq n (lit x) u (by simp only [T.h] at l ⊢; omega) o k.1 fun σ => by rw [← ev_on k σ, ← e]; rfl
    have hv := uniq n (lit x) v (by simp only [T.h] at l ⊢; omega) o k.2.1 fun σ => by rw [← ev_off k σ, ← e]; rfl
    exact absurd (hu.symm.trans hv) k.2.2.2.2
  | n + 1, nd s u v, lit x, l, o, k, e => by
    have hu := uniq n u (lit x) (by simp only [T.h] at l ⊢; omega) o.1 k fun σ => by rw [← ev_on o σ, e]; rfl
    have hv := uniq n v (lit x) (by simp only [T.h] at l ⊢; omega) o.2.1 k fun σ => by rw [← ev_off o σ, e]; rfl
    exact absurd (hu.trans hv.symm) o.2.2.2.2
  | n + 1, nd s u v, nd z p q, l, o, k, e => by
    have lu : u.h + (nd z p q).h ≤ n ∧ v.h + (nd z p q).h ≤ n ∧ (nd s u v).h + p.h ≤ n ∧ (nd s u v).h + q.h ≤ n ∧ u.h + p.h ≤ n ∧ v.h + q.h ≤ n := by simp only [T.h] at l ⊢; omega
    cases h1 : ltS s z with
    | true =>
      have hu := uniq n u (nd z p q) lu.1 o.1 k fun σ => by rw [← ev_on o σ, e, ev_ab k h1]
      have hv := uniq n v (nd z p q) lu.2.1 o.2.1 k fun σ => by rw [← ev_off o σ, e, ev_ab k h1]
      exact absurd (hu.trans hv.symm) o.2.2.2.2
    | false =>
      cases h2 : ltS z s with
      | true =>
        have hu := uniq n (nd s u v) p lu.2.2.1 o k.1 fun σ => by rw [← ev_on k σ, ← e, ev_ab o h2]
        have hv := uniq n (nd s u v) q lu.2.2.2.1 o k.2.1 fun σ => by rw [← ev_off k σ, ← e, ev_ab o h2]
        exact absurd (hu.symm.trans hv) k.2.2.2.2
      | false =>
        obtain rfl := ltS_tri h1 h2
        have hu := uniq n u p lu.2.2.2.2.1 o.1 k.1 fun σ => by rw [← ev_on o σ, e, ev_on k]
        have hv := uniq n v q lu.2.2.2.2.2 o.2.1 k.2.1 fun σ => by rw [← ev_off o σ, e, ev_off k]
        rw [hu, hv]
theorem uni {a b : T} (o : a.ok) (k : b.ok) (e : ∀ σ, a.ev σ = b.ev σ) : a = b := uniq _ a b (Nat.le_refl _) o k e

/-! ### as data -/
theorem eqv_d : ∀ a b : T, PyData.eqv a.d b.d = true ↔ a = b
  | lit x, lit y => by
    unfold T.d PyData.eqv
    rw [beq_iff_eq]
    exact ⟨fun h => congrArg lit h, fun h => by cases h; rfl⟩
  | lit x, nd s u v => by
    unfold T.d PyData.eqv
    exact Iff.intro (fun h => nomatch h) (fun h => nomatch h)
  | nd s u v, lit x => by
    unfold T.d PyData.eqv
    exact Iff.intro (fun h => nomatch h) (fun h => nomatch h)
  | nd s u v, nd z p q => by
    have h1 := eqv_d u p
    have h2 := eqv_d v q
    show PyData.eqvAll [.str s, u.d, v.d] [.str z, p.d, q.d] = true ↔ _
    simp only [PyData.eqvAll, Bool.and_eq_true, Bool.and_true, h1, h2]
    show ((s == z) = true ∧ u = p ∧ v = q) ↔ _
    rw [beq_iff_eq]
    exact ⟨fun ⟨a, b, c⟩ => by rw [a, b, c], fun h => by cases h; exact ⟨rfl, rfl, rfl⟩⟩
theorem eqv_dd (a b : T) : PyData.eqv a.d b.d = true ∧ a = b ∨ PyData.eqv a.d b.d = false ∧ a ≠ b := by
  cases e : PyData.eqv a.d b.d with
  | true => exact .inl ⟨rfl, (eqv_d a b).mp e⟩
  | false => exact .inr ⟨rfl, fun h => by rw [(eqv_d a b).mpr h] at e; cases e⟩
theorem d_depth : ∀ a : T, a.d.depth = a.h
  | lit _ => by unfold T.d PyData.depth; rfl
  | nd s u v => by
    have h1 := d_depth u
    have h2 := d_depth v
    show PyData.depthAll [.str s, u.d, v.d] + 1 = max u.h v.h + 1
    simp only [PyData.depthAll, PyData.depth, h1, h2]
    omega
theorem d_canLay : ∀ a : T, a.nm → a.d.canLay0 = true
  | lit _, _ => by unfold T.d PyData.canLay0; rfl
  | nd s u v, ⟨k, h1, h2⟩ => by
    have h1 := d_canLay u h1
    have h2 := d_canLay v h2
    show PyData.canLayAll0 [.str s, u.d, v.d] = true
    simp only [PyData.canLayAll0, PyData.canLay0, h1, h2, k, Bool.and_true]
theorem shp {a : T} (n : a.nm) (h : a.h ≤ 64) : SeqAt.shaped a.d = true := by
  unfold SeqAt.shaped
  rw [d_canLay a n, d_depth]
  simpa using h

/-! ### pieces -/
/-- s stands at the top of t, or above -/
def Ge (s : Str) (t : T) : Prop := Ab s t ∨ ∃ a b, t = nd s a b
def sd (s : Str) (on : Bool) : T → T
  | lit b => lit b
  | nd z a b => if z = s then (if on = true then a else b) else nd z a b
theorem sd_nd {s : Str} {a b : T} {on : Bool} : sd s on (nd s a b) = if on = true then a else b := if_pos rfl
theorem sd_ab {s : Str} {t : T} {on : Bool} (h : Ab s t) : sd s on t = t := by
  cases t with
  | lit b => rfl
  | nd z a b => exact if_neg (ltS_ne h).symm
structure Sd (s : Str) (on : Bool) (t r : T) : Prop where
  ok : r.ok
  nm : r.nm
  ab : Ab s r
  ev : ∀ σ, σ s = on → t.ev σ = r.ev σ
  up : ∀ x, Ab x t → Ab x r
  hl : r.h ≤ t.h
theorem sd_ok {s : Str} {on : Bool} {t : T} (o : t.ok) (n : t.nm) (g : Ge s t) : Sd s on t (sd s on t) := by
  rcases g with g | ⟨a, b, rfl⟩
  · rw [sd_ab g]
    exact ⟨o, n, g, fun _ _ => rfl, fun _ h => h, Nat.le_refl _⟩
  · rw [sd_nd]
    cases on with
    | true => exact ⟨o.1, n.2.1, o.2.2.1, fun σ h => if_pos h, fun x h => Ab.trans h o.2.2.1, by simp only [T.h, if_true]; omega⟩
    | false => exact ⟨o.2.1, n.2.2, o.2.2.2.1, fun σ h => if_neg (by rw [h]; exact Bool.false_ne_true), fun x h => Ab.trans h o.2.2.2.1, by simp only [T.h, Bool.false_eq_true, if_false]; omega⟩
theorem sd_less {s : Str} {on : Bool} {a b : T} : (sd s on (nd s a b)).h < (nd s a b).h := by
  rw [sd_nd]
  cases on
  · simp only [T.h, Bool.false_eq_true, if_false]; omega
  · simp only [T.h, if_true]; omega
open Classical in
noncomputable def node (s : Str) (a b : T) : T := if a = b then a else nd s a b
theorem node_eq {s : Str} {a b : T} (h : a = b) : node s a b = a := if_pos h
theorem node_ne {s : Str} {a b : T} (h : a ≠ b) : node s a b = nd s a b := if_neg h
theorem node_ok {s : Str} {a b : T} (o : a.ok) (k : b.ok) (ha : Ab s a) (hb : Ab s b) : (node s a b).ok := by
  by_cases h : a = b
  · rw [node_eq h]; exact o
  · rw [node_ne h]; exact ⟨o, k, ha, hb, h⟩
theorem node_nm {s : Str} {a b : T} (hs : PyData.strOk s = true) (o : a.nm) (k : b.nm) : (node s a b).nm := by
  by_cases h : a = b
  · rw [node_eq h]; exact o
  · rw [node_ne h]; exact ⟨hs, o, k⟩
theorem node_ev {s : Str} {a b : T} (σ : Str → Bool) : (node s a b).ev σ = if σ s = true then a.ev σ else b.ev σ := by
  by_cases h : a = b
  · rw [node_eq h, h]; split <;> rfl
  · rw [node_ne h]; rfl
theorem node_h {s : Str} {a b : T} : (node s a b).h ≤ max a.h b.h + 1 := by
  by_cases h : a = b
  · rw [node_eq h]; omega
  · rw [node_ne h]; exact Nat.le_refl _
theorem node_up {s x : Str} {a b : T} (hs : ltS x s = true) (ha : Ab s a) : Ab x (node s a b) := by
  by_cases h : a = b
  · rw [node_eq h]; exact Ab.trans hs ha
  · rw [node_ne h]; exact hs
/-- r says f of what c and o say -/
structure Ap (f : Bool → Bool → Bool) (c o r : T) : Prop where
  ok : r.ok
  nm : r.nm
  ev : ∀ σ, r.ev σ = f (c.ev σ) (o.ev σ)
  ab : ∀ x, Ab x c → Ab x o → Ab x r
  h : r.h ≤ c.h + o.h
theorem Ap.node {f : Bool → Bool → Bool} {c o r1 r2 : T} {s : Str} (hs : PyData.strOk s = true) (gc : Ge s c) (go : Ge s o) (ex : (∃ a b, c = nd s a b) ∨ ∃ a b, o = nd s a b) (c1 : c.ok) (c2 : c.nm) (o1 : o.ok) (o2 : o.nm)
    (h1 : Ap f (sd s true c) (sd s true o) r1) (h2 : Ap f (sd s false c) (sd s false o) r2) : Ap f c o (node s r1 r2) := by
  have sc := fun b => sd_ok (on := b) c1 c2 gc
  have so := fun b => sd_ok (on := b) o1 o2 go
  have a1 : Ab s r1 := h1.ab s (sc true).ab (so true).ab
  have a2 : Ab s r2 := h2.ab s (sc false).ab (so false).ab
  refine ⟨node_ok h1.ok h2.ok a1 a2, node_nm hs h1.nm h2.nm, fun σ => ?_, fun x hc ho => ?_, ?_⟩
  · rw [node_ev]
    cases e : σ s with
    | true => rw [if_pos rfl, h1.ev, (sc true).ev σ e, (so true).ev σ e]
    | false => rw [if_neg Bool.false_ne_true, h2.ev, (sc false).ev σ e, (so false).ev σ e]
  · rcases ex with ⟨a, b, rfl⟩ | ⟨a, b, rfl⟩
    · exact node_up hc a1
    · exact node_up ho a1
  · have n := node_h (s := s) (a := r1) (b := r2)
    have l1 := h1.h
    have l2 := h2.h
    have k1 := (sc true).hl
    have k2 := (sc false).hl
    have k3 := (so true).hl
    have k4 := (so false).hl
    rcases ex with ⟨a, b, rfl⟩ | ⟨a, b, rfl⟩
    · have q1 := sd_less (s := s) (on := true) (a := a) (b := b)
      have q2 := sd_less (s := s) (on := false) (a := a) (b := b)
      omega
    · have q1 := sd_less (s := s) (on := true) (a := a) (b := b)
      have q2 := sd_less (s := s) (on := false) (a := a) (b := b)
      omega
end Cn

/-! tables of truths and the one form of a condition -/
namespace Cn
open PySem PySem.Spec PyProof.Rows L2 L3 L3M
def idx : List Bool → Nat
  | [] => 0
  | b :: bs => (if b = true then 2 ^ bs.length else 0) + idx bs
theorem idx_lt : ∀ bs : List Bool, idx bs < 2 ^ bs.length
  | [] => by decide
  | b :: bs => by
    have h := idx_lt bs
    show (if b = true then 2 ^ bs.length else 0) + idx bs < 2 ^ (bs.length + 1)
    rw [Nat.pow_succ]
    split <;> omega
def bitsOf : Nat → Nat → List Bool
  | 0, _ => []
  | n + 1, k => decide (2 ^ n ≤ k) :: bitsOf n (if 2 ^ n ≤ k then k - 2 ^ n else k)
theorem bitsOf_len : ∀ (n k : Nat), (bitsOf n k).length = n
  | 0, _ => rfl
  | n + 1, k => congrArg Nat.succ (bitsOf_len n _)
theorem idx_bitsOf : ∀ (n k : Nat), k < 2 ^ n → idx (bitsOf n k) = k
  | 0, k, h => by
    have : k = 0 := by simpa using h
    subst this
    rfl
  | n + 1, k, h => by
    rw [Nat.pow_succ] at h
    show (if decide (2 ^ n ≤ k) = true then 2 ^ (bitsOf n _).length else 0) + idx (bitsOf n _) = k
    rw [bitsOf_len]
    by_cases hk : 2 ^ n ≤ k
    · rw [if_pos (decide_eq_true hk), if_pos hk, idx_bitsOf n _ (by omega)]
      omega
    · rw [if_neg (by simpa using hk), if_neg hk, idx_bitsOf n _ (by omega)]
      omega
theorem bitsOf_idx : ∀ bs : List Bool, bitsOf bs.length (idx bs) = bs
  | [] => rfl
  | b :: bs => by
    have h := idx_lt bs
    have e := bitsOf_idx bs
    cases b with
    | true =>
      have k : idx (true :: bs) = 2 ^ bs.length + idx bs := rfl
      rw [k]
      show decide (2 ^ bs.length ≤ 2 ^ bs.length + idx bs) :: bitsOf bs.length (if 2 ^ bs.length ≤ 2 ^ bs.length + idx bs then 2 ^ bs.length + idx bs - 2 ^ bs.length else _) = _
      rw [decide_eq_true (by omega), if_pos (by omega), Nat.add_sub_cancel_left, e]
    | false =>
      have k : idx (false :: bs) = idx bs := Nat.zero_add _
      rw [k]
      show decide (2 ^ bs.length ≤ idx bs) :: bitsOf bs.length (if 2 ^ bs.length ≤ idx bs then _ else idx bs) = _
      rw [decide_eq_false (by omega), if_neg (by omega), e]
def tn (n i : Nat) (on : Bool) (k : Nat) : Nat := (if k / max 1 (2 ^ n / 2 ^ (i + 1)) % 2 = 1 then k - 2 ^ n / 2 ^ (i + 1) else k) + if on = true then 2 ^ n / 2 ^ (i + 1) else 0
theorem tn_bits : ∀ n ≤ 5, ∀ i < n, ∀ k < 2 ^ n, ∀ on, tn n i on k = idx ((bitsOf n k).set i on) := by decide +kernel
theorem tn_lt {n i k : Nat} {on : Bool} (hn : n ≤ 5) (hi : i < n) (hk : k < 2 ^ n) : tn n i on k < 2 ^ n := by
  rw [tn_bits n hn i hi k hk]
  have h := idx_lt ((bitsOf n k).set i on)
  rwa [List.length_set, bitsOf_len] at h
/-- names in their order, none twice -/
def Srt (names : List Str) : Prop := names.Pairwise fun a b => ltS a b = true
noncomputable def form : List Str → List Bool → T
  | [], row => .lit (row.headD false)
  | x :: xs, row => node x (form xs (row.drop (row.length / 2))) (form xs (row.take (row.length / 2)))
theorem form_ab : ∀ {names : List Str} {row : List Bool}, Srt names → (form names row).ok ∧ ∀ y, (∀ x ∈ names, ltS y x = true) → T.Ab y (form names row)
  | [], _, _ => ⟨trivial, fun _ _ => trivial⟩
  | x :: xs, row, h => by
    have h := List.pairwise_cons.mp h
    have h1 := form_ab (row := row.drop (row.length / 2)) h.2
    have h2 := form_ab (row := row.take (row.length / 2)) h.2
    have a1 := h1.2 x h.1
    have a2 := h2.2 x h.1
    exact ⟨node_ok h1.1 h2.1 a1 a2, fun y hy => node_up (hy x (List.mem_cons_self ..)) a1⟩
theorem form_nm : ∀ {names : List Str} {row : List Bool}, (∀ x ∈ names, PyData.strOk x = true) → (form names row).nm
  | [], _, _ => trivial
  | x :: xs, row, h => node_nm (h x (List.mem_cons_self ..)) (form_nm fun y hy => h y (List.mem_cons_of_mem _ hy)) (form_nm fun y hy => h y (List.mem_cons_of_mem _ hy))
theorem form_h : ∀ {names : List Str} {row : List Bool}, (form names row).h ≤ names.length
  | [], _ => Nat.le_refl _
  | x :: xs, row => by
    have h1 := form_h (names := xs) (row := row.drop (row.length / 2))
    have h2 := form_h (names := xs) (row := row.take (row.length / 2))
    have := node_h (s := x) (a := form xs (row.drop (row.length / 2))) (b := form xs (row.take (row.length / 2)))
    show (node x _ _).h ≤ xs.length + 1
    omega
theorem form_ev : ∀ {names : List Str} {row : List Bool} (σ : Str → Bool), row.length = 2 ^ names.length → row[idx (names.map σ)]? = some ((form names row).ev σ)
  | [], row, σ, h => by
    have h : row.length = 1 := h
    match row, h with
    | [b], _ => rfl
  | x :: xs, row, σ, h => by
    have hl : row.length / 2 = 2 ^ xs.length := by
      rw [h, List.length_cons, Nat.pow_succ]
      omega
    have h' : row.length = 2 ^ xs.length + 2 ^ xs.length := by rw [h, List.length_cons, Nat.pow_succ]; omega
    have l := idx_lt (xs.map σ)
    rw [List.length_map] at l
    show row[(if σ x = true then 2 ^ (xs.map σ).length else 0) + idx (xs.map σ)]? = some ((node x _ _).ev σ)
    rw [node_ev, List.length_map, hl]
    by_cases hx : σ x = true
    · rw [if_pos hx, if_pos hx, ← form_ev σ (by rw [List.length_drop]; omega), List.getElem?_drop]
    · rw [if_neg hx, if_neg hx, ← form_ev σ (by rw [List.length_take]; omega), List.getElem?_take, if_pos l, Nat.zero_add]
def lk (row : List Bool) (k : Nat) : Bool := row[k]?.getD false
theorem form_lk {names : List Str} {row : List Bool} (σ : Str → Bool) (h : row.length = 2 ^ names.length) : (form names row).ev σ = lk row (idx (names.map σ)) := by
  unfold lk
  rw [form_ev σ h]
  rfl
/-- a condition that says what the table says -/
theorem form_uni {names : List Str} {row : List Bool} {c : T} (hs : Srt names) (hl : row.length = 2 ^ names.length) (o : c.ok) (h : ∀ σ, c.ev σ = lk row (idx (names.map σ))) : c = form names row :=
  uni o (form_ab hs).1 fun σ => by rw [h, form_lk σ hl]
theorem set_map {names : List Str} {σ : Str → Bool} {v : Bool} : ∀ {i : Nat} {x : Str}, Srt names → names[i]? = some x → names.map (Cn.set σ x v) = (names.map σ).set i v := by
  induction names with
  | nil => intro i x _ h; simp at h
  | cons y ys ih =>
    intro i x hs h
    have hs := List.pairwise_cons.mp hs
    cases i with
    | zero =>
      have h : y = x := by simpa using h
      subst h
      rw [List.map_cons, set_same, List.map_cons, List.set_cons_zero]
      refine congrArg _ (List.map_congr_left fun z hz => set_ne ?_)
      exact (ltS_ne (hs.1 z hz)).symm
    | succ i =>
      have h : ys[i]? = some x := by simpa using h
      have hx : x ∈ ys := List.mem_of_getElem? h
      rw [List.map_cons, List.map_cons, List.set_cons_succ, ih hs.2 h, set_ne (ltS_ne (hs.1 x hx))]
theorem set_map_out {names : List Str} {σ : Str → Bool} {v : Bool} {x : Str} (h : x ∉ names) : names.map (Cn.set σ x v) = names.map σ :=
  List.map_congr_left fun z hz => set_ne fun e => h (e ▸ hz)
theorem tn_idx {names : List Str} {σ : Str → Bool} {i : Nat} {x : Str} {on : Bool} (hs : Srt names) (hn : names.length ≤ 5) (hi : names[i]? = some x) : tn names.length i on (idx (names.map σ)) = idx (names.map (Cn.set σ x on)) := by
  have l := idx_lt (names.map σ)
  rw [List.length_map] at l
  have h := List.getElem?_eq_some_iff.mp hi
  rw [tn_bits _ hn i h.1 _ l, set_map hs hi]
  have e := bitsOf_idx (names.map σ)
  rw [List.length_map] at e
  rw [e]
/-- every row of truths is some setting -/
theorem some_set : ∀ {names : List Str} {bs : List Bool}, Srt names → bs.length = names.length → ∃ σ : Str → Bool, names.map σ = bs
  | [], [], _, _ => ⟨fun _ => false, rfl⟩
  | x :: xs, b :: bs, hs, h => by
    have hs := List.pairwise_cons.mp hs
    obtain ⟨σ, e⟩ := some_set (names := xs) (bs := bs) hs.2 (by simpa using h)
    refine ⟨Cn.set σ x b, ?_⟩
    rw [List.map_cons, set_same, set_map_out fun h => ltS_ne (hs.1 x h) rfl, e]
theorem some_k {names : List Str} {k : Nat} (hs : Srt names) (h : k < 2 ^ names.length) : ∃ σ : Str → Bool, idx (names.map σ) = k := by
  obtain ⟨σ, e⟩ := some_set hs (bitsOf_len names.length k)
  exact ⟨σ, by rw [e, idx_bitsOf _ _ h]⟩
end Cn

/-! part settings and the causes of a condition -/
namespace Cn
open PySem PySem.Spec PyProof.Rows L2 L3 L3M
abbrev Part := List (Str × Bool)
def Hold (p : Part) (σ : Str → Bool) : Prop := ∀ e ∈ p, σ e.1 = e.2
def PS (p : Part) : Prop := p.Pairwise fun a b => ltS a.1 b.1 = true
def Imp (p : Part) (c : T) : Prop := ∀ σ, Hold p σ → c.ev σ = true
structure Prm (p : Part) (c : T) : Prop where
  ps : PS p
  im : Imp p c
  mn : ∀ q : Part, q.Sublist p → Imp q c → q = p
theorem hold_sub {p q : Part} {σ : Str → Bool} (s : q.Sublist p) (h : Hold p σ) : Hold q σ := fun e he => h e (s.subset he)
theorem imp_mono {p q : Part} {c : T} (s : q.Sublist p) (h : Imp q c) : Imp p c := fun σ hp => h σ (hold_sub s hp)
theorem hold_cons {x : Str} {v : Bool} {q : Part} {σ : Str → Bool} : Hold ((x, v) :: q) σ ↔ σ x = v ∧ Hold q σ :=
  ⟨fun h => ⟨h _ (List.mem_cons_self ..), fun e he => h e (List.mem_cons_of_mem _ he)⟩, fun h e he => by
    rcases List.mem_cons.mp he with rfl | he
    · exact h.1
    · exact h.2 e he⟩
theorem hold_set {q : Part} {σ : Str → Bool} {x : Str} {v : Bool} (h : Hold q σ) (n : ∀ e ∈ q, e.1 ≠ x) : Hold q (Cn.set σ x v) := fun e he => by
  rw [set_ne (n e he)]
  exact h e he
theorem ps_ne {x : Str} {v : Bool} {q : Part} (h : PS ((x, v) :: q)) : ∀ e ∈ q, e.1 ≠ x := fun e he => (ltS_ne ((List.pairwise_cons.mp h).1 e he)).symm
theorem hold_set_cons {q : Part} {σ : Str → Bool} {x : Str} {v : Bool} (h : Hold q σ) (n : ∀ e ∈ q, e.1 ≠ x) : Hold ((x, v) :: q) (Cn.set σ x v) := hold_cons.mpr ⟨set_same, hold_set h n⟩
/-- what does not matter may be left out -/
theorem imp_drop {x : Str} {v : Bool} {q : Part} {c : T} (o : c.ok) (a : T.Ab x c) (n : ∀ e ∈ q, e.1 ≠ x) (h : Imp ((x, v) :: q) c) : Imp q c := fun σ hq => by
  have := h _ (hold_set_cons (v := v) hq n)
  rwa [ev_ab o a] at this
theorem ab_le {x s : Str} {c : T} (h : ltS s x = false) (a : T.Ab s c) : T.Ab x c := by
  rcases ltS_le h with k | k
  · exact Ab.trans k a
  · rw [k]; exact a
theorem cons_self_ne {α : Type} {a : α} {l : List α} : l ≠ a :: l := fun e => by
  have := congrArg List.length e
  simp at this
theorem prm_ab {p : Part} {c : T} {s : Str} (o : c.ok) (a : T.Ab s c) (h : Prm p c) : ∀ e ∈ p, ltS s e.1 = true := by
  cases p with
  | nil => exact fun e he => nomatch he
  | cons e0 q =>
    obtain ⟨x, v⟩ := e0
    have k : ltS s x = true := by
      cases k : ltS s x with
      | true => rfl
      | false => exact absurd (h.mn q (List.sublist_cons_self _ _) (imp_drop o (ab_le k a) (ps_ne h.ps) h.im)) cons_self_ne
    intro e he
    rcases List.mem_cons.mp he with rfl | he
    · exact k
    · exact ltS_trans k ((List.pairwise_cons.mp h.ps).1 e he)
theorem ps_hold : ∀ {p : Part}, PS p → ∃ σ : Str → Bool, Hold p σ
  | [], _ => ⟨fun _ => false, fun e he => nomatch he⟩
  | (x, v) :: q, h => by
    obtain ⟨σ, k⟩ := ps_hold (List.pairwise_cons.mp h).2
    exact ⟨_, hold_set_cons k (ps_ne h)⟩
theorem prm_true {p : Part} : Prm p (.lit true) ↔ p = [] :=
  ⟨fun h => (h.mn [] (List.nil_sublist _) fun _ _ => rfl).symm, fun e => by
    subst e
    exact ⟨List.Pairwise.nil, fun _ _ => rfl, fun q s _ => List.sublist_nil.mp s⟩⟩
theorem prm_false {p : Part} : ¬ Prm p (.lit false) := fun h => by
  obtain ⟨σ, k⟩ := ps_hold h.ps
  have := h.im σ k
  cases this
def No (s : Str) (p : Part) : Prop := ∀ e ∈ p, e.1 ≠ s
theorem imp_no {s : Str} {a b : T} {p : Part} (o : (T.nd s a b).ok) (n : No s p) : Imp p (.nd s a b) ↔ Imp p a ∧ Imp p b := by
  refine ⟨fun h => ⟨fun σ k => ?_, fun σ k => ?_⟩, fun h σ k => ?_⟩
  · rw [← ev_on o σ]; exact h _ (hold_set k n)
  · rw [← ev_off o σ]; exact h _ (hold_set k n)
  · show (if σ s = true then a.ev σ else b.ev σ) = true
    split
    · exact h.1 σ k
    · exact h.2 σ k
theorem imp_yes {s : Str} {a b : T} {v : Bool} {q : Part} (o : (T.nd s a b).ok) (n : No s q) : Imp ((s, v) :: q) (.nd s a b) ↔ Imp q (if v = true then a else b) := by
  refine ⟨fun h σ k => ?_, fun h σ k => ?_⟩
  · have h := h _ (hold_set_cons (v := v) k n)
    cases v with
    | true => rwa [ev_on o] at h
    | false => rwa [ev_off o] at h
  · obtain ⟨k1, k2⟩ := hold_cons.mp k
    have h := h σ k2
    show (if σ s = true then a.ev σ else b.ev σ) = true
    rw [k1]
    cases v with
    | true => exact h
    | false => exact h
theorem imp_and {a b r : T} {p : Part} (e : ∀ σ, r.ev σ = (a.ev σ && b.ev σ)) : Imp p r ↔ Imp p a ∧ Imp p b := by
  refine ⟨fun h => ⟨fun σ k => ?_, fun σ k => ?_⟩, fun h σ k => ?_⟩
  · have := h σ k
    rw [e, Bool.and_eq_true] at this
    exact this.1
  · have := h σ k
    rw [e, Bool.and_eq_true] at this
    exact this.2
  · rw [e, h.1 σ k, h.2 σ k]; rfl
theorem prm_nd {s : Str} {a b r : T} (o : (T.nd s a b).ok) (ro : r.ok) (ra : T.Ab s r) (re : ∀ σ, r.ev σ = (a.ev σ && b.ev σ)) {p : Part} :
    Prm p (.nd s a b) ↔ Prm p r ∨ (∃ q, p = (s, true) :: q ∧ Prm q a ∧ ¬ Imp q b) ∨ ∃ q, p = (s, false) :: q ∧ Prm q b ∧ ¬ Imp q a := by
  constructor
  · intro h
    have low : No s p → Prm p r := fun n => ⟨h.ps, (imp_and re).mpr ((imp_no o n).mp h.im), fun q sq hq => h.mn q sq ((imp_no o fun e he => n e (sq.subset he)).mpr ((imp_and re).mp hq))⟩
    match p, h, low with
    | [], h, low => exact .inl (low fun e he => nomatch he)
    | (x, v) :: q, h, low =>
      cases k1 : ltS x s with
      | true => exact absurd (h.mn q (List.sublist_cons_self _ _) (imp_drop o k1 (ps_ne h.ps) h.im)) cons_self_ne
      | false =>
        cases k2 : ltS s x with
        | true =>
          refine .inl (low fun e he => ?_)
          rcases List.mem_cons.mp he with rfl | he
          · exact (ltS_ne k2).symm
          · exact (ltS_ne (ltS_trans k2 ((List.pairwise_cons.mp h.ps).1 e he))).symm
        | false =>
          obtain rfl := ltS_tri k1 k2
          have n : No x q := ps_ne h.ps
          have i1 := (imp_yes o n).mp h.im
          have mq : ∀ q', q'.Sublist q → Imp q' (if v = true then a else b) → q' = q := fun q' sq hq =>
            (List.cons.inj (h.mn ((x, v) :: q') (sq.cons_cons _) ((imp_yes o fun e he => n e (sq.subset he)).mpr hq))).2
          have no : ¬ (Imp q a ∧ Imp q b) := fun k => cons_self_ne (h.mn q (List.sublist_cons_self _ _) ((imp_no o n).mpr k))
          have ps := (List.pairwise_cons.mp h.ps).2
          cases v with
          | true => exact .inr (.inl ⟨q, rfl, ⟨ps, i1, mq⟩, fun k => no ⟨i1, k⟩⟩)
          | false => exact .inr (.inr ⟨q, rfl, ⟨ps, i1, mq⟩, fun k => no ⟨k, i1⟩⟩)
  · have up : ∀ (v : Bool) (q : Part) (w : T), w = (if v = true then a else b) → T.Ab s w → w.ok → Prm q w → ¬ (Imp q a ∧ Imp q b) → Prm ((s, v) :: q) (.nd s a b) := fun v q w ew aw ow h no => by
      have ab := prm_ab ow aw h
      have n : No s q := fun e he => (ltS_ne (ab e he)).symm
      subst ew
      refine ⟨List.pairwise_cons.mpr ⟨ab, h.ps⟩, (imp_yes o n).mpr h.im, fun q' sq hq => ?_⟩
      cases sq with
      | cons _ sq =>
        have k := (imp_no o fun e he => n e (sq.subset he)).mp hq
        exact absurd ⟨imp_mono sq k.1, imp_mono sq k.2⟩ no
      | cons_cons _ sq => rw [h.mn _ sq ((imp_yes o fun e he => n e (sq.subset he)).mp hq)]
    rintro (h | ⟨q, rfl, h, no⟩ | ⟨q, rfl, h, no⟩)
    · have n : No s p := fun e he => (ltS_ne (prm_ab ro ra h e he)).symm
      exact ⟨h.ps, (imp_no o n).mpr ((imp_and re).mp h.im), fun q sq hq => h.mn q sq ((imp_and re).mpr ((imp_no o fun e he => n e (sq.subset he)).mp hq))⟩
    · exact up true q a rfl o.2.2.1 o.1 h fun k => no k.2
    · exact up false q b rfl o.2.2.2.1 o.2.1 h fun k => no k.1
/-- the list of all causes -/
structure Cs (n : Nat) (c : T) (ps : List Part) : Prop where
  nd : ps.Nodup
  mem : ∀ p, p ∈ ps ↔ Prm p c
  len : ps.length ≤ 3 ^ n
  sz : ∀ p ∈ ps, p.length ≤ n ∧ ∀ e ∈ p, PyData.strOk e.1 = true
theorem cs_true {n : Nat} : Cs n (.lit true) [[]] := ⟨List.pairwise_singleton _ _, fun p => by rw [prm_true, List.mem_singleton], by
  show 1 ≤ 3 ^ n
  exact Nat.one_le_pow _ _ (by decide), fun p hp => by
  rw [List.mem_singleton.mp hp]
  exact ⟨Nat.zero_le _, fun e he => nomatch he⟩⟩
theorem cs_false {n : Nat} : Cs n (.lit false) [] := ⟨List.Pairwise.nil, fun p => ⟨fun h => (nomatch h), fun h => absurd h prm_false⟩, Nat.zero_le _, fun p hp => nomatch hp⟩
theorem Cs.mono {m n : Nat} {c : T} {ps : List Part} (h : Cs m c ps) (l : m ≤ n) : Cs n c ps := ⟨h.nd, h.mem, Nat.le_trans h.len (Nat.pow_le_pow_right (by decide) l), fun p hp => ⟨Nat.le_trans (h.sz p hp).1 l, (h.sz p hp).2⟩⟩
open Classical in
noncomputable def keep (b : T) (ps : List Part) : List Part := ps.filter fun q => decide (¬ Imp q b)
open Classical in
theorem mem_keep {b : T} {ps : List Part} {q : Part} : q ∈ keep b ps ↔ q ∈ ps ∧ ¬ Imp q b := by
  unfold keep
  rw [List.mem_filter, decide_eq_true_iff]
noncomputable def csUp (s : Str) (v : Bool) (b : T) (ps : List Part) : List Part := (keep b ps).map fun q => (s, v) :: q
theorem mem_csUp {s : Str} {v : Bool} {b : T} {ps : List Part} {p : Part} : p ∈ csUp s v b ps ↔ ∃ q, p = (s, v) :: q ∧ q ∈ ps ∧ ¬ Imp q b := by
  unfold csUp
  rw [List.mem_map]
  exact ⟨fun ⟨q, h, e⟩ => ⟨q, e.symm, mem_keep.mp h⟩, fun ⟨q, e, h⟩ => ⟨q, mem_keep.mpr h, e.symm⟩⟩
theorem csUp_len {s : Str} {v : Bool} {b : T} {ps : List Part} : (csUp s v b ps).length ≤ ps.length := by
  unfold csUp keep
  rw [List.length_map]
  exact List.length_filter_le _ _
theorem csUp_nd {s : Str} {v : Bool} {b : T} {ps : List Part} (h : ps.Nodup) : (csUp s v b ps).Nodup := by
  unfold csUp
  refine List.pairwise_map.mpr ((h.filter _).imp fun ne e => ne (List.cons.inj e).2)
theorem cs_nd {n : Nat} {s : Str} {a b r : T} {R A B : List Part} (hs : PyData.strOk s = true) (o : (T.nd s a b).ok) (ro : r.ok) (ra : T.Ab s r) (re : ∀ σ, r.ev σ = (a.ev σ && b.ev σ)) (hR : Cs n r R) (hA : Cs n a A) (hB : Cs n b B) :
    Cs (n + 1) (.nd s a b) (R ++ csUp s true b A ++ csUp s false a B) := by
  refine ⟨?_, fun p => ?_, ?_, fun p hp => ?_⟩
  · refine List.nodup_append.mpr ⟨List.nodup_append.mpr ⟨hR.nd, csUp_nd hA.nd, fun p hp q hq e => ?_⟩, csUp_nd hB.nd, fun p hp q hq e => ?_⟩
    · subst e
      obtain ⟨q, rfl, _⟩ := mem_csUp.mp hq
      have := prm_ab ro ra ((hR.mem _).mp hp) _ (List.mem_cons_self ..)
      rw [ltS_irrefl] at this
      cases this
    · subst e
      obtain ⟨q, rfl, _⟩ := mem_csUp.mp hq
      rcases List.mem_append.mp hp with hp | hp
      · have := prm_ab ro ra ((hR.mem _).mp hp) _ (List.mem_cons_self ..)
        rw [ltS_irrefl] at this
        cases this
      · obtain ⟨q', e, _⟩ := mem_csUp.mp hp
        cases e
  · rw [List.mem_append, List.mem_append, mem_csUp, mem_csUp, prm_nd o ro ra re, hR.mem]
    simp only [hA.mem, hB.mem, or_assoc]
  · rw [List.length_append, List.length_append, Nat.pow_succ]
    have l1 := hR.len
    have l2 := Nat.le_trans (csUp_len (s := s) (v := true) (b := b) (ps := A)) hA.len
    have l3 := Nat.le_trans (csUp_len (s := s) (v := false) (b := a) (ps := B)) hB.len
    omega
  · have up : ∀ (v : Bool) (w : T) (Z : List Part) (c : T), Cs n c Z → p ∈ csUp s v w Z → p.length ≤ n + 1 ∧ ∀ e ∈ p, PyData.strOk e.1 = true := fun v w Z c hZ hp => by
      obtain ⟨q, rfl, hq, _⟩ := mem_csUp.mp hp
      have k := hZ.sz q hq
      refine ⟨by rw [List.length_cons]; omega, fun e he => ?_⟩
      rcases List.mem_cons.mp he with rfl | he
      · exact hs
      · exact k.2 e he
    rcases List.mem_append.mp hp with hp | hp
    · rcases List.mem_append.mp hp with hp | hp
      · have k := hR.sz p hp
        exact ⟨by omega, k.2⟩
      · exact up _ _ _ _ hA hp
    · exact up _ _ _ _ hB hp
/-- the pieces of a form -/
theorem form_nd : ∀ {names : List Str} {row : List Bool} {s : Str} {a b : T}, Srt names → row.length = 2 ^ names.length → form names row = .nd s a b → ∃ (xs : List Str) (r1 r0 : List Bool), xs.length < names.length ∧ Srt xs ∧ (∀ x ∈ xs, x ∈ names) ∧ r1.length = 2 ^ xs.length ∧ r0.length = 2 ^ xs.length ∧ a = form xs r1 ∧ b = form xs r0 ∧ s ∈ names
  | [], row, s, a, b, _, _, e => by cases e
  | x :: xs, row, s, a, b, hs, hl, e => by
    have hs := List.pairwise_cons.mp hs
    have hl : row.length = 2 ^ xs.length + 2 ^ xs.length := by rw [hl, List.length_cons, Nat.pow_succ]; omega
    have e : node x (form xs (row.drop (row.length / 2))) (form xs (row.take (row.length / 2))) = .nd s a b := e
    have l1 : (row.drop (row.length / 2)).length = 2 ^ xs.length := by rw [List.length_drop]; omega
    have l0 : (row.take (row.length / 2)).length = 2 ^ xs.length := by rw [List.length_take]; omega
    by_cases q : form xs (row.drop (row.length / 2)) = form xs (row.take (row.length / 2))
    · rw [node_eq q] at e
      obtain ⟨ys, r1, r0, h1, h2, h3, h4, h5, h6, h7, h8⟩ := form_nd hs.2 l1 e
      exact ⟨ys, r1, r0, by rw [List.length_cons]; omega, h2, fun z hz => List.mem_cons_of_mem _ (h3 z hz), h4, h5, h6, h7, List.mem_cons_of_mem _ h8⟩
    · rw [node_ne q] at e
      cases e
      exact ⟨xs, _, _, by rw [List.length_cons]; omega, hs.2, fun z hz => List.mem_cons_of_mem _ hz, l1, l0, rfl, rfl, List.mem_cons_self ..⟩
theorem form_and {xs : List Str} {r1 r0 : List Bool} {r : T} (hs : Srt xs) (l1 : r1.length = 2 ^ xs.length) (l0 : r0.length = 2 ^ xs.length) (ro : r.ok) (re : ∀ σ, r.ev σ = ((form xs r1).ev σ && (form xs r0).ev σ)) : ∃ row, row.length = 2 ^ xs.length ∧ r = form xs row := by
  refine ⟨List.zipWith (· && ·) r1 r0, by rw [List.length_zipWith, l1, l0, Nat.min_self], form_uni hs (by rw [List.length_zipWith, l1, l0, Nat.min_self]) ro fun σ => ?_⟩
  have l := idx_lt (xs.map σ)
  rw [List.length_map] at l
  rw [re, form_lk σ l1, form_lk σ l0]
  unfold lk
  rw [List.getElem?_zipWith]
  rw [List.getElem?_eq_getElem (by omega : idx (xs.map σ) < r1.length), List.getElem?_eq_getElem (by omega : idx (xs.map σ) < r0.length)]
  rfl
end Cn

/-! the law's walk through all part settings -/
namespace Cn
open PySem PySem.Spec PyProof.Rows L2 L3 L3M
abbrev Op := List (Option Bool)
def ops : Nat → List Op
  | 0 => [[]]
  | n + 1 => (ops n).map (· ++ [some false]) ++ (ops n).map (· ++ [some true]) ++ (ops n).map (· ++ [none])
theorem ops_len : ∀ n, (ops n).length = 3 ^ n
  | 0 => rfl
  | n + 1 => by
    unfold ops
    rw [List.length_append, List.length_append, List.length_map, List.length_map, List.length_map, ops_len n, Nat.pow_succ]
    omega
theorem mem_ops : ∀ {n : Nat} {o : Op}, o ∈ ops n ↔ o.length = n
  | 0, o => by
    show o ∈ [[]] ↔ _
    rw [List.mem_singleton, List.length_eq_zero_iff]
  | n + 1, o => by
    unfold ops
    simp only [List.mem_append, List.mem_map]
    constructor
    · rintro ((⟨a, h, rfl⟩ | ⟨a, h, rfl⟩) | ⟨a, h, rfl⟩) <;> rw [List.length_append, mem_ops.mp h] <;> rfl
    · intro h
      have ne : o ≠ [] := fun e => by rw [e] at h; cases h
      have hd : o.dropLast.length = n := by rw [List.length_dropLast]; omega
      have e := List.dropLast_concat_getLast ne
      cases q : o.getLast ne with
      | none => exact .inr ⟨_, mem_ops.mpr hd, by rw [← q]; exact e⟩
      | some b =>
        cases b with
        | false => exact .inl (.inl ⟨_, mem_ops.mpr hd, by rw [← q]; exact e⟩)
        | true => exact .inl (.inr ⟨_, mem_ops.mpr hd, by rw [← q]; exact e⟩)
theorem ops_nd : ∀ n, (ops n).Nodup
  | 0 => List.pairwise_singleton _ _
  | n + 1 => by
    have m : ∀ v : Option Bool, ((ops n).map (· ++ [v])).Nodup := fun v => List.pairwise_map.mpr ((ops_nd n).imp fun ne e => ne (List.append_inj' e rfl).1)
    have d : ∀ {u v : Option Bool} {o : Op}, u ≠ v → o ∈ (ops n).map (· ++ [u]) → o ∈ (ops n).map (· ++ [v]) → False := fun ne h1 h2 => by
      obtain ⟨a, _, rfl⟩ := List.mem_map.mp h1
      obtain ⟨b, _, e⟩ := List.mem_map.mp h2
      have e := (List.append_inj' e rfl).2
      exact ne (by simpa using e.symm)
    unfold ops
    refine List.nodup_append.mpr ⟨List.nodup_append.mpr ⟨m _, m _, fun a ha b hb e => ?_⟩, m _, fun a ha b hb e => ?_⟩
    · subst e; exact d (by decide) ha hb
    · subst e
      rcases List.mem_append.mp ha with ha | ha
      · exact d (by decide) ha hb
      · exact d (by decide) ha hb
def prt : List Str → Op → Part
  | x :: xs, some b :: o => (x, b) :: prt xs o
  | _ :: xs, none :: o => prt xs o
  | _, _ => []
theorem prt_mem : ∀ {names : List Str} {o : Op} {e : Str × Bool}, e ∈ prt names o → e.1 ∈ names
  | x :: xs, some b :: o, e, h => by
    rcases List.mem_cons.mp h with rfl | h
    · exact List.mem_cons_self ..
    · exact List.mem_cons_of_mem _ (prt_mem h)
  | x :: xs, none :: o, e, h => List.mem_cons_of_mem _ (prt_mem (names := xs) (o := o) h)
  | [], some b :: o, e, h => nomatch h
  | [], none :: o, e, h => nomatch h
  | [], [], e, h => nomatch h
  | x :: xs, [], e, h => nomatch h
theorem prt_len : ∀ {names : List Str} {o : Op}, (prt names o).length ≤ names.length
  | x :: xs, some b :: o => Nat.succ_le_succ prt_len
  | x :: xs, none :: o => Nat.le_succ_of_le (prt_len (names := xs) (o := o))
  | [], some b :: o => Nat.le_refl _
  | [], none :: o => Nat.le_refl _
  | [], [] => Nat.le_refl _
  | x :: xs, [] => Nat.zero_le _
theorem prt_ps : ∀ {names : List Str} {o : Op}, Srt names → PS (prt names o)
  | x :: xs, some b :: o, h => List.pairwise_cons.mpr ⟨fun e he => (List.pairwise_cons.mp h).1 _ (prt_mem he), prt_ps (List.pairwise_cons.mp h).2⟩
  | x :: xs, none :: o, h => prt_ps (names := xs) (o := o) (List.pairwise_cons.mp h).2
  | [], some b :: o, h => List.Pairwise.nil
  | [], none :: o, h => List.Pairwise.nil
  | [], [], h => List.Pairwise.nil
  | x :: xs, [], h => List.Pairwise.nil
theorem prt_inj : ∀ {names : List Str} {o o' : Op}, Srt names → o.length = names.length → o'.length = names.length → prt names o = prt names o' → o = o'
  | [], [], [], _, _, _, _ => rfl
  | x :: xs, u :: o, v :: o', h, l, l', e => by
    have hx : ∀ (o : Op) (b : Bool), (x, b) ∉ prt xs o := fun o b m => by
      have := (List.pairwise_cons.mp h).1 _ (prt_mem m)
      rw [ltS_irrefl] at this
      cases this
    have rc : ∀ {a b : Op}, a.length = xs.length → b.length = xs.length → prt xs a = prt xs b → a = b := fun la lb e => prt_inj (List.pairwise_cons.mp h).2 la lb e
    have l1 : o.length = xs.length := by simpa using l
    have l2 : o'.length = xs.length := by simpa using l'
    cases u with
    | none =>
      cases v with
      | none => rw [rc l1 l2 e]
      | some b =>
        have e : prt xs o = (x, b) :: prt xs o' := e
        exact absurd (e ▸ List.mem_cons_self ..) (hx o b)
    | some a =>
      cases v with
      | none =>
        have e : (x, a) :: prt xs o = prt xs o' := e
        exact absurd (e ▸ List.mem_cons_self ..) (hx o' a)
      | some b =>
        have e : (x, a) :: prt xs o = (x, b) :: prt xs o' := e
        have e := List.cons.inj e
        have e1 : a = b := (Prod.mk.inj e.1).2
        rw [e1, rc l1 l2 e.2]
theorem prt_ex : ∀ {names : List Str} {p : Part}, Srt names → PS p → (∀ e ∈ p, e.1 ∈ names) → ∃ o : Op, o.length = names.length ∧ prt names o = p
  | [], [], _, _, _ => ⟨[], rfl, rfl⟩
  | [], e :: p, _, _, h => nomatch h e (List.mem_cons_self ..)
  | x :: xs, [], hs, hp, h => by
    obtain ⟨o, l, e⟩ := prt_ex (names := xs) (p := []) (List.pairwise_cons.mp hs).2 List.Pairwise.nil fun e he => nomatch he
    exact ⟨none :: o, congrArg Nat.succ l, e⟩
  | x :: xs, (y, b) :: p, hs, hp, h => by
    have hs' := List.pairwise_cons.mp hs
    have hp' := List.pairwise_cons.mp hp
    rcases List.mem_cons.mp (h _ (List.mem_cons_self ..)) with q | q
    · have q : y = x := q
      subst q
      obtain ⟨o, l, e⟩ := prt_ex (names := xs) (p := p) hs'.2 hp'.2 fun e he => by
        rcases List.mem_cons.mp (h e (List.mem_cons_of_mem _ he)) with k | k
        · have := hp'.1 e he
          rw [k, ltS_irrefl] at this
          cases this
        · exact k
      exact ⟨some b :: o, congrArg Nat.succ l, by rw [← e]; rfl⟩
    · obtain ⟨o, l, e⟩ := prt_ex (names := xs) (p := (y, b) :: p) hs'.2 hp fun e he => by
        rcases List.mem_cons.mp (h e he) with k | k
        · rcases List.mem_cons.mp he with rfl | he
          · exact q
          · have h1 := hp'.1 e he
            have h2 := hs'.1 _ q
            rw [k] at h1
            have := ltS_trans h1 h2
            rw [ltS_irrefl] at this
            cases this
        · exact k
      exact ⟨none :: o, congrArg Nat.succ l, e⟩
/-- the settings at which an opening holds -/
def ins : Op → List Bool
  | [] => [true]
  | v :: o => (ins o).map (fun t => t && decide (v ≠ some true)) ++ (ins o).map fun t => t && decide (v ≠ some false)
theorem ins_len : ∀ o : Op, (ins o).length = 2 ^ o.length
  | [] => rfl
  | v :: o => by
    unfold ins
    rw [List.length_append, List.length_map, List.length_map, ins_len o, List.length_cons, Nat.pow_succ]
    omega
theorem hold_prt {x : Str} {xs : List Str} {v : Option Bool} {o : Op} {σ : Str → Bool} : Hold (prt (x :: xs) (v :: o)) σ ↔ (∀ b, v = some b → σ x = b) ∧ Hold (prt xs o) σ := by
  cases v with
  | none =>
    constructor
    · exact fun h => ⟨fun b e => (by cases e), h⟩
    · exact fun h => h.2
  | some b =>
    have k : Hold (prt (x :: xs) (some b :: o)) σ ↔ σ x = b ∧ Hold (prt xs o) σ := hold_cons
    rw [k]
    exact ⟨fun h => ⟨fun c e => (by cases e; exact h.1), h.2⟩, fun h => ⟨h.1 b rfl, h.2⟩⟩
theorem ins_lk : ∀ {names : List Str} {o : Op} (σ : Str → Bool), o.length = names.length → (lk (ins o) (idx (names.map σ)) = true ↔ Hold (prt names o) σ)
  | [], [], σ, _ => ⟨fun _ e he => (nomatch he), fun _ => rfl⟩
  | x :: xs, v :: o, σ, l => by
    have l : o.length = xs.length := by simpa using l
    have hi := idx_lt (xs.map σ)
    rw [List.length_map] at hi
    have ih := ins_lk σ l
    have hl := ins_len o
    rw [l] at hl
    have e0 : idx ((x :: xs).map σ) = (if σ x = true then 2 ^ xs.length else 0) + idx (xs.map σ) := by
      show (if σ x = true then 2 ^ (xs.map σ).length else 0) + _ = _
      rw [List.length_map]
    rw [hold_prt, ← ih, e0]
    have k : (ins o)[idx (xs.map σ)]? = some (lk (ins o) (idx (xs.map σ))) := by
      unfold lk
      rw [List.getElem?_eq_getElem (by omega)]
      rfl
    have dn : ∀ k, lk (ins (v :: o)) k = (((ins o).map (fun t => t && decide (v ≠ some true)) ++ (ins o).map fun t => t && decide (v ≠ some false))[k]?).getD false := fun k => rfl
    rw [dn]
    cases hx : σ x with
    | true =>
      rw [if_pos rfl, List.getElem?_append_right (by rw [List.length_map]; omega), List.length_map, hl, Nat.add_sub_cancel_left, List.getElem?_map, k]
      show (lk (ins o) _ && decide (v ≠ some false)) = true ↔ _
      rw [Bool.and_eq_true, decide_eq_true_iff]
      constructor
      · rintro ⟨h1, h2⟩
        refine ⟨fun b e => ?_, h1⟩
        cases b with
        | true => rfl
        | false => exact absurd e h2
      · rintro ⟨h1, h2⟩
        exact ⟨h2, fun e => (by cases h1 _ e)⟩
    | false =>
      rw [if_neg Bool.false_ne_true, Nat.zero_add, List.getElem?_append_left (by rw [List.length_map]; omega), List.getElem?_map, k]
      show (lk (ins o) _ && decide (v ≠ some true)) = true ↔ _
      rw [Bool.and_eq_true, decide_eq_true_iff]
      constructor
      · rintro ⟨h1, h2⟩
        refine ⟨fun b e => ?_, h1⟩
        cases b with
        | false => rfl
        | true => exact absurd e h2
      · rintro ⟨h1, h2⟩
        exact ⟨h2, fun e => (by cases h1 _ e)⟩
def Alw (o : Op) (row : List Bool) : Prop := ∀ k, k < row.length → lk (ins o) k = true → lk row k = true
theorem alw_imp {names : List Str} {o : Op} {row : List Bool} (hs : Srt names) (l : o.length = names.length) (hl : row.length = 2 ^ names.length) : Alw o row ↔ Imp (prt names o) (form names row) := by
  constructor
  · intro h σ hp
    rw [form_lk σ hl]
    have k := idx_lt (names.map σ)
    rw [List.length_map] at k
    exact h _ (by omega) ((ins_lk σ l).mpr hp)
  · intro h k hk hi
    obtain ⟨σ, e⟩ := some_k hs (by omega : k < 2 ^ names.length)
    have := h σ ((ins_lk σ l).mp (by rw [e]; exact hi))
    rw [form_lk σ hl, e] at this
    exact this
structure Lst (o : Op) (row : List Bool) : Prop where
  al : Alw o row
  mn : ∀ (i : Nat) (b : Bool), o[i]? = some (some b) → ¬ Alw (o.set i none) row
theorem sub_drop : ∀ {names : List Str} {o : Op} {q : Part}, o.length = names.length → q.Sublist (prt names o) → q ≠ prt names o → ∃ (i : Nat) (b : Bool), o[i]? = some (some b) ∧ q.Sublist (prt names (o.set i none))
  | [], [], q, _, s, ne => absurd (List.sublist_nil.mp s) ne
  | x :: xs, none :: o, q, l, s, ne => by
    obtain ⟨i, b, h1, h2⟩ := sub_drop (names := xs) (o := o) (by simpa using l) s ne
    exact ⟨i + 1, b, h1, h2⟩
  | x :: xs, some v :: o, q, l, s, ne => by
    have s : q.Sublist ((x, v) :: prt xs o) := s
    cases s with
    | cons _ s => exact ⟨0, v, rfl, s⟩
    | cons_cons _ s =>
      rename_i q
      obtain ⟨i, b, h1, h2⟩ := sub_drop (names := xs) (o := o) (by simpa using l) s fun e => ne (by rw [e]; rfl)
      exact ⟨i + 1, b, h1, h2.cons_cons _⟩
theorem set_sub : ∀ {names : List Str} {o : Op} {i : Nat} {b : Bool}, o.length = names.length → o[i]? = some (some b) → (prt names (o.set i none)).Sublist (prt names o) ∧ prt names (o.set i none) ≠ prt names o
  | [], [], i, b, _, h => by simp at h
  | x :: xs, v :: o, 0, b, l, h => by
    have h : v = some b := by simpa using h
    subst h
    exact ⟨List.sublist_cons_self _ _, cons_self_ne⟩
  | x :: xs, none :: o, i + 1, b, l, h => set_sub (names := xs) (o := o) (by simpa using l) (by simpa using h)
  | x :: xs, some v :: o, i + 1, b, l, h => by
    obtain ⟨h1, h2⟩ := set_sub (names := xs) (o := o) (i := i) (b := b) (by simpa using l) (by simpa using h)
    exact ⟨h1.cons_cons _, fun e => h2 (List.cons.inj e).2⟩
theorem lst_prm {names : List Str} {o : Op} {row : List Bool} (hs : Srt names) (l : o.length = names.length) (hl : row.length = 2 ^ names.length) : Lst o row ↔ Prm (prt names o) (form names row) := by
  have ls : ∀ i, (o.set i none).length = names.length := fun i => by rw [List.length_set, l]
  constructor
  · intro h
    refine ⟨prt_ps hs, (alw_imp hs l hl).mp h.al, fun q sq hq => Classical.byContradiction fun ne => ?_⟩
    obtain ⟨i, b, h1, h2⟩ := sub_drop l sq ne
    exact h.mn i b h1 ((alw_imp hs (ls i) hl).mpr (imp_mono h2 hq))
  · intro h
    refine ⟨(alw_imp hs l hl).mpr h.im, fun i b hi k => ?_⟩
    obtain ⟨h1, h2⟩ := set_sub l hi
    exact h2 (h.mn _ h1 ((alw_imp hs (ls i) hl).mp k))
/-- a cause tells of the names alone -/
theorem prm_names {names : List Str} {row : List Bool} {p : Part} (hl : row.length = 2 ^ names.length) (h : Prm p (form names row)) : ∀ e ∈ p, e.1 ∈ names := fun e he => Classical.byContradiction fun ne => by
  obtain ⟨l1, l2, rfl⟩ := List.append_of_mem he
  have hp : PS (l1 ++ e :: l2) := h.ps
  obtain ⟨p1, p2, p3⟩ := List.pairwise_append.mp hp
  have k := h.mn (l1 ++ l2) ((List.Sublist.refl _).append (List.sublist_cons_self _ _)) fun σ hq => by
    have := h.im (Cn.set σ e.1 e.2) fun f hf => by
      rcases List.mem_append.mp hf with hf | hf
      · rw [set_ne (ltS_ne (p3 f hf e (List.mem_cons_self ..)))]
        exact hq f (List.mem_append_left _ hf)
      · rcases List.mem_cons.mp hf with rfl | hf
        · exact set_same
        · rw [set_ne (ltS_ne ((List.pairwise_cons.mp p2).1 f hf)).symm]
          exact hq f (List.mem_append_right _ hf)
    rw [form_lk _ hl, set_map_out ne, ← form_lk _ hl] at this
    exact this
  have := congrArg List.length k
  simp at this
open Classical in
noncomputable def dueL (names : List Str) (row : List Bool) (l : List Op) : List Part := (l.filter fun o => decide (Lst o row)).map (prt names)
open Classical in
theorem due_cs {names : List Str} {row : List Bool} {ps : List Part} {n : Nat} (hs : Srt names) (hl : row.length = 2 ^ names.length) (h : Cs n (form names row) ps) : ps.Perm (dueL names row (ops names.length)) := by
  have nd : (dueL names row (ops names.length)).Nodup := by
    unfold dueL
    refine List.pairwise_map.mpr (List.Pairwise.imp_of_mem (fun {a b} ha hb ne e => ?_) ((ops_nd names.length).filter _))
    exact ne (prt_inj hs (mem_ops.mp (List.mem_filter.mp ha).1) (mem_ops.mp (List.mem_filter.mp hb).1) e)
  refine (List.perm_ext_iff_of_nodup h.nd nd).mpr fun p => ?_
  rw [h.mem]
  unfold dueL
  rw [List.mem_map]
  constructor
  · intro k
    obtain ⟨o, l, e⟩ := prt_ex hs k.ps (prm_names hl k)
    subst e
    exact ⟨o, List.mem_filter.mpr ⟨mem_ops.mpr l, decide_eq_true ((lst_prm hs l hl).mpr k)⟩, rfl⟩
  · rintro ⟨o, k, rfl⟩
    obtain ⟨k1, k2⟩ := List.mem_filter.mp k
    exact (lst_prm hs (mem_ops.mp k1) hl).mp (of_decide_eq_true k2)
end Cn

namespace K04
open PySem PySem.Spec PyProof.Rows L2 L3
def topS (i : Nat) : Stmt := PySem.Challenge.pw_eacharm_k04_least_causes_all_told.main.body.getD i (.Pass ⟨0, 0, 0, 0⟩)

/-! ### both -/
abbrev s_p_both : Stmt := topS 1
abbrev N_p_both : List Str := ["condition", "other", "switch", "on", "off"]
theorem sc_p_both : FnScope N_p_both ["condition", "other"] (defScope s_p_both) := ⟨rfl, rfl, rfl, by decide +kernel, rfl, by decide +kernel, by decide +kernel⟩
def W_p_both (S_p_both : WF) (S_p__side : WF) (S_p__node : WF) : WSt :=
  (wSeq (wIfS (wOr (wB (wOp (sIs false id) (wV 0) (wC (.bool false)))) (wB (wOp (sIs false id) (wV 1) (wC (.bool false))))) (wRet (wC (.bool false))) wNext)
  (wSeq (wIfS (wB (wOp (sIs true id) (wV 0) (wC (.bool true)))) (wRet (wV 1)) wNext)
  (wSeq (wIfS (wB (wOp (sIs true id) (wV 1) (wC (.bool true)))) (wRet (wV 0)) wNext)
  (wSeq (wAsg (wQ qMinA (wCons (wOp sIx (wV 0) (wC (.int 0))) (wCons (wOp sIx (wV 1) (wC (.int 0))) wNil))) (gN 2))
  (wSeq (wAsg (wCall S_p_both (wCons (wCall S_p__side (wCons (wV 0) (wCons (wV 2) (wCons (wC (.bool true)) wNil)))) (wCons (wCall S_p__side (wCons (wV 1) (wCons (wV 2) (wCons (wC (.bool true)) wNil)))) wNil))) (gN 3))
  (wSeq (wAsg (wCall S_p_both (wCons (wCall S_p__side (wCons (wV 0) (wCons (wV 2) (wCons (wC (.bool false)) wNil)))) (wCons (wCall S_p__side (wCons (wV 1) (wCons (wV 2) (wCons (wC (.bool false)) wNil)))) wNil))) (gN 4))
  (wRet (wCall S_p__node (wCons (wV 2) (wCons (wV 3) (wCons (wV 4) wNil)))))))))))
theorem body_p_both {P : Program} {w : World} {K : Fg} {mg : Str → Option Value} {base : Heap} {k : Nat} {k_p_both : Nat} {S_p_both : WF} (c_p_both : C8.Cal P w K mg base k_p_both "both" (sp3 K S_p_both) []) (h_p_both : k_p_both ≤ k) {k_p__side : Nat} {S_p__side : WF} (c_p__side : C8.Cal P w K mg base k_p__side "_side" (sp3 K S_p__side) []) (h_p__side : k_p__side ≤ k) {k_p__node : Nat} {S_p__node : WF} (c_p__node : C8.Cal P w K mg base k_p__node "_node" (sp3 K S_p__node) []) (h_p__node : k_p__node ≤ k) (m_min : mg "min" = none)
    (cdv : Value) (f : Addr) (A : Around) (outer : List Env) (sh : Shared) (H : Hp) (E : XK) (hr : Room k (A.deeper (envOfC "both" (defScope s_p_both) sh.heap.objs.size f cdv))) :
    ∃ t, WSs (cxOf CX0 P w K mg base N_p_both "both" (defScope s_p_both) f cdv A outer sh H E).nox (defBody s_p_both) t (W_p_both S_p_both S_p__side S_p__node) := by
  have nd := sc_p_both.nd
  exact ⟨_, (w_scons (w_ifS (w_ww (w_or (w_isB (w_v 0)).t (w_or1 (w_isB (w_v 1)).t)))
 (w_sone (w_ret w_bl))
 w_snil)
 (w_scons (w_ifS (w_isB (w_v 0)).t
 (w_sone (w_ret (w_v 1)))
 w_snil)
 (w_scons (w_ifS (w_isB (w_v 1)).t
 (w_sone (w_ret (w_v 0)))
 w_snil)
 (w_scons (w_set 2 nd (w_min rfl (by rfl) m_min (w_cons (w_ix (w_v 0) w_int) (w_cons (w_ix (w_v 1) w_int) w_nil))))
 (w_scons (w_set 3 nd (w_call c_p_both hr h_p_both (by rfl) (w_cons (w_call c_p__side hr h_p__side (by rfl) (w_cons (w_v 0) (w_cons (w_v 2) (w_cons w_bl w_nil)))) (w_cons (w_call c_p__side hr h_p__side (by rfl) (w_cons (w_v 1) (w_cons (w_v 2) (w_cons w_bl w_nil)))) w_nil))))
 (w_scons (w_set 4 nd (w_call c_p_both hr h_p_both (by rfl) (w_cons (w_call c_p__side hr h_p__side (by rfl) (w_cons (w_v 0) (w_cons (w_v 2) (w_cons w_bl w_nil)))) (w_cons (w_call c_p__side hr h_p__side (by rfl) (w_cons (w_v 1) (w_cons (w_v 2) (w_cons w_bl w_nil)))) w_nil))))
 (w_sone (w_ret (w_call c_p__node hr h_p__node (by rfl) (w_cons (w_v 2) (w_cons (w_v 3) (w_cons (w_v 4) w_nil))))))))))))⟩
theorem bi_p_both {K : Fg} {f : Addr} {fd : FuncData} (Fd : FunD K "both" "both" (defArgs s_p_both) (defBody s_p_both) (defScope s_p_both) [] [] f fd) : Binds K fd ["condition", "other"] [] := FunD.bindsN Fd fun _ _ _ _ _ _ us hl => match us, hl with | [_, _], _ => rfl
theorem z_p_both {P : Program} {w : World} {K : Fg} {mg : Str → Option Value} {base : Heap} (D : Dn K mg "both" s_p_both) : C8.Cal P w K mg base 0 "both" (sp3 K fun _ _ _ => False) [] := D.zero bi_p_both
theorem fok_p_both {P : Program} {w : World} {K : Fg} {mg : Str → Option Value} {base : Heap} {k : Nat} {f : Addr} {fd : FuncData} (Fd : FunD K "both" "both" (defArgs s_p_both) (defBody s_p_both) (defScope s_p_both) [] [] f fd) {k_p_both : Nat} {S_p_both : WF} (c_p_both : C8.Cal P w K mg base k_p_both "both" (sp3 K S_p_both) []) (h_p_both : k_p_both ≤ k) {k_p__side : Nat} {S_p__side : WF} (c_p__side : C8.Cal P w K mg base k_p__side "_side" (sp3 K S_p__side) []) (h_p__side : k_p__side ≤ k) {k_p__node : Nat} {S_p__node : WF} (c_p__node : C8.Cal P w K mg base k_p__node "_node" (sp3 K S_p__node) []) (h_p__node : k_p__node ≤ k) (m_min : mg "min" = none) {s : WF} (len : ∀ us μ Q, s us μ Q → us.length = 2)
    (h : ∀ us μ Q, s us μ Q → W_p_both S_p_both S_p__side S_p__node (E3 μ Q) (start3 N_p_both us) μ) :
    FnOk P w K mg base C8.CX0 (k + 1) f fd ["condition", "other"] (sp3 K s) :=
  fn3F Fd sc_p_both len fun cdv A outer sh H E hr =>
    let ⟨t, ht⟩ := body_p_both c_p_both h_p_both c_p__side h_p__side c_p__node h_p__node m_min cdv f A outer sh H E hr
    ⟨t, _, ht, h⟩
theorem cal_p_both {P : Program} {w : World} {K : Fg} {mg : Str → Option Value} {base : Heap} {k : Nat} (D : Dn K mg "both" s_p_both) {k_p_both : Nat} {S_p_both : WF} (c_p_both : C8.Cal P w K mg base k_p_both "both" (sp3 K S_p_both) []) (h_p_both : k_p_both ≤ k) {k_p__side : Nat} {S_p__side : WF} (c_p__side : C8.Cal P w K mg base k_p__side "_side" (sp3 K S_p__side) []) (h_p__side : k_p__side ≤ k) {k_p__node : Nat} {S_p__node : WF} (c_p__node : C8.Cal P w K mg base k_p__node "_node" (sp3 K S_p__node) []) (h_p__node : k_p__node ≤ k) (m_min : mg "min" = none) {s : WF} (len : ∀ us μ Q, s us μ Q → us.length = 2)
    (h : ∀ us μ Q, s us μ Q → W_p_both S_p_both S_p__side S_p__node (E3 μ Q) (start3 N_p_both us) μ) :
    C8.Cal P w K mg base (k + 1) "both" (sp3 K s) [] := by
  obtain ⟨f, fd, Fd, hmg⟩ := D.ex
  exact ⟨f, fd, _, [], fok_p_both Fd c_p_both h_p_both c_p__side h_p__side c_p__node h_p__node m_min len h, hmg, Fd.kp, bi_p_both Fd, .nil⟩

/-! ### implies -/
abbrev s_p_implies : Stmt := topS 2
abbrev N_p_implies : List Str := ["condition", "other", "switch"]
theorem sc_p_implies : FnScope N_p_implies ["condition", "other"] (defScope s_p_implies) := ⟨rfl, rfl, rfl, by decide +kernel, rfl, by decide +kernel, by decide +kernel⟩
def W_p_implies (S_p_implies : WF) (S_p__side : WF) : WSt :=
  (wSeq (wIfS (wOr (wB (wOp (sIs false id) (wV 0) (wC (.bool false)))) (wB (wOp (sIs true id) (wV 1) (wC (.bool true))))) (wRet (wC (.bool true))) wNext)
  (wSeq (wIfS (wOr (wB (wOp (sIs true id) (wV 0) (wC (.bool true)))) (wB (wOp (sIs false id) (wV 1) (wC (.bool false))))) (wRet (wC (.bool false))) wNext)
  (wSeq (wAsg (wQ qMinA (wCons (wOp sIx (wV 0) (wC (.int 0))) (wCons (wOp sIx (wV 1) (wC (.int 0))) wNil))) (gN 2))
  (wSeq (wIfS (wNot (wTru (wCall S_p_implies (wCons (wCall S_p__side (wCons (wV 0) (wCons (wV 2) (wCons (wC (.bool true)) wNil)))) (wCons (wCall S_p__side (wCons (wV 1) (wCons (wV 2) (wCons (wC (.bool true)) wNil)))) wNil))))) (wRet (wC (.bool false))) wNext)
  (wRet (wCall S_p_implies (wCons (wCall S_p__side (wCons (wV 0) (wCons (wV 2) (wCons (wC (.bool false)) wNil)))) (wCons (wCall S_p__side (wCons (wV 1) (wCons (wV 2) (wCons (wC (.bool false)) wNil)))) wNil))))))))
theorem body_p_implies {P : Program} {w : World} {K : Fg} {mg : Str → Option Value} {base : Heap} {k : Nat} {k_p_implies : Nat} {S_p_implies : WF} (c_p_implies : C8.Cal P w K mg base k_p_implies "implies" (sp3 K S_p_implies) []) (h_p_implies : k_p_implies ≤ k) {k_p__side : Nat} {S_p__side : WF} (c_p__side : C8.Cal P w K mg base k_p__side "_side" (sp3 K S_p__side) []) (h_p__side : k_p__side ≤ k) (m_min : mg "min" = none)
    (cdv : Value) (f : Addr) (A : Around) (outer : List Env) (sh : Shared) (H : Hp) (E : XK) (hr : Room k (A.deeper (envOfC "implies" (defScope s_p_implies) sh.heap.objs.size f cdv))) :
    ∃ t, WSs (cxOf CX0 P w K mg base N_p_implies "implies" (defScope s_p_implies) f cdv A outer sh H E).nox (defBody s_p_implies) t (W_p_implies S_p_implies S_p__side) := by
  have nd := sc_p_implies.nd
  exact ⟨_, (w_scons (w_ifS (w_ww (w_or (w_isB (w_v 0)).t (w_or1 (w_isB (w_v 1)).t)))
 (w_sone (w_ret w_bl))
 w_snil)
 (w_scons (w_ifS (w_ww (w_or (w_isB (w_v 0)).t (w_or1 (w_isB (w_v 1)).t)))
 (w_sone (w_ret w_bl))
 w_snil)
 (w_scons (w_set 2 nd (w_min rfl (by rfl) m_min (w_cons (w_ix (w_v 0) w_int) (w_cons (w_ix (w_v 1) w_int) w_nil))))
 (w_scons (w_ifS (w_nott (w_tru (w_call c_p_implies hr h_p_implies (by rfl) (w_cons (w_call c_p__side hr h_p__side (by rfl) (w_cons (w_v 0) (w_cons (w_v 2) (w_cons w_bl w_nil)))) (w_cons (w_call c_p__side hr h_p__side (by rfl) (w_cons (w_v 1) (w_cons (w_v 2) (w_cons w_bl w_nil)))) w_nil)))))
 (w_sone (w_ret w_bl))
 w_snil)
 (w_sone (w_ret (w_call c_p_implies hr h_p_implies (by rfl) (w_cons (w_call c_p__side hr h_p__side (by rfl) (w_cons (w_v 0) (w_cons (w_v 2) (w_cons w_bl w_nil)))) (w_cons (w_call c_p__side hr h_p__side (by rfl) (w_cons (w_v 1) (w_cons (w_v 2) (w_cons w_bl w_nil)))) w_nil)))))))))⟩
theorem bi_p_implies {K : Fg} {f : Addr} {fd : FuncData} (Fd : FunD K "implies" "implies" (defArgs s_p_implies) (defBody s_p_implies) (defScope s_p_implies) [] [] f fd) : Binds K fd ["condition", "other"] [] := FunD.bindsN Fd fun _ _ _ _ _ _ us hl => match us, hl with | [_, _], _ => rfl
theorem z_p_implies {P : Program} {w : World} {K : Fg} {mg : Str → Option Value} {base : Heap} (D : Dn K mg "implies" s_p_implies) : C8.Cal P w K mg base 0 "implies" (sp3 K fun _ _ _ => False) [] := D.zero bi_p_implies
theorem fok_p_implies {P : Program} {w : World} {K : Fg} {mg : Str → Option Value} {base : Heap} {k : Nat} {f : Addr} {fd : FuncData} (Fd : FunD K "implies" "implies" (defArgs s_p_implies) (defBody s_p_implies) (defScope s_p_implies) [] [] f fd) {k_p_implies : Nat} {S_p_implies : WF} (c_p_implies : C8.Cal P w K mg base k_p_implies "implies" (sp3 K S_p_implies) []) (h_p_implies : k_p_implies ≤ k) {k_p__side : Nat} {S_p__side : WF} (c_p__side : C8.Cal P w K mg base k_p__side "_side" (sp3 K S_p__side) []) (h_p__side : k_p__side ≤ k) (m_min : mg "min" = none) {s : WF} (len : ∀ us μ Q, s us μ Q → us.length = 2)
    (h : ∀ us μ Q, s us μ Q → W_p_implies S_p_implies S_p__side (E3 μ Q) (start3 N_p_implies us) μ) :
    FnOk P w K mg base C8.CX0 (k + 1) f fd ["condition", "other"] (sp3 K s) :=
  fn3F Fd sc_p_implies len fun cdv A outer sh H E hr =>
    let ⟨t, ht⟩ := body_p_implies c_p_implies h_p_implies c_p__side h_p__side m_min cdv f A outer sh H E hr
    ⟨t, _, ht, h⟩
theorem cal_p_implies {P : Program} {w : World} {K : Fg} {mg : Str → Option Value} {base : Heap} {k : Nat} (D : Dn K mg "implies" s_p_implies) {k_p_implies : Nat} {S_p_implies : WF} (c_p_implies : C8.Cal P w K mg base k_p_implies "implies" (sp3 K S_p_implies) []) (h_p_implies : k_p_implies ≤ k) {k_p__side : Nat} {S_p__side : WF} (c_p__side : C8.Cal P w K mg base k_p__side "_side" (sp3 K S_p__side) []) (h_p__side : k_p__side ≤ k) (m_min : mg "min" = none) {s : WF} (len : ∀ us μ Q, s us μ Q → us.length = 2)
    (h : ∀ us μ Q, s us μ Q → W_p_implies S_p_implies S_p__side (E3 μ Q) (start3 N_p_implies us) μ) :
    C8.Cal P w K mg base (k + 1) "implies" (sp3 K s) [] := by
  obtain ⟨f, fd, Fd, hmg⟩ := D.ex
  exact ⟨f, fd, _, [], fok_p_implies Fd c_p_implies h_p_implies c_p__side h_p__side m_min len h, hmg, Fd.kp, bi_p_implies Fd, .nil⟩

/-! ### _side -/
abbrev s_p__side : Stmt := topS 3
abbrev N_p__side : List Str := ["condition", "switch", "on"]
theorem sc_p__side : FnScope N_p__side ["condition", "switch", "on"] (defScope s_p__side) := ⟨rfl, rfl, rfl, by decide +kernel, rfl, by decide +kernel, by decide +kernel⟩
def W_p__side : WSt :=
  (wSeq (wIfS (wAnd (wTru (wIsi "tuple" (wV 0))) (wB (wOp (sEqA id) (wOp sIx (wV 0) (wC (.int 0))) (wV 1)))) (wRet (wIf (wTru (wV 2)) (wOp sIx (wV 0) (wC (.int 1))) (wOp sIx (wV 0) (wC (.int 2))))) wNext)
  (wRet (wV 0)))
theorem body_p__side {P : Program} {w : World} {K : Fg} {mg : Str → Option Value} {base : Heap} {k : Nat} (m_isinstance : mg "isinstance" = none) (m_tuple : mg "tuple" = none)
    (cdv : Value) (f : Addr) (A : Around) (outer : List Env) (sh : Shared) (H : Hp) (E : XK) (hr : Room k (A.deeper (envOfC "_side" (defScope s_p__side) sh.heap.objs.size f cdv))) :
    ∃ t, WSs (cxOf CX0 P w K mg base N_p__side "_side" (defScope s_p__side) f cdv A outer sh H E).nox (defBody s_p__side) t (W_p__side) := by
  have nd := sc_p__side.nd
  exact ⟨_, (w_scons (w_ifS (w_ww (w_and (w_tru (w_isi (by rfl) m_isinstance boot_isinstance (by rfl) m_tuple boot_tuple' (w_v 0))) (w_and1 (w_eq hr.units (w_ix (w_v 0) w_int) (w_v 1)).t)))
 (w_sone (w_ret (w_if (w_tru (w_v 2)) (w_ix (w_v 0) w_int) (w_ix (w_v 0) w_int))))
 w_snil)
 (w_sone (w_ret (w_v 0))))⟩
theorem bi_p__side {K : Fg} {f : Addr} {fd : FuncData} (Fd : FunD K "_side" "_side" (defArgs s_p__side) (defBody s_p__side) (defScope s_p__side) [] [] f fd) : Binds K fd ["condition", "switch", "on"] [] := FunD.bindsN Fd fun _ _ _ _ _ _ us hl => match us, hl with | [_, _, _], _ => rfl
theorem z_p__side {P : Program} {w : World} {K : Fg} {mg : Str → Option Value} {base : Heap} (D : Dn K mg "_side" s_p__side) : C8.Cal P w K mg base 0 "_side" (sp3 K fun _ _ _ => False) [] := D.zero bi_p__side
theorem fok_p__side {P : Program} {w : World} {K : Fg} {mg : Str → Option Value} {base : Heap} {k : Nat} {f : Addr} {fd : FuncData} (Fd : FunD K "_side" "_side" (defArgs s_p__side) (defBody s_p__side) (defScope s_p__side) [] [] f fd) (m_isinstance : mg "isinstance" = none) (m_tuple : mg "tuple" = none) {s : WF} (len : ∀ us μ Q, s us μ Q → us.length = 3)
    (h : ∀ us μ Q, s us μ Q → W_p__side (E3 μ Q) (start3 N_p__side us) μ) :
    FnOk P w K mg base C8.CX0 (k + 1) f fd ["condition", "switch", "on"] (sp3 K s) :=
  fn3F Fd sc_p__side len fun cdv A outer sh H E hr =>
    let ⟨t, ht⟩ := body_p__side m_isinstance m_tuple cdv f A outer sh H E hr
    ⟨t, _, ht, h⟩
theorem cal_p__side {P : Program} {w : World} {K : Fg} {mg : Str → Option Value} {base : Heap} {k : Nat} (D : Dn K mg "_side" s_p__side) (m_isinstance : mg "isinstance" = none) (m_tuple : mg "tuple" = none) {s : WF} (len : ∀ us μ Q, s us μ Q → us.length = 3)
    (h : ∀ us μ Q, s us μ Q → W_p__side (E3 μ Q) (start3 N_p__side us) μ) :
    C8.Cal P w K mg base (k + 1) "_side" (sp3 K s) [] := by
  obtain ⟨f, fd, Fd, hmg⟩ := D.ex
  exact ⟨f, fd, _, [], fok_p__side Fd m_isinstance m_tuple len h, hmg, Fd.kp, bi_p__side Fd, .nil⟩

/-! ### _node -/
abbrev s_p__node : Stmt := topS 4
abbrev N_p__node : List Str := ["switch", "on", "off"]
theorem sc_p__node : FnScope N_p__node ["switch", "on", "off"] (defScope s_p__node) := ⟨rfl, rfl, rfl, by decide +kernel, rfl, by decide +kernel, by decide +kernel⟩
def W_p__node : WSt :=
  (wRet (wIf (wB (wOp (sEqA id) (wV 1) (wV 2))) (wV 1) (wTup (wCons (wV 0) (wCons (wV 1) (wCons (wV 2) wNil))))))
theorem body_p__node {P : Program} {w : World} {K : Fg} {mg : Str → Option Value} {base : Heap} {k : Nat}
    (cdv : Value) (f : Addr) (A : Around) (outer : List Env) (sh : Shared) (H : Hp) (E : XK) (hr : Room k (A.deeper (envOfC "_node" (defScope s_p__node) sh.heap.objs.size f cdv))) :
    ∃ t, WSs (cxOf CX0 P w K mg base N_p__node "_node" (defScope s_p__node) f cdv A outer sh H E).nox (defBody s_p__node) t (W_p__node) := by
  have nd := sc_p__node.nd
  exact ⟨_, (w_sone (w_ret (w_if (w_eq hr.units (w_v 1) (w_v 2)).t (w_v 1) (w_tup (w_cons (w_v 0) (w_cons (w_v 1) (w_cons (w_v 2) w_nil)))))))⟩
theorem bi_p__node {K : Fg} {f : Addr} {fd : FuncData} (Fd : FunD K "_node" "_node" (defArgs s_p__node) (defBody s_p__node) (defScope s_p__node) [] [] f fd) : Binds K fd ["switch", "on", "off"] [] := FunD.bindsN Fd fun _ _ _ _ _ _ us hl => match us, hl with | [_, _, _], _ => rfl
theorem z_p__node {P : Program} {w : World} {K : Fg} {mg : Str → Option Value} {base : Heap} (D : Dn K mg "_node" s_p__node) : C8.Cal P w K mg base 0 "_node" (sp3 K fun _ _ _ => False) [] := D.zero bi_p__node
theorem fok_p__node {P : Program} {w : World} {K : Fg} {mg : Str → Option Value} {base : Heap} {k : Nat} {f : Addr} {fd : FuncData} (Fd : FunD K "_node" "_node" (defArgs s_p__node) (defBody s_p__node) (defScope s_p__node) [] [] f fd) {s : WF} (len : ∀ us μ Q, s us μ Q → us.length = 3)
    (h : ∀ us μ Q, s us μ Q → W_p__node (E3 μ Q) (start3 N_p__node us) μ) :
    FnOk P w K mg base C8.CX0 (k + 1) f fd ["switch", "on", "off"] (sp3 K s) :=
  fn3F Fd sc_p__node len fun cdv A outer sh H E hr =>
    let ⟨t, ht⟩ := body_p__node cdv f A outer sh H E hr
    ⟨t, _, ht, h⟩
theorem cal_p__node {P : Program} {w : World} {K : Fg} {mg : Str → Option Value} {base : Heap} {k : Nat} (D : Dn K mg "_node" s_p__node) {s : WF} (len : ∀ us μ Q, s us μ Q → us.length = 3)
    (h : ∀ us μ Q, s us μ Q → W_p__node (E3 μ Q) (start3 N_p__node us) μ) :
    C8.Cal P w K mg base (k + 1) "_node" (sp3 K s) [] := by
  obtain ⟨f, fd, Fd, hmg⟩ := D.ex
  exact ⟨f, fd, _, [], fok_p__node Fd len h, hmg, Fd.kp, bi_p__node Fd, .nil⟩

/-! ### part_condition -/
abbrev s_p_part_condition : Stmt := topS 6
abbrev N_p_part_condition : List Str := ["part", "found", "switch", "on"]
theorem sc_p_part_condition : FnScope N_p_part_condition ["part"] (defScope s_p_part_condition) := ⟨rfl, rfl, rfl, by decide +kernel, rfl, by decide +kernel, by decide +kernel⟩
def W_p_part_condition (S_p_both : WF) : WSt :=
  (wSeq (wAsg (wC (.bool true)) (gN 1))
  (wSeq (wFor (jSeq (wV 0)) (gT [(gN 2), (gN 3)]) (wAsg (wCall S_p_both (wCons (wV 1) (wCons (wIf (wTru (wV 3)) (wTup (wCons (wV 2) (wCons (wC (.bool true)) (wCons (wC (.bool false)) wNil)))) (wTup (wCons (wV 2) (wCons (wC (.bool false)) (wCons (wC (.bool true)) wNil))))) wNil))) (gN 1)))
  (wRet (wV 1))))
theorem body_p_part_condition {P : Program} {w : World} {K : Fg} {mg : Str → Option Value} {base : Heap} {k : Nat} {k_p_both : Nat} {S_p_both : WF} (c_p_both : C8.Cal P w K mg base k_p_both "both" (sp3 K S_p_both) []) (h_p_both : k_p_both ≤ k)
    (cdv : Value) (f : Addr) (A : Around) (outer : List Env) (sh : Shared) (H : Hp) (E : XK) (hr : Room k (A.deeper (envOfC "part_condition" (defScope s_p_part_condition) sh.heap.objs.size f cdv))) :
    ∃ t, WSs (cxOf CX0 P w K mg base N_p_part_condition "part_condition" (defScope s_p_part_condition) f cdv A outer sh H E).nox (defBody s_p_part_condition) t (W_p_part_condition S_p_both) := by
  have nd := sc_p_part_condition.nd
  exact ⟨_, (w_scons (w_set 1 nd w_bl)
 (w_scons (w_for PassesOwn.never rfl (w_seq (w_v 0)) (w_gtup rfl (w_gcons (w_gn 2 nd) (w_gcons (w_gn 3 nd) w_gnil)))
 (w_sone (w_set 1 nd (w_call c_p_both hr h_p_both (by rfl) (w_cons (w_v 1) (w_cons (w_if (w_tru (w_v 3)) (w_tup (w_cons (w_v 2) (w_cons w_bl (w_cons w_bl w_nil)))) (w_tup (w_cons (w_v 2) (w_cons w_bl (w_cons w_bl w_nil))))) w_nil))))))
 (w_sone (w_ret (w_v 1)))))⟩
theorem bi_p_part_condition {K : Fg} {f : Addr} {fd : FuncData} (Fd : FunD K "part_condition" "part_condition" (defArgs s_p_part_condition) (defBody s_p_part_condition) (defScope s_p_part_condition) [] [] f fd) : Binds K fd ["part"] [] := FunD.bindsN Fd fun _ _ _ _ _ _ us hl => match us, hl with | [_], _ => rfl
theorem z_p_part_condition {P : Program} {w : World} {K : Fg} {mg : Str → Option Value} {base : Heap} (D : Dn K mg "part_condition" s_p_part_condition) : C8.Cal P w K mg base 0 "part_condition" (sp3 K fun _ _ _ => False) [] := D.zero bi_p_part_condition
theorem fok_p_part_condition {P : Program} {w : World} {K : Fg} {mg : Str → Option Value} {base : Heap} {k : Nat} {f : Addr} {fd : FuncData} (Fd : FunD K "part_condition" "part_condition" (defArgs s_p_part_condition) (defBody s_p_part_condition) (defScope s_p_part_condition) [] [] f fd) {k_p_both : Nat} {S_p_both : WF} (c_p_both : C8.Cal P w K mg base k_p_both "both" (sp3 K S_p_both) []) (h_p_both : k_p_both ≤ k) {s : WF} (len : ∀ us μ Q, s us μ Q → us.length = 1)
    (h : ∀ us μ Q, s us μ Q → W_p_part_condition S_p_both (E3 μ Q) (start3 N_p_part_condition us) μ) :
    FnOk P w K mg base C8.CX0 (k + 1) f fd ["part"] (sp3 K s) :=
  fn3F Fd sc_p_part_condition len fun cdv A outer sh H E hr =>
    let ⟨t, ht⟩ := body_p_part_condition c_p_both h_p_both cdv f A outer sh H E hr
    ⟨t, _, ht, h⟩
theorem cal_p_part_condition {P : Program} {w : World} {K : Fg} {mg : Str → Option Value} {base : Heap} {k : Nat} (D : Dn K mg "part_condition" s_p_part_condition) {k_p_both : Nat} {S_p_both : WF} (c_p_both : C8.Cal P w K mg base k_p_both "both" (sp3 K S_p_both) []) (h_p_both : k_p_both ≤ k) {s : WF} (len : ∀ us μ Q, s us μ Q → us.length = 1)
    (h : ∀ us μ Q, s us μ Q → W_p_part_condition S_p_both (E3 μ Q) (start3 N_p_part_condition us) μ) :
    C8.Cal P w K mg base (k + 1) "part_condition" (sp3 K s) [] := by
  obtain ⟨f, fd, Fd, hmg⟩ := D.ex
  exact ⟨f, fd, _, [], fok_p_part_condition Fd c_p_both h_p_both len h, hmg, Fd.kp, bi_p_part_condition Fd, .nil⟩

/-! ### least_causes -/
abbrev s_p_least_causes : Stmt := topS 7
abbrev N_p_least_causes : List Str := ["condition"]
theorem sc_p_least_causes : FnScope N_p_least_causes ["condition"] (defScope s_p_least_causes) := ⟨rfl, rfl, rfl, by decide +kernel, rfl, by decide +kernel, by decide +kernel⟩
def W_p_least_causes (S_p__causes : WF) : WSt :=
  (wRet (wQ qTuple (wCons (wQ qSortT (wCons (wCall S_p__causes (wCons (wV 0) wNil)) wNil)) wNil)))
theorem body_p_least_causes {P : Program} {w : World} {K : Fg} {mg : Str → Option Value} {base : Heap} {k : Nat} {k_p__causes : Nat} {S_p__causes : WF} (c_p__causes : C8.Cal P w K mg base k_p__causes "_causes" (sp3 K S_p__causes) []) (h_p__causes : k_p__causes ≤ k) (m_sorted : mg "sorted" = none) (m_tuple : mg "tuple" = none)
    (cdv : Value) (f : Addr) (A : Around) (outer : List Env) (sh : Shared) (H : Hp) (E : XK) (hr : Room k (A.deeper (envOfC "least_causes" (defScope s_p_least_causes) sh.heap.objs.size f cdv))) :
    ∃ t, WSs (cxOf CX0 P w K mg base N_p_least_causes "least_causes" (defScope s_p_least_causes) f cdv A outer sh H E).nox (defBody s_p_least_causes) t (W_p_least_causes S_p__causes) := by
  have nd := sc_p_least_causes.nd
  exact ⟨_, (w_sone (w_ret (w_tuplec (by rfl) m_tuple (w_cons (w_sortedT hr.units (by rfl) m_sorted (w_cons (w_call c_p__causes hr h_p__causes (by rfl) (w_cons (w_v 0) w_nil)) w_nil)) w_nil))))⟩
theorem bi_p_least_causes {K : Fg} {f : Addr} {fd : FuncData} (Fd : FunD K "least_causes" "least_causes" (defArgs s_p_least_causes) (defBody s_p_least_causes) (defScope s_p_least_causes) [] [] f fd) : Binds K fd ["condition"] [] := FunD.bindsN Fd fun _ _ _ _ _ _ us hl => match us, hl with | [_], _ => rfl
theorem z_p_least_causes {P : Program} {w : World} {K : Fg} {mg : Str → Option Value} {base : Heap} (D : Dn K mg "least_causes" s_p_least_causes) : C8.Cal P w K mg base 0 "least_causes" (sp3 K fun _ _ _ => False) [] := D.zero bi_p_least_causes
theorem fok_p_least_causes {P : Program} {w : World} {K : Fg} {mg : Str → Option Value} {base : Heap} {k : Nat} {f : Addr} {fd : FuncData} (Fd : FunD K "least_causes" "least_causes" (defArgs s_p_least_causes) (defBody s_p_least_causes) (defScope s_p_least_causes) [] [] f fd) {k_p__causes : Nat} {S_p__causes : WF} (c_p__causes : C8.Cal P w K mg base k_p__causes "_causes" (sp3 K S_p__causes) []) (h_p__causes : k_p__causes ≤ k) (m_sorted : mg "sorted" = none) (m_tuple : mg "tuple" = none) {s : WF} (len : ∀ us μ Q, s us μ Q → us.length = 1)
    (h : ∀ us μ Q, s us μ Q → W_p_least_causes S_p__causes (E3 μ Q) (start3 N_p_least_causes us) μ) :
    FnOk P w K mg base C8.CX0 (k + 1) f fd ["condition"] (sp3 K s) :=
  fn3F Fd sc_p_least_causes len fun cdv A outer sh H E hr =>
    let ⟨t, ht⟩ := body_p_least_causes c_p__causes h_p__causes m_sorted m_tuple cdv f A outer sh H E hr
    ⟨t, _, ht, h⟩
theorem cal_p_least_causes {P : Program} {w : World} {K : Fg} {mg : Str → Option Value} {base : Heap} {k : Nat} (D : Dn K mg "least_causes" s_p_least_causes) {k_p__causes : Nat} {S_p__causes : WF} (c_p__causes : C8.Cal P w K mg base k_p__causes "_causes" (sp3 K S_p__causes) []) (h_p__causes : k_p__causes ≤ k) (m_sorted : mg "sorted" = none) (m_tuple : mg "tuple" = none) {s : WF} (len : ∀ us μ Q, s us μ Q → us.length = 1)
    (h : ∀ us μ Q, s us μ Q → W_p_least_causes S_p__causes (E3 μ Q) (start3 N_p_least_causes us) μ) :
    C8.Cal P w K mg base (k + 1) "least_causes" (sp3 K s) [] := by
  obtain ⟨f, fd, Fd, hmg⟩ := D.ex
  exact ⟨f, fd, _, [], fok_p_least_causes Fd c_p__causes h_p__causes m_sorted m_tuple len h, hmg, Fd.kp, bi_p_least_causes Fd, .nil⟩

/-! ### _causes -/
abbrev s_p__causes : Stmt := topS 8
abbrev N_p__causes : List Str := ["condition", "causes", "switch", "on", "off", "part"]
theorem sc_p__causes : FnScope N_p__causes ["condition"] (defScope s_p__causes) := ⟨rfl, rfl, rfl, by decide +kernel, rfl, by decide +kernel, by decide +kernel⟩
def W_p__causes (S_p__causes : WF) (S_p_both : WF) (S_p__is_cause : WF) : WSt :=
  (wSeq (wIfS (wNot (wTru (wIsi "tuple" (wV 0)))) (wRet (wIf (wTru (wV 0)) (wLstM (wCons (wTup wNil) wNil)) (wLstM wNil))) wNext)
  (wSeq (wAsg (wV 0) (gT [(gN 2), (gN 3), (gN 4)]))
  (wSeq (wAsg (wCall S_p__causes (wCons (wCall S_p_both (wCons (wV 3) (wCons (wV 4) wNil))) wNil)) (gN 1))
  (wSeq (wDrop (wML mExtM (wV 1) (wCons (wLcM (jSeq (wCall S_p__causes (wCons (wV 3) wNil))) [5] (gN 5) (wNot (wTru (wCall S_p__is_cause (wCons (wV 5) (wCons (wV 4) wNil))))) (wTup (wCons (wTup (wCons (wV 2) (wCons (wC (.bool true)) wNil))) (wStar (wV 5) wNil)))) wNil)))
  (wSeq (wDrop (wML mExtM (wV 1) (wCons (wLcM (jSeq (wCall S_p__causes (wCons (wV 4) wNil))) [5] (gN 5) (wNot (wTru (wCall S_p__is_cause (wCons (wV 5) (wCons (wV 3) wNil))))) (wTup (wCons (wTup (wCons (wV 2) (wCons (wC (.bool false)) wNil))) (wStar (wV 5) wNil)))) wNil)))
  (wRet (wV 1)))))))
theorem body_p__causes {P : Program} {w : World} {K : Fg} {mg : Str → Option Value} {base : Heap} {k : Nat} {k_p__causes : Nat} {S_p__causes : WF} (c_p__causes : C8.Cal P w K mg base k_p__causes "_causes" (sp3 K S_p__causes) []) (h_p__causes : k_p__causes ≤ k) {k_p_both : Nat} {S_p_both : WF} (c_p_both : C8.Cal P w K mg base k_p_both "both" (sp3 K S_p_both) []) (h_p_both : k_p_both ≤ k) {k_p__is_cause : Nat} {S_p__is_cause : WF} (c_p__is_cause : C8.Cal P w K mg base k_p__is_cause "_is_cause" (sp3 K S_p__is_cause) []) (h_p__is_cause : k_p__is_cause ≤ k) (m_isinstance : mg "isinstance" = none) (m_tuple : mg "tuple" = none)
    (cdv : Value) (f : Addr) (A : Around) (outer : List Env) (sh : Shared) (H : Hp) (E : XK) (hr : Room k (A.deeper (envOfC "_causes" (defScope s_p__causes) sh.heap.objs.size f cdv))) :
    ∃ t, WSs (cxOf CX0 P w K mg base N_p__causes "_causes" (defScope s_p__causes) f cdv A outer sh H E).nox (defBody s_p__causes) t (W_p__causes S_p__causes S_p_both S_p__is_cause) := by
  have nd := sc_p__causes.nd
  exact ⟨_, (w_scons (w_ifS (w_nott (w_tru (w_isi (by rfl) m_isinstance boot_isinstance (by rfl) m_tuple boot_tuple' (w_v 0))))
 (w_sone (w_ret (w_if (w_tru (w_v 0)) (w_lstM (w_cons (w_tup w_nil) w_nil)) (w_lstM w_nil))))
 w_snil)
 (w_scons (w_asg (w_v 0) (w_gtup rfl (w_gcons (w_gn 2 nd) (w_gcons (w_gn 3 nd) (w_gcons (w_gn 4 nd) w_gnil)))))
 (w_scons (w_set 1 nd (w_call c_p__causes hr h_p__causes (by rfl) (w_cons (w_call c_p_both hr h_p_both (by rfl) (w_cons (w_v 3) (w_cons (w_v 4) w_nil))) w_nil)))
 (w_scons (w_expr (w_extM (w_v 1) (w_cons (w_lcM1 "part" 5 rfl nd (w_seq (w_call c_p__causes hr h_p__causes (by rfl) (w_cons (w_v 3) w_nil))) (blkOk_by (N := N_p__causes) (sc := defScope s_p__causes) (by decide +kernel)) (go_name (by decide)) (w_gn 5 nd) (w_tsone (w_nott (w_tru (w_call c_p__is_cause hr h_p__is_cause (by rfl) (w_cons (w_v 5) (w_cons (w_v 4) w_nil)))))) (w_tup (w_cons (w_tup (w_cons (w_v 2) (w_cons w_bl w_nil))) (w_star (w_v 5) w_nil))) (fun _ _ _ _ _ => (w_gn 5 nd)) (fun _ _ _ _ _ => (w_tsone (w_nott (w_tru (w_call c_p__is_cause hr h_p__is_cause (by rfl) (w_cons (w_v 5) (w_cons (w_v 4) w_nil))))))) (fun _ _ _ _ _ => (w_tup (w_cons (w_tup (w_cons (w_v 2) (w_cons w_bl w_nil))) (w_star (w_v 5) w_nil))))) w_nil)))
 (w_scons (w_expr (w_extM (w_v 1) (w_cons (w_lcM1 "part" 5 rfl nd (w_seq (w_call c_p__causes hr h_p__causes (by rfl) (w_cons (w_v 4) w_nil))) (blkOk_by (N := N_p__causes) (sc := defScope s_p__causes) (by decide +kernel)) (go_name (by decide)) (w_gn 5 nd) (w_tsone (w_nott (w_tru (w_call c_p__is_cause hr h_p__is_cause (by rfl) (w_cons (w_v 5) (w_cons (w_v 3) w_nil)))))) (w_tup (w_cons (w_tup (w_cons (w_v 2) (w_cons w_bl w_nil))) (w_star (w_v 5) w_nil))) (fun _ _ _ _ _ => (w_gn 5 nd)) (fun _ _ _ _ _ => (w_tsone (w_nott (w_tru (w_call c_p__is_cause hr h_p__is_cause (by rfl) (w_cons (w_v 5) (w_cons (w_v 3) w_nil))))))) (fun _ _ _ _ _ => (w_tup (w_cons (w_tup (w_cons (w_v 2) (w_cons w_bl w_nil))) (w_star (w_v 5) w_nil))))) w_nil)))
 (w_sone (w_ret (w_v 1))))))))⟩
theorem bi_p__causes {K : Fg} {f : Addr} {fd : FuncData} (Fd : FunD K "_causes" "_causes" (defArgs s_p__causes) (defBody s_p__causes) (defScope s_p__causes) [] [] f fd) : Binds K fd ["condition"] [] := FunD.bindsN Fd fun _ _ _ _ _ _ us hl => match us, hl with | [_], _ => rfl
theorem z_p__causes {P : Program} {w : World} {K : Fg} {mg : Str → Option Value} {base : Heap} (D : Dn K mg "_causes" s_p__causes) : C8.Cal P w K mg base 0 "_causes" (sp3 K fun _ _ _ => False) [] := D.zero bi_p__causes
theorem fok_p__causes {P : Program} {w : World} {K : Fg} {mg : Str → Option Value} {base : Heap} {k : Nat} {f : Addr} {fd : FuncData} (Fd : FunD K "_causes" "_causes" (defArgs s_p__causes) (defBody s_p__causes) (defScope s_p__causes) [] [] f fd) {k_p__causes : Nat} {S_p__causes : WF} (c_p__causes : C8.Cal P w K mg base k_p__causes "_causes" (sp3 K S_p__causes) []) (h_p__causes : k_p__causes ≤ k) {k_p_both : Nat} {S_p_both : WF} (c_p_both : C8.Cal P w K mg base k_p_both "both" (sp3 K S_p_both) []) (h_p_both : k_p_both ≤ k) {k_p__is_cause : Nat} {S_p__is_cause : WF} (c_p__is_cause : C8.Cal P w K mg base k_p__is_cause "_is_cause" (sp3 K S_p__is_cause) []) (h_p__is_cause : k_p__is_cause ≤ k) (m_isinstance : mg "isinstance" = none) (m_tuple : mg "tuple" = none) {s : WF} (len : ∀ us μ Q, s us μ Q → us.length = 1)
    (h : ∀ us μ Q, s us μ Q → W_p__causes S_p__causes S_p_both S_p__is_cause (E3 μ Q) (start3 N_p__causes us) μ) :
    FnOk P w K mg base C8.CX0 (k + 1) f fd ["condition"] (sp3 K s) :=
  fn3F Fd sc_p__causes len fun cdv A outer sh H E hr =>
    let ⟨t, ht⟩ := body_p__causes c_p__causes h_p__causes c_p_both h_p_both c_p__is_cause h_p__is_cause m_isinstance m_tuple cdv f A outer sh H E hr
    ⟨t, _, ht, h⟩
theorem cal_p__causes {P : Program} {w : World} {K : Fg} {mg : Str → Option Value} {base : Heap} {k : Nat} (D : Dn K mg "_causes" s_p__causes) {k_p__causes : Nat} {S_p__causes : WF} (c_p__causes : C8.Cal P w K mg base k_p__causes "_causes" (sp3 K S_p__causes) []) (h_p__causes : k_p__causes ≤ k) {k_p_both : Nat} {S_p_both : WF} (c_p_both : C8.Cal P w K mg base k_p_both "both" (sp3 K S_p_both) []) (h_p_both : k_p_both ≤ k) {k_p__is_cause : Nat} {S_p__is_cause : WF} (c_p__is_cause : C8.Cal P w K mg base k_p__is_cause "_is_cause" (sp3 K S_p__is_cause) []) (h_p__is_cause : k_p__is_cause ≤ k) (m_isinstance : mg "isinstance" = none) (m_tuple : mg "tuple" = none) {s : WF} (len : ∀ us μ Q, s us μ Q → us.length = 1)
    (h : ∀ us μ Q, s us μ Q → W_p__causes S_p__causes S_p_both S_p__is_cause (E3 μ Q) (start3 N_p__causes us) μ) :
    C8.Cal P w K mg base (k + 1) "_causes" (sp3 K s) [] := by
  obtain ⟨f, fd, Fd, hmg⟩ := D.ex
  exact ⟨f, fd, _, [], fok_p__causes Fd c_p__causes h_p__causes c_p_both h_p_both c_p__is_cause h_p__is_cause m_isinstance m_tuple len h, hmg, Fd.kp, bi_p__causes Fd, .nil⟩

/-! ### _is_cause -/
abbrev s_p__is_cause : Stmt := topS 9
abbrev N_p__is_cause : List Str := ["part", "condition"]
theorem sc_p__is_cause : FnScope N_p__is_cause ["part", "condition"] (defScope s_p__is_cause) := ⟨rfl, rfl, rfl, by decide +kernel, rfl, by decide +kernel, by decide +kernel⟩
def W_p__is_cause (S_p_implies : WF) (S_p_part_condition : WF) : WSt :=
  (wRet (wCall S_p_implies (wCons (wCall S_p_part_condition (wCons (wV 0) wNil)) (wCons (wV 1) wNil))))
theorem body_p__is_cause {P : Program} {w : World} {K : Fg} {mg : Str → Option Value} {base : Heap} {k : Nat} {k_p_implies : Nat} {S_p_implies : WF} (c_p_implies : C8.Cal P w K mg base k_p_implies "implies" (sp3 K S_p_implies) []) (h_p_implies : k_p_implies ≤ k) {k_p_part_condition : Nat} {S_p_part_condition : WF} (c_p_part_condition : C8.Cal P w K mg base k_p_part_condition "part_condition" (sp3 K S_p_part_condition) []) (h_p_part_condition : k_p_part_condition ≤ k)
    (cdv : Value) (f : Addr) (A : Around) (outer : List Env) (sh : Shared) (H : Hp) (E : XK) (hr : Room k (A.deeper (envOfC "_is_cause" (defScope s_p__is_cause) sh.heap.objs.size f cdv))) :
    ∃ t, WSs (cxOf CX0 P w K mg base N_p__is_cause "_is_cause" (defScope s_p__is_cause) f cdv A outer sh H E).nox (defBody s_p__is_cause) t (W_p__is_cause S_p_implies S_p_part_condition) := by
  have nd := sc_p__is_cause.nd
  exact ⟨_, (w_sone (w_ret (w_call c_p_implies hr h_p_implies (by rfl) (w_cons (w_call c_p_part_condition hr h_p_part_condition (by rfl) (w_cons (w_v 0) w_nil)) (w_cons (w_v 1) w_nil)))))⟩
theorem bi_p__is_cause {K : Fg} {f : Addr} {fd : FuncData} (Fd : FunD K "_is_cause" "_is_cause" (defArgs s_p__is_cause) (defBody s_p__is_cause) (defScope s_p__is_cause) [] [] f fd) : Binds K fd ["part", "condition"] [] := FunD.bindsN Fd fun _ _ _ _ _ _ us hl => match us, hl with | [_, _], _ => rfl
theorem z_p__is_cause {P : Program} {w : World} {K : Fg} {mg : Str → Option Value} {base : Heap} (D : Dn K mg "_is_cause" s_p__is_cause) : C8.Cal P w K mg base 0 "_is_cause" (sp3 K fun _ _ _ => False) [] := D.zero bi_p__is_cause
theorem fok_p__is_cause {P : Program} {w : World} {K : Fg} {mg : Str → Option Value} {base : Heap} {k : Nat} {f : Addr} {fd : FuncData} (Fd : FunD K "_is_cause" "_is_cause" (defArgs s_p__is_cause) (defBody s_p__is_cause) (defScope s_p__is_cause) [] [] f fd) {k_p_implies : Nat} {S_p_implies : WF} (c_p_implies : C8.Cal P w K mg base k_p_implies "implies" (sp3 K S_p_implies) []) (h_p_implies : k_p_implies ≤ k) {k_p_part_condition : Nat} {S_p_part_condition : WF} (c_p_part_condition : C8.Cal P w K mg base k_p_part_condition "part_condition" (sp3 K S_p_part_condition) []) (h_p_part_condition : k_p_part_condition ≤ k) {s : WF} (len : ∀ us μ Q, s us μ Q → us.length = 2)
    (h : ∀ us μ Q, s us μ Q → W_p__is_cause S_p_implies S_p_part_condition (E3 μ Q) (start3 N_p__is_cause us) μ) :
    FnOk P w K mg base C8.CX0 (k + 1) f fd ["part", "condition"] (sp3 K s) :=
  fn3F Fd sc_p__is_cause len fun cdv A outer sh H E hr =>
    let ⟨t, ht⟩ := body_p__is_cause c_p_implies h_p_implies c_p_part_condition h_p_part_condition cdv f A outer sh H E hr
    ⟨t, _, ht, h⟩
theorem cal_p__is_cause {P : Program} {w : World} {K : Fg} {mg : Str → Option Value} {base : Heap} {k : Nat} (D : Dn K mg "_is_cause" s_p__is_cause) {k_p_implies : Nat} {S_p_implies : WF} (c_p_implies : C8.Cal P w K mg base k_p_implies "implies" (sp3 K S_p_implies) []) (h_p_implies : k_p_implies ≤ k) {k_p_part_condition : Nat} {S_p_part_condition : WF} (c_p_part_condition : C8.Cal P w K mg base k_p_part_condition "part_condition" (sp3 K S_p_part_condition) []) (h_p_part_condition : k_p_part_condition ≤ k) {s : WF} (len : ∀ us μ Q, s us μ Q → us.length = 2)
    (h : ∀ us μ Q, s us μ Q → W_p__is_cause S_p_implies S_p_part_condition (E3 μ Q) (start3 N_p__is_cause us) μ) :
    C8.Cal P w K mg base (k + 1) "_is_cause" (sp3 K s) [] := by
  obtain ⟨f, fd, Fd, hmg⟩ := D.ex
  exact ⟨f, fd, _, [], fok_p__is_cause Fd c_p_implies h_p_implies c_p_part_condition h_p_part_condition len h, hmg, Fd.kp, bi_p__is_cause Fd, .nil⟩

/-! ### _law_hand -/
abbrev s_l_hand : Stmt := topS 11
abbrev N_l_hand : List Str := ["_law_script", "_law_total", "_law_cells", "_law_cell"]
theorem sc_l_hand : FnScope N_l_hand ["_law_script"] (defScope s_l_hand) := ⟨rfl, rfl, rfl, by decide +kernel, rfl, by decide +kernel, by decide +kernel⟩
def W_l_hand : WSt :=
  (wSeq (wAsg (wOp sAdd (wOp sMul (wQ qLenA (wCons (wV 0) wNil)) (wC (.int 37))) (wC (.int 101))) (gN 1))
  (wSeq (wAsg (wLstM wNil) (gN 2))
  (wSeq (wFor (jSeq (wV 0)) (gN 3) (wSeq (wAsg (wOp sMod (wQ qInt (wCons (wOp sAdd (wOp sMul (wV 1) (wC (.int 2011))) (wQ qInt (wCons (wV 3) wNil))) wNil)) (wC (.int 2147483543))) (gN 1))
  (wDrop (wML mAppend (wV 2) (wCons (wQ qAbs (wCons (wQ qInt (wCons (wV 3) wNil)) wNil)) wNil)))))
  (wFrz 2 (wRet (wLstM (wCons (wV 2) (wCons (wC (.int 0)) (wCons (wC (.int 0)) (wCons (wV 1) wNil))))))))))
theorem body_l_hand {P : Program} {w : World} {K : Fg} {mg : Str → Option Value} {base : Heap} {k : Nat} (m_len : mg "len" = none) (m_int : mg "int" = none) (m_abs : mg "abs" = none)
    (cdv : Value) (f : Addr) (A : Around) (outer : List Env) (sh : Shared) (H : Hp) (E : XK) (hr : Room k (A.deeper (envOfC "_law_hand" (defScope s_l_hand) sh.heap.objs.size f cdv))) :
    ∃ t, WSs (cxOf CX0 P w K mg base N_l_hand "_law_hand" (defScope s_l_hand) f cdv A outer sh H E).nox (defBody s_l_hand) t (W_l_hand) := by
  have nd := sc_l_hand.nd
  exact ⟨_, (w_scons (w_set 1 nd (w_add (w_mul (w_len (by rfl) m_len (w_cons (w_v 0) w_nil)) w_int) w_int))
 (w_scons (w_set 2 nd (w_lstM w_nil))
 (w_scons (w_for PassesOwn.never rfl (w_seq (w_v 0)) (w_gn 3 nd)
 (w_scons (w_set 1 nd (w_mod (w_intc (by rfl) m_int (w_cons (w_add (w_mul (w_v 1) w_int) (w_intc (by rfl) m_int (w_cons (w_v 3) w_nil))) w_nil)) w_int))
 (w_sone (w_expr (w_append (w_v 2) (w_cons (w_abs (by rfl) m_abs (w_cons (w_intc (by rfl) m_int (w_cons (w_v 3) w_nil)) w_nil)) w_nil))))))
 (w_frz 2 (w_sone (w_ret (w_lstM (w_cons (w_v 2) (w_cons w_int (w_cons w_int (w_cons (w_v 1) w_nil)))))))))))⟩
theorem bi_l_hand {K : Fg} {f : Addr} {fd : FuncData} (Fd : FunD K "_law_hand" "_law_hand" (defArgs s_l_hand) (defBody s_l_hand) (defScope s_l_hand) [] [] f fd) : Binds K fd ["_law_script"] [] := FunD.bindsN Fd fun _ _ _ _ _ _ us hl => match us, hl with | [_], _ => rfl
theorem z_l_hand {P : Program} {w : World} {K : Fg} {mg : Str → Option Value} {base : Heap} (D : Dn K mg "_law_hand" s_l_hand) : C8.Cal P w K mg base 0 "_law_hand" (sp3 K fun _ _ _ => False) [] := D.zero bi_l_hand
theorem fok_l_hand {P : Program} {w : World} {K : Fg} {mg : Str → Option Value} {base : Heap} {k : Nat} {f : Addr} {fd : FuncData} (Fd : FunD K "_law_hand" "_law_hand" (defArgs s_l_hand) (defBody s_l_hand) (defScope s_l_hand) [] [] f fd) (m_len : mg "len" = none) (m_int : mg "int" = none) (m_abs : mg "abs" = none) {s : WF} (len : ∀ us μ Q, s us μ Q → us.length = 1)
    (h : ∀ us μ Q, s us μ Q → W_l_hand (E3 μ Q) (start3 N_l_hand us) μ) :
    FnOk P w K mg base C8.CX0 (k + 1) f fd ["_law_script"] (sp3 K s) :=
  fn3F Fd sc_l_hand len fun cdv A outer sh H E hr =>
    let ⟨t, ht⟩ := body_l_hand m_len m_int m_abs cdv f A outer sh H E hr
    ⟨t, _, ht, h⟩
theorem cal_l_hand {P : Program} {w : World} {K : Fg} {mg : Str → Option Value} {base : Heap} {k : Nat} (D : Dn K mg "_law_hand" s_l_hand) (m_len : mg "len" = none) (m_int : mg "int" = none) (m_abs : mg "abs" = none) {s : WF} (len : ∀ us μ Q, s us μ Q → us.length = 1)
    (h : ∀ us μ Q, s us μ Q → W_l_hand (E3 μ Q) (start3 N_l_hand us) μ) :
    C8.Cal P w K mg base (k + 1) "_law_hand" (sp3 K s) [] := by
  obtain ⟨f, fd, Fd, hmg⟩ := D.ex
  exact ⟨f, fd, _, [], fok_l_hand Fd m_len m_int m_abs len h, hmg, Fd.kp, bi_l_hand Fd, .nil⟩

/-! ### _law_stirred -/
abbrev s_l_stirred : Stmt := topS 12
abbrev N_l_stirred : List Str := ["_law_number", "_law_turn", "_law_once", "_law_twice"]
theorem sc_l_stirred : FnScope N_l_stirred ["_law_number", "_law_turn"] (defScope s_l_stirred) := ⟨rfl, rfl, rfl, by decide +kernel, rfl, by decide +kernel, by decide +kernel⟩
def W_l_stirred : WSt :=
  (wSeq (wAsg (wOp sMod (wQ qInt (wCons (wOp sAdd (wOp sAdd (wOp sMul (wV 0) (wC (.int 48017))) (wOp sMul (wV 1) (wC (.int 8821)))) (wC (.int 70001))) wNil)) (wC (.int 2147483423))) (gN 2))
  (wSeq (wAsg (wOp sMod (wQ qInt (wCons (wOp sAdd (wOp sAdd (wOp sMul (wV 2) (wV 2)) (wOp sMul (wV 1) (wC (.int 60017)))) (wOp sFdiv (wV 2) (wC (.int 151)))) wNil)) (wC (.int 2147483477))) (gN 3))
  (wRet (wOp sFdiv (wQ qInt (wCons (wOp sMod (wQ qInt (wCons (wOp sAdd (wOp sMul (wV 3) (wC (.int 51199))) (wOp sFdiv (wV 2) (wC (.int 17)))) wNil)) (wC (.int 2147483549))) wNil)) (wC (.int 128))))))
theorem body_l_stirred {P : Program} {w : World} {K : Fg} {mg : Str → Option Value} {base : Heap} {k : Nat} (m_int : mg "int" = none)
    (cdv : Value) (f : Addr) (A : Around) (outer : List Env) (sh : Shared) (H : Hp) (E : XK) (hr : Room k (A.deeper (envOfC "_law_stirred" (defScope s_l_stirred) sh.heap.objs.size f cdv))) :
    ∃ t, WSs (cxOf CX0 P w K mg base N_l_stirred "_law_stirred" (defScope s_l_stirred) f cdv A outer sh H E).nox (defBody s_l_stirred) t (W_l_stirred) := by
  have nd := sc_l_stirred.nd
  exact ⟨_, (w_scons (w_set 2 nd (w_mod (w_intc (by rfl) m_int (w_cons (w_add (w_add (w_mul (w_v 0) w_int) (w_mul (w_v 1) w_int)) w_int) w_nil)) w_int))
 (w_scons (w_set 3 nd (w_mod (w_intc (by rfl) m_int (w_cons (w_add (w_add (w_mul (w_v 2) (w_v 2)) (w_mul (w_v 1) w_int)) (w_fdiv (w_v 2) w_int)) w_nil)) w_int))
 (w_sone (w_ret (w_fdiv (w_intc (by rfl) m_int (w_cons (w_mod (w_intc (by rfl) m_int (w_cons (w_add (w_mul (w_v 3) w_int) (w_fdiv (w_v 2) w_int)) w_nil)) w_int) w_nil)) w_int)))))⟩
theorem bi_l_stirred {K : Fg} {f : Addr} {fd : FuncData} (Fd : FunD K "_law_stirred" "_law_stirred" (defArgs s_l_stirred) (defBody s_l_stirred) (defScope s_l_stirred) [] [] f fd) : Binds K fd ["_law_number", "_law_turn"] [] := FunD.bindsN Fd fun _ _ _ _ _ _ us hl => match us, hl with | [_, _], _ => rfl
theorem z_l_stirred {P : Program} {w : World} {K : Fg} {mg : Str → Option Value} {base : Heap} (D : Dn K mg "_law_stirred" s_l_stirred) : C8.Cal P w K mg base 0 "_law_stirred" (sp3 K fun _ _ _ => False) [] := D.zero bi_l_stirred
theorem fok_l_stirred {P : Program} {w : World} {K : Fg} {mg : Str → Option Value} {base : Heap} {k : Nat} {f : Addr} {fd : FuncData} (Fd : FunD K "_law_stirred" "_law_stirred" (defArgs s_l_stirred) (defBody s_l_stirred) (defScope s_l_stirred) [] [] f fd) (m_int : mg "int" = none) {s : WF} (len : ∀ us μ Q, s us μ Q → us.length = 2)
    (h : ∀ us μ Q, s us μ Q → W_l_stirred (E3 μ Q) (start3 N_l_stirred us) μ) :
    FnOk P w K mg base C8.CX0 (k + 1) f fd ["_law_number", "_law_turn"] (sp3 K s) :=
  fn3F Fd sc_l_stirred len fun cdv A outer sh H E hr =>
    let ⟨t, ht⟩ := body_l_stirred m_int cdv f A outer sh H E hr
    ⟨t, _, ht, h⟩
theorem cal_l_stirred {P : Program} {w : World} {K : Fg} {mg : Str → Option Value} {base : Heap} {k : Nat} (D : Dn K mg "_law_stirred" s_l_stirred) (m_int : mg "int" = none) {s : WF} (len : ∀ us μ Q, s us μ Q → us.length = 2)
    (h : ∀ us μ Q, s us μ Q → W_l_stirred (E3 μ Q) (start3 N_l_stirred us) μ) :
    C8.Cal P w K mg base (k + 1) "_law_stirred" (sp3 K s) [] := by
  obtain ⟨f, fd, Fd, hmg⟩ := D.ex
  exact ⟨f, fd, _, [], fok_l_stirred Fd m_int len h, hmg, Fd.kp, bi_l_stirred Fd, .nil⟩

/-! ### _law_take -/
abbrev s_l_take : Stmt := topS 13
abbrev N_l_take : List Str := ["_law_hand_here", "_law_many", "_law_cell", "_law_rest"]
theorem sc_l_take : FnScope N_l_take ["_law_hand_here", "_law_many"] (defScope s_l_take) := ⟨rfl, rfl, rfl, by decide +kernel, rfl, by decide +kernel, by decide +kernel⟩
def W_l_take (S_l_stirred : WF) : WSt :=
  (wOpen 0 (wSeq (wIfS (wAnd (wB (wOp (sEqA id) (wOp sIx (wV 0) (wC (.int 2))) (wC (.int 0)))) (wB (wOp sLt (wOp sIx (wV 0) (wC (.int 1))) (wQ qLenA (wCons (wOp sIx (wV 0) (wC (.int 0))) wNil))))) (wSeq (wAsg (wOp sIx (wOp sIx (wV 0) (wC (.int 0))) (wOp sIx (wV 0) (wC (.int 1)))) (gN 2))
  (wSeq (wAsg (wOp sAdd (wOp sIx (wV 0) (wC (.int 1))) (wC (.int 1))) (gIx (wV 0) (wC (.int 1))))
  (wSeq (wIfS (wB (wOp sLt (wV 2) (wOp sPow (wC (.int 10)) (wC (.int 18))))) (wRet (wOp sMod (wQ qInt (wCons (wCall S_l_stirred (wCons (wOp sMod (wQ qInt (wCons (wV 2) wNil)) (wC (.int 2147483423))) (wCons (wOp sIx (wV 0) (wC (.int 1))) wNil))) wNil)) (wV 1))) wNext)
  (wAsg (wV 2) (gIx (wV 0) (wC (.int 2))))))) wNext)
  (wSeq (wIfS (wB (wOp sGt (wOp sIx (wV 0) (wC (.int 2))) (wC (.int 0)))) (wSeq (wAsg (wOp sIx (wV 0) (wC (.int 2))) (gN 3))
  (wSeq (wAsg (wOp sFdiv (wQ qInt (wCons (wV 3) wNil)) (wV 1)) (gIx (wV 0) (wC (.int 2))))
  (wRet (wOp sMod (wQ qInt (wCons (wV 3) wNil)) (wV 1))))) wNext)
  (wSeq (wAsg (wOp sMod (wQ qInt (wCons (wOp sAdd (wOp sIx (wV 0) (wC (.int 3))) (wC (.int 1))) wNil)) (wC (.int 2147483477))) (gIx (wV 0) (wC (.int 3))))
  (wRet (wOp sMod (wQ qInt (wCons (wCall S_l_stirred (wCons (wOp sIx (wV 0) (wC (.int 3))) (wCons (wOp sIx (wV 0) (wC (.int 1))) wNil))) wNil)) (wV 1)))))))
theorem body_l_take {P : Program} {w : World} {K : Fg} {mg : Str → Option Value} {base : Heap} {k : Nat} {k_l_stirred : Nat} {S_l_stirred : WF} (c_l_stirred : C8.Cal P w K mg base k_l_stirred "_law_stirred" (sp3 K S_l_stirred) []) (h_l_stirred : k_l_stirred ≤ k) (m_len : mg "len" = none) (m_int : mg "int" = none)
    (cdv : Value) (f : Addr) (A : Around) (outer : List Env) (sh : Shared) (H : Hp) (E : XK) (hr : Room k (A.deeper (envOfC "_law_take" (defScope s_l_take) sh.heap.objs.size f cdv))) :
    ∃ t, WSs (cxOf CX0 P w K mg base N_l_take "_law_take" (defScope s_l_take) f cdv A outer sh H E).nox (defBody s_l_take) t (W_l_take S_l_stirred) := by
  have nd := sc_l_take.nd
  exact ⟨_, (w_open 0 (w_scons (w_ifS (w_ww (w_and (w_eq hr.units (w_ix (w_v 0) w_int) w_int).t (w_and1 (w_lt (w_ix (w_v 0) w_int) (w_len (by rfl) m_len (w_cons (w_ix (w_v 0) w_int) w_nil))).t)))
 (w_scons (w_set 2 nd (w_ix (w_ix (w_v 0) w_int) (w_ix (w_v 0) w_int)))
 (w_scons (w_asg (w_add (w_ix (w_v 0) w_int) w_int) (w_gix (w_v 0) w_int))
 (w_scons (w_ifS (w_lt (w_v 2) (w_pow w_int w_int)).t
 (w_sone (w_ret (w_mod (w_intc (by rfl) m_int (w_cons (w_call c_l_stirred hr h_l_stirred (by rfl) (w_cons (w_mod (w_intc (by rfl) m_int (w_cons (w_v 2) w_nil)) w_int) (w_cons (w_ix (w_v 0) w_int) w_nil))) w_nil)) (w_v 1))))
 w_snil)
 (w_sone (w_asg (w_v 2) (w_gix (w_v 0) w_int))))))
 w_snil)
 (w_scons (w_ifS (w_gt (w_ix (w_v 0) w_int) w_int).t
 (w_scons (w_set 3 nd (w_ix (w_v 0) w_int))
 (w_scons (w_asg (w_fdiv (w_intc (by rfl) m_int (w_cons (w_v 3) w_nil)) (w_v 1)) (w_gix (w_v 0) w_int))
 (w_sone (w_ret (w_mod (w_intc (by rfl) m_int (w_cons (w_v 3) w_nil)) (w_v 1))))))
 w_snil)
 (w_scons (w_asg (w_mod (w_intc (by rfl) m_int (w_cons (w_add (w_ix (w_v 0) w_int) w_int) w_nil)) w_int) (w_gix (w_v 0) w_int))
 (w_sone (w_ret (w_mod (w_intc (by rfl) m_int (w_cons (w_call c_l_stirred hr h_l_stirred (by rfl) (w_cons (w_ix (w_v 0) w_int) (w_cons (w_ix (w_v 0) w_int) w_nil))) w_nil)) (w_v 1))))))))⟩
theorem bi_l_take {K : Fg} {f : Addr} {fd : FuncData} (Fd : FunD K "_law_take" "_law_take" (defArgs s_l_take) (defBody s_l_take) (defScope s_l_take) [] [] f fd) : Binds K fd ["_law_hand_here", "_law_many"] [] := FunD.bindsN Fd fun _ _ _ _ _ _ us hl => match us, hl with | [_, _], _ => rfl
theorem z_l_take {P : Program} {w : World} {K : Fg} {mg : Str → Option Value} {base : Heap} (D : Dn K mg "_law_take" s_l_take) : C8.Cal P w K mg base 0 "_law_take" (sp3 K fun _ _ _ => False) [] := D.zero bi_l_take
theorem fok_l_take {P : Program} {w : World} {K : Fg} {mg : Str → Option Value} {base : Heap} {k : Nat} {f : Addr} {fd : FuncData} (Fd : FunD K "_law_take" "_law_take" (defArgs s_l_take) (defBody s_l_take) (defScope s_l_take) [] [] f fd) {k_l_stirred : Nat} {S_l_stirred : WF} (c_l_stirred : C8.Cal P w K mg base k_l_stirred "_law_stirred" (sp3 K S_l_stirred) []) (h_l_stirred : k_l_stirred ≤ k) (m_len : mg "len" = none) (m_int : mg "int" = none) {s : WF} (len : ∀ us μ Q, s us μ Q → us.length = 2)
    (h : ∀ us μ Q, s us μ Q → W_l_take S_l_stirred (E3 μ Q) (start3 N_l_take us) μ) :
    FnOk P w K mg base C8.CX0 (k + 1) f fd ["_law_hand_here", "_law_many"] (sp3 K s) :=
  fn3F Fd sc_l_take len fun cdv A outer sh H E hr =>
    let ⟨t, ht⟩ := body_l_take c_l_stirred h_l_stirred m_len m_int cdv f A outer sh H E hr
    ⟨t, _, ht, h⟩
theorem cal_l_take {P : Program} {w : World} {K : Fg} {mg : Str → Option Value} {base : Heap} {k : Nat} (D : Dn K mg "_law_take" s_l_take) {k_l_stirred : Nat} {S_l_stirred : WF} (c_l_stirred : C8.Cal P w K mg base k_l_stirred "_law_stirred" (sp3 K S_l_stirred) []) (h_l_stirred : k_l_stirred ≤ k) (m_len : mg "len" = none) (m_int : mg "int" = none) {s : WF} (len : ∀ us μ Q, s us μ Q → us.length = 2)
    (h : ∀ us μ Q, s us μ Q → W_l_take S_l_stirred (E3 μ Q) (start3 N_l_take us) μ) :
    C8.Cal P w K mg base (k + 1) "_law_take" (sp3 K s) [] := by
  obtain ⟨f, fd, Fd, hmg⟩ := D.ex
  exact ⟨f, fd, _, [], fok_l_take Fd c_l_stirred h_l_stirred m_len m_int len h, hmg, Fd.kp, bi_l_take Fd, .nil⟩

/-! ### _law_switch_names -/
abbrev s_l_switch_names : Stmt := topS 14
abbrev N_l_switch_names : List Str := ["_law_hand_here", "_law_many", "_law_told", "_law_k", "_law_turn", "_law_middle", "_law_j"]
theorem sc_l_switch_names : FnScope N_l_switch_names ["_law_hand_here", "_law_many"] (defScope s_l_switch_names) := ⟨rfl, rfl, rfl, by decide +kernel, rfl, by decide +kernel, by decide +kernel⟩
def W_l_switch_names (S_l_take : WF) : WSt :=
  (wSeq (wAsg (wLstM wNil) (gN 2))
  (wSeq (wFor (jRng1 (wCons (wV 1) wNil)) (gN 3) (wSeq (wAsg (wCall S_l_take (wCons (wV 0) (wCons (wC (.int 4)) wNil))) (gN 4))
  (wIfS (wB (wOp (sEqA id) (wV 4) (wC (.int 0)))) (wDrop (wML mAppend (wV 2) (wCons (wOp sAdd (wC (.str (Str.ofString "m"))) (wQ qStr (wCons (wOp sAdd (wV 3) (wC (.int 1))) wNil))) wNil))) (wIfS (wB (wOp (sEqA id) (wV 4) (wC (.int 1)))) (wDrop (wML mAppend (wV 2) (wCons (wOp sAdd (wC (.str (Str.ofString "e"))) (wQ qStr (wCons (wOp sAdd (wV 3) (wC (.int 1))) wNil))) wNil))) (wSeq (wAsg (wLc (jRng1 (wCons (wCall S_l_take (wCons (wV 0) (wCons (wC (.int 7)) wNil))) wNil)) [6] (gN 6) wYes (wOp sIx (wC (.str (Str.ofString "abcdefghijklmnopqrstuvwxyz"))) (wCall S_l_take (wCons (wV 0) (wCons (wC (.int 26)) wNil))))) (gN 5))
  (wDrop (wML mAppend (wV 2) (wCons (wOp sAdd (wOp sAdd (wOp sIx (wC (.str (Str.ofString "ABCDEFGHIJKLMNOPQRSTUVWXYZ"))) (wCall S_l_take (wCons (wV 0) (wCons (wC (.int 26)) wNil)))) (wJoin (wC (.str (Str.ofString ""))) (wV 5))) (wQ qStr (wCons (wV 3) wNil))) wNil))))))))
  (wRet (wQ qSortA (wCons (wV 2) wNil)))))
theorem body_l_switch_names {P : Program} {w : World} {K : Fg} {mg : Str → Option Value} {base : Heap} {k : Nat} {k_l_take : Nat} {S_l_take : WF} (c_l_take : C8.Cal P w K mg base k_l_take "_law_take" (sp3 K S_l_take) []) (h_l_take : k_l_take ≤ k) (m_range : mg "range" = none) (m_str : mg "str" = none) (m_sorted : mg "sorted" = none)
    (cdv : Value) (f : Addr) (A : Around) (outer : List Env) (sh : Shared) (H : Hp) (E : XK) (hr : Room k (A.deeper (envOfC "_law_switch_names" (defScope s_l_switch_names) sh.heap.objs.size f cdv))) :
    ∃ t, WSs (cxOf CX0 P w K mg base N_l_switch_names "_law_switch_names" (defScope s_l_switch_names) f cdv A outer sh H E).nox (defBody s_l_switch_names) t (W_l_switch_names S_l_take) := by
  have nd := sc_l_switch_names.nd
  exact ⟨_, (w_scons (w_set 2 nd (w_lstM w_nil))
 (w_scons (w_for PassesOwn.never rfl (w_rng1 (by rfl) m_range (w_cons (w_v 1) w_nil)) (w_gn 3 nd)
 (w_scons (w_set 4 nd (w_call c_l_take hr h_l_take (by rfl) (w_cons (w_v 0) (w_cons w_int w_nil))))
 (w_sone (w_ifS (w_eq hr.units (w_v 4) w_int).t
 (w_sone (w_expr (w_append (w_v 2) (w_cons (w_add w_str (w_strc (by rfl) m_str (w_cons (w_add (w_v 3) w_int) w_nil))) w_nil))))
 (w_sone (w_ifS (w_eq hr.units (w_v 4) w_int).t
 (w_sone (w_expr (w_append (w_v 2) (w_cons (w_add w_str (w_strc (by rfl) m_str (w_cons (w_add (w_v 3) w_int) w_nil))) w_nil))))
 (w_scons (w_setLc1 5 "_law_j" 6 rfl nd (sw_true rfl rfl rfl (by decide +kernel)) (w_rng1 (by rfl) m_range (w_cons (w_call c_l_take hr h_l_take (by rfl) (w_cons (w_v 0) (w_cons w_int w_nil))) w_nil)) (blkOk_by (N := N_l_switch_names) (sc := defScope s_l_switch_names) (by decide +kernel)) (go_name (by decide)) (w_gn 6 nd) w_tsnil (w_ix w_str (w_call c_l_take hr h_l_take (by rfl) (w_cons (w_v 0) (w_cons w_int w_nil)))) (fun _ _ _ _ _ => (w_gn 6 nd)) (fun _ _ _ _ _ => w_tsnil) (fun _ _ _ _ _ => (w_ix w_str (w_call c_l_take hr h_l_take (by rfl) (w_cons (w_v 0) (w_cons w_int w_nil))))))
 (w_sone (w_expr (w_append (w_v 2) (w_cons (w_add (w_add (w_ix w_str (w_call c_l_take hr h_l_take (by rfl) (w_cons (w_v 0) (w_cons w_int w_nil)))) (w_join w_str (w_v 5))) (w_strc (by rfl) m_str (w_cons (w_v 3) w_nil))) w_nil)))))))))))
 (w_sone (w_ret (w_sorted rfl (by rfl) m_sorted (w_cons (w_v 2) w_nil))))))⟩
theorem bi_l_switch_names {K : Fg} {f : Addr} {fd : FuncData} (Fd : FunD K "_law_switch_names" "_law_switch_names" (defArgs s_l_switch_names) (defBody s_l_switch_names) (defScope s_l_switch_names) [] [] f fd) : Binds K fd ["_law_hand_here", "_law_many"] [] := FunD.bindsN Fd fun _ _ _ _ _ _ us hl => match us, hl with | [_, _], _ => rfl
theorem z_l_switch_names {P : Program} {w : World} {K : Fg} {mg : Str → Option Value} {base : Heap} (D : Dn K mg "_law_switch_names" s_l_switch_names) : C8.Cal P w K mg base 0 "_law_switch_names" (sp3 K fun _ _ _ => False) [] := D.zero bi_l_switch_names
theorem fok_l_switch_names {P : Program} {w : World} {K : Fg} {mg : Str → Option Value} {base : Heap} {k : Nat} {f : Addr} {fd : FuncData} (Fd : FunD K "_law_switch_names" "_law_switch_names" (defArgs s_l_switch_names) (defBody s_l_switch_names) (defScope s_l_switch_names) [] [] f fd) {k_l_take : Nat} {S_l_take : WF} (c_l_take : C8.Cal P w K mg base k_l_take "_law_take" (sp3 K S_l_take) []) (h_l_take : k_l_take ≤ k) (m_range : mg "range" = none) (m_str : mg "str" = none) (m_sorted : mg "sorted" = none) {s : WF} (len : ∀ us μ Q, s us μ Q → us.length = 2)
    (h : ∀ us μ Q, s us μ Q → W_l_switch_names S_l_take (E3 μ Q) (start3 N_l_switch_names us) μ) :
    FnOk P w K mg base C8.CX0 (k + 1) f fd ["_law_hand_here", "_law_many"] (sp3 K s) :=
  fn3F Fd sc_l_switch_names len fun cdv A outer sh H E hr =>
    let ⟨t, ht⟩ := body_l_switch_names c_l_take h_l_take m_range m_str m_sorted cdv f A outer sh H E hr
    ⟨t, _, ht, h⟩
theorem cal_l_switch_names {P : Program} {w : World} {K : Fg} {mg : Str → Option Value} {base : Heap} {k : Nat} (D : Dn K mg "_law_switch_names" s_l_switch_names) {k_l_take : Nat} {S_l_take : WF} (c_l_take : C8.Cal P w K mg base k_l_take "_law_take" (sp3 K S_l_take) []) (h_l_take : k_l_take ≤ k) (m_range : mg "range" = none) (m_str : mg "str" = none) (m_sorted : mg "sorted" = none) {s : WF} (len : ∀ us μ Q, s us μ Q → us.length = 2)
    (h : ∀ us μ Q, s us μ Q → W_l_switch_names S_l_take (E3 μ Q) (start3 N_l_switch_names us) μ) :
    C8.Cal P w K mg base (k + 1) "_law_switch_names" (sp3 K s) [] := by
  obtain ⟨f, fd, Fd, hmg⟩ := D.ex
  exact ⟨f, fd, _, [], fok_l_switch_names Fd c_l_take h_l_take m_range m_str m_sorted len h, hmg, Fd.kp, bi_l_switch_names Fd, .nil⟩

/-! ### _law_settings -/
abbrev s_l_settings : Stmt := topS 15
abbrev N_l_settings : List Str := ["_law_names", "_law_told", "_law_switch", "_law_row"]
theorem sc_l_settings : FnScope N_l_settings ["_law_names"] (defScope s_l_settings) := ⟨rfl, rfl, rfl, by decide +kernel, rfl, by decide +kernel, by decide +kernel⟩
def W_l_settings : WSt :=
  (wSeq (wAsg (wLst (wCons (wLst wNil) wNil)) (gN 1))
  (wSeq (wFor (jRev (wV 0)) (gN 2) (wAsg (wOp sAdd (wV 1) (wLc (jSeq (wV 1)) [3] (gN 3) wYes (wOp sAdd (wLst (wCons (wV 2) wNil)) (wV 3)))) (gN 1)))
  (wRet (wV 1))))
theorem body_l_settings {P : Program} {w : World} {K : Fg} {mg : Str → Option Value} {base : Heap} {k : Nat} (m_reversed : mg "reversed" = none)
    (cdv : Value) (f : Addr) (A : Around) (outer : List Env) (sh : Shared) (H : Hp) (E : XK) (hr : Room k (A.deeper (envOfC "_law_settings" (defScope s_l_settings) sh.heap.objs.size f cdv))) :
    ∃ t, WSs (cxOf CX0 P w K mg base N_l_settings "_law_settings" (defScope s_l_settings) f cdv A outer sh H E).nox (defBody s_l_settings) t (W_l_settings) := by
  have nd := sc_l_settings.nd
  exact ⟨_, (w_scons (w_set 1 nd (w_lst (w_cons (w_lst w_nil) w_nil)))
 (w_scons (w_for PassesOwn.never rfl (w_rev (by rfl) m_reversed (w_v 0)) (w_gn 2 nd)
 (w_sone (w_set 1 nd (w_add (w_v 1) (w_lc1 "_law_row" 3 rfl nd (w_seq (w_v 1)) (blkOk_by (N := N_l_settings) (sc := defScope s_l_settings) (by decide +kernel)) (go_name (by decide)) (w_gn 3 nd) w_tsnil (w_add (w_lst (w_cons (w_v 2) w_nil)) (w_v 3)) (fun _ _ _ _ _ => (w_gn 3 nd)) (fun _ _ _ _ _ => w_tsnil) (fun _ _ _ _ _ => (w_add (w_lst (w_cons (w_v 2) w_nil)) (w_v 3))))))))
 (w_sone (w_ret (w_v 1)))))⟩
theorem bi_l_settings {K : Fg} {f : Addr} {fd : FuncData} (Fd : FunD K "_law_settings" "_law_settings" (defArgs s_l_settings) (defBody s_l_settings) (defScope s_l_settings) [] [] f fd) : Binds K fd ["_law_names"] [] := FunD.bindsN Fd fun _ _ _ _ _ _ us hl => match us, hl with | [_], _ => rfl
theorem z_l_settings {P : Program} {w : World} {K : Fg} {mg : Str → Option Value} {base : Heap} (D : Dn K mg "_law_settings" s_l_settings) : C8.Cal P w K mg base 0 "_law_settings" (sp3 K fun _ _ _ => False) [] := D.zero bi_l_settings
theorem fok_l_settings {P : Program} {w : World} {K : Fg} {mg : Str → Option Value} {base : Heap} {k : Nat} {f : Addr} {fd : FuncData} (Fd : FunD K "_law_settings" "_law_settings" (defArgs s_l_settings) (defBody s_l_settings) (defScope s_l_settings) [] [] f fd) (m_reversed : mg "reversed" = none) {s : WF} (len : ∀ us μ Q, s us μ Q → us.length = 1)
    (h : ∀ us μ Q, s us μ Q → W_l_settings (E3 μ Q) (start3 N_l_settings us) μ) :
    FnOk P w K mg base C8.CX0 (k + 1) f fd ["_law_names"] (sp3 K s) :=
  fn3F Fd sc_l_settings len fun cdv A outer sh H E hr =>
    let ⟨t, ht⟩ := body_l_settings m_reversed cdv f A outer sh H E hr
    ⟨t, _, ht, h⟩
theorem cal_l_settings {P : Program} {w : World} {K : Fg} {mg : Str → Option Value} {base : Heap} {k : Nat} (D : Dn K mg "_law_settings" s_l_settings) (m_reversed : mg "reversed" = none) {s : WF} (len : ∀ us μ Q, s us μ Q → us.length = 1)
    (h : ∀ us μ Q, s us μ Q → W_l_settings (E3 μ Q) (start3 N_l_settings us) μ) :
    C8.Cal P w K mg base (k + 1) "_law_settings" (sp3 K s) [] := by
  obtain ⟨f, fd, Fd, hmg⟩ := D.ex
  exact ⟨f, fd, _, [], fok_l_settings Fd m_reversed len h, hmg, Fd.kp, bi_l_settings Fd, .nil⟩

/-! ### _law_bits -/
abbrev s_l_bits : Stmt := topS 16
abbrev N_l_bits : List Str := ["_law_hand_here", "_law_many", "_law_turn", "_law_one", "_law_k"]
theorem sc_l_bits : FnScope N_l_bits ["_law_hand_here", "_law_many"] (defScope s_l_bits) := ⟨rfl, rfl, rfl, by decide +kernel, rfl, by decide +kernel, by decide +kernel⟩
def W_l_bits (S_l_take : WF) : WSt :=
  (wSeq (wAsg (wCall S_l_take (wCons (wV 0) (wCons (wC (.int 6)) wNil))) (gN 2))
  (wSeq (wIfS (wB (wOp (sEqA id) (wV 2) (wC (.int 0)))) (wSeq (wAsg (wOp (sEqA id) (wCall S_l_take (wCons (wV 0) (wCons (wC (.int 2)) wNil))) (wC (.int 1))) (gN 3))
  (wRet (wLc (jRng1 (wCons (wV 1) wNil)) [4] (gN 4) wYes (wV 3)))) wNext)
  (wSeq (wIfS (wB (wOp (sEqA id) (wV 2) (wC (.int 1)))) (wRet (wLc (jRng1 (wCons (wV 1) wNil)) [4] (gN 4) wYes (wOp (sEqA id) (wCall S_l_take (wCons (wV 0) (wCons (wC (.int 8)) wNil))) (wC (.int 0))))) wNext)
  (wRet (wLc (jRng1 (wCons (wV 1) wNil)) [4] (gN 4) wYes (wOp (sEqA id) (wCall S_l_take (wCons (wV 0) (wCons (wC (.int 2)) wNil))) (wC (.int 1))))))))
theorem body_l_bits {P : Program} {w : World} {K : Fg} {mg : Str → Option Value} {base : Heap} {k : Nat} {k_l_take : Nat} {S_l_take : WF} (c_l_take : C8.Cal P w K mg base k_l_take "_law_take" (sp3 K S_l_take) []) (h_l_take : k_l_take ≤ k) (m_range : mg "range" = none)
    (cdv : Value) (f : Addr) (A : Around) (outer : List Env) (sh : Shared) (H : Hp) (E : XK) (hr : Room k (A.deeper (envOfC "_law_bits" (defScope s_l_bits) sh.heap.objs.size f cdv))) :
    ∃ t, WSs (cxOf CX0 P w K mg base N_l_bits "_law_bits" (defScope s_l_bits) f cdv A outer sh H E).nox (defBody s_l_bits) t (W_l_bits S_l_take) := by
  have nd := sc_l_bits.nd
  exact ⟨_, (w_scons (w_set 2 nd (w_call c_l_take hr h_l_take (by rfl) (w_cons (w_v 0) (w_cons w_int w_nil))))
 (w_scons (w_ifS (w_eq hr.units (w_v 2) w_int).t
 (w_scons (w_set 3 nd (w_eq hr.units (w_call c_l_take hr h_l_take (by rfl) (w_cons (w_v 0) (w_cons w_int w_nil))) w_int).e)
 (w_sone (w_ret (w_lc1 "_law_k" 4 rfl nd (w_rng1 (by rfl) m_range (w_cons (w_v 1) w_nil)) (blkOk_by (N := N_l_bits) (sc := defScope s_l_bits) (by decide +kernel)) (go_name (by decide)) (w_gn 4 nd) w_tsnil (w_v 3) (fun _ _ _ _ _ => (w_gn 4 nd)) (fun _ _ _ _ _ => w_tsnil) (fun _ _ _ _ _ => (w_v 3))))))
 w_snil)
 (w_scons (w_ifS (w_eq hr.units (w_v 2) w_int).t
 (w_sone (w_ret (w_lc1 "_law_k" 4 rfl nd (w_rng1 (by rfl) m_range (w_cons (w_v 1) w_nil)) (blkOk_by (N := N_l_bits) (sc := defScope s_l_bits) (by decide +kernel)) (go_name (by decide)) (w_gn 4 nd) w_tsnil (w_eq hr.units (w_call c_l_take hr h_l_take (by rfl) (w_cons (w_v 0) (w_cons w_int w_nil))) w_int).e (fun _ _ _ _ _ => (w_gn 4 nd)) (fun _ _ _ _ _ => w_tsnil) (fun _ _ _ _ _ => (w_eq hr.units (w_call c_l_take hr h_l_take (by rfl) (w_cons (w_v 0) (w_cons w_int w_nil))) w_int).e))))
 w_snil)
 (w_sone (w_ret (w_lc1 "_law_k" 4 rfl nd (w_rng1 (by rfl) m_range (w_cons (w_v 1) w_nil)) (blkOk_by (N := N_l_bits) (sc := defScope s_l_bits) (by decide +kernel)) (go_name (by decide)) (w_gn 4 nd) w_tsnil (w_eq hr.units (w_call c_l_take hr h_l_take (by rfl) (w_cons (w_v 0) (w_cons w_int w_nil))) w_int).e (fun _ _ _ _ _ => (w_gn 4 nd)) (fun _ _ _ _ _ => w_tsnil) (fun _ _ _ _ _ => (w_eq hr.units (w_call c_l_take hr h_l_take (by rfl) (w_cons (w_v 0) (w_cons w_int w_nil))) w_int).e)))))))⟩
theorem bi_l_bits {K : Fg} {f : Addr} {fd : FuncData} (Fd : FunD K "_law_bits" "_law_bits" (defArgs s_l_bits) (defBody s_l_bits) (defScope s_l_bits) [] [] f fd) : Binds K fd ["_law_hand_here", "_law_many"] [] := FunD.bindsN Fd fun _ _ _ _ _ _ us hl => match us, hl with | [_, _], _ => rfl
theorem z_l_bits {P : Program} {w : World} {K : Fg} {mg : Str → Option Value} {base : Heap} (D : Dn K mg "_law_bits" s_l_bits) : C8.Cal P w K mg base 0 "_law_bits" (sp3 K fun _ _ _ => False) [] := D.zero bi_l_bits
theorem fok_l_bits {P : Program} {w : World} {K : Fg} {mg : Str → Option Value} {base : Heap} {k : Nat} {f : Addr} {fd : FuncData} (Fd : FunD K "_law_bits" "_law_bits" (defArgs s_l_bits) (defBody s_l_bits) (defScope s_l_bits) [] [] f fd) {k_l_take : Nat} {S_l_take : WF} (c_l_take : C8.Cal P w K mg base k_l_take "_law_take" (sp3 K S_l_take) []) (h_l_take : k_l_take ≤ k) (m_range : mg "range" = none) {s : WF} (len : ∀ us μ Q, s us μ Q → us.length = 2)
    (h : ∀ us μ Q, s us μ Q → W_l_bits S_l_take (E3 μ Q) (start3 N_l_bits us) μ) :
    FnOk P w K mg base C8.CX0 (k + 1) f fd ["_law_hand_here", "_law_many"] (sp3 K s) :=
  fn3F Fd sc_l_bits len fun cdv A outer sh H E hr =>
    let ⟨t, ht⟩ := body_l_bits c_l_take h_l_take m_range cdv f A outer sh H E hr
    ⟨t, _, ht, h⟩
theorem cal_l_bits {P : Program} {w : World} {K : Fg} {mg : Str → Option Value} {base : Heap} {k : Nat} (D : Dn K mg "_law_bits" s_l_bits) {k_l_take : Nat} {S_l_take : WF} (c_l_take : C8.Cal P w K mg base k_l_take "_law_take" (sp3 K S_l_take) []) (h_l_take : k_l_take ≤ k) (m_range : mg "range" = none) {s : WF} (len : ∀ us μ Q, s us μ Q → us.length = 2)
    (h : ∀ us μ Q, s us μ Q → W_l_bits S_l_take (E3 μ Q) (start3 N_l_bits us) μ) :
    C8.Cal P w K mg base (k + 1) "_law_bits" (sp3 K s) [] := by
  obtain ⟨f, fd, Fd, hmg⟩ := D.ex
  exact ⟨f, fd, _, [], fok_l_bits Fd c_l_take h_l_take m_range len h, hmg, Fd.kp, bi_l_bits Fd, .nil⟩

/-! ### _law_form -/
abbrev s_l_form : Stmt := topS 17
abbrev N_l_form : List Str := ["_law_names", "_law_bits_here", "_law_half", "_law_off", "_law_on"]
theorem sc_l_form : FnScope N_l_form ["_law_names", "_law_bits_here"] (defScope s_l_form) := ⟨rfl, rfl, rfl, by decide +kernel, rfl, by decide +kernel, by decide +kernel⟩
def W_l_form (S_l_form : WF) : WSt :=
  (wSeq (wIfS (wB (wOp (sEqA id) (wQ qLenA (wCons (wV 0) wNil)) (wC (.int 0)))) (wRet (wOp sIx (wV 1) (wC (.int 0)))) wNext)
  (wSeq (wAsg (wOp sFdiv (wQ qLenA (wCons (wV 1) wNil)) (wC (.int 2))) (gN 2))
  (wSeq (wAsg (wCall S_l_form (wCons (wSl (wV 0) (wPart (wC (.int 1))) wNoPart) (wCons (wSl (wV 1) wNoPart (wPart (wV 2))) wNil))) (gN 3))
  (wSeq (wAsg (wCall S_l_form (wCons (wSl (wV 0) (wPart (wC (.int 1))) wNoPart) (wCons (wSl (wV 1) (wPart (wV 2)) wNoPart) wNil))) (gN 4))
  (wSeq (wIfS (wB (wOp (sEqA id) (wV 4) (wV 3))) (wRet (wV 4)) wNext)
  (wRet (wTup (wCons (wOp sIx (wV 0) (wC (.int 0))) (wCons (wV 4) (wCons (wV 3) wNil))))))))))
theorem body_l_form {P : Program} {w : World} {K : Fg} {mg : Str → Option Value} {base : Heap} {k : Nat} {k_l_form : Nat} {S_l_form : WF} (c_l_form : C8.Cal P w K mg base k_l_form "_law_form" (sp3 K S_l_form) []) (h_l_form : k_l_form ≤ k) (m_len : mg "len" = none)
    (cdv : Value) (f : Addr) (A : Around) (outer : List Env) (sh : Shared) (H : Hp) (E : XK) (hr : Room k (A.deeper (envOfC "_law_form" (defScope s_l_form) sh.heap.objs.size f cdv))) :
    ∃ t, WSs (cxOf CX0 P w K mg base N_l_form "_law_form" (defScope s_l_form) f cdv A outer sh H E).nox (defBody s_l_form) t (W_l_form S_l_form) := by
  have nd := sc_l_form.nd
  exact ⟨_, (w_scons (w_ifS (w_eq hr.units (w_len (by rfl) m_len (w_cons (w_v 0) w_nil)) w_int).t
 (w_sone (w_ret (w_ix (w_v 1) w_int)))
 w_snil)
 (w_scons (w_set 2 nd (w_fdiv (w_len (by rfl) m_len (w_cons (w_v 1) w_nil)) w_int))
 (w_scons (w_set 3 nd (w_call c_l_form hr h_l_form (by rfl) (w_cons (w_sl (w_v 0) (w_part w_int) w_noPart) (w_cons (w_sl (w_v 1) w_noPart (w_part (w_v 2))) w_nil))))
 (w_scons (w_set 4 nd (w_call c_l_form hr h_l_form (by rfl) (w_cons (w_sl (w_v 0) (w_part w_int) w_noPart) (w_cons (w_sl (w_v 1) (w_part (w_v 2)) w_noPart) w_nil))))
 (w_scons (w_ifS (w_eq hr.units (w_v 4) (w_v 3)).t
 (w_sone (w_ret (w_v 4)))
 w_snil)
 (w_sone (w_ret (w_tup (w_cons (w_ix (w_v 0) w_int) (w_cons (w_v 4) (w_cons (w_v 3) w_nil)))))))))))⟩
theorem bi_l_form {K : Fg} {f : Addr} {fd : FuncData} (Fd : FunD K "_law_form" "_law_form" (defArgs s_l_form) (defBody s_l_form) (defScope s_l_form) [] [] f fd) : Binds K fd ["_law_names", "_law_bits_here"] [] := FunD.bindsN Fd fun _ _ _ _ _ _ us hl => match us, hl with | [_, _], _ => rfl
theorem z_l_form {P : Program} {w : World} {K : Fg} {mg : Str → Option Value} {base : Heap} (D : Dn K mg "_law_form" s_l_form) : C8.Cal P w K mg base 0 "_law_form" (sp3 K fun _ _ _ => False) [] := D.zero bi_l_form
theorem fok_l_form {P : Program} {w : World} {K : Fg} {mg : Str → Option Value} {base : Heap} {k : Nat} {f : Addr} {fd : FuncData} (Fd : FunD K "_law_form" "_law_form" (defArgs s_l_form) (defBody s_l_form) (defScope s_l_form) [] [] f fd) {k_l_form : Nat} {S_l_form : WF} (c_l_form : C8.Cal P w K mg base k_l_form "_law_form" (sp3 K S_l_form) []) (h_l_form : k_l_form ≤ k) (m_len : mg "len" = none) {s : WF} (len : ∀ us μ Q, s us μ Q → us.length = 2)
    (h : ∀ us μ Q, s us μ Q → W_l_form S_l_form (E3 μ Q) (start3 N_l_form us) μ) :
    FnOk P w K mg base C8.CX0 (k + 1) f fd ["_law_names", "_law_bits_here"] (sp3 K s) :=
  fn3F Fd sc_l_form len fun cdv A outer sh H E hr =>
    let ⟨t, ht⟩ := body_l_form c_l_form h_l_form m_len cdv f A outer sh H E hr
    ⟨t, _, ht, h⟩
theorem cal_l_form {P : Program} {w : World} {K : Fg} {mg : Str → Option Value} {base : Heap} {k : Nat} (D : Dn K mg "_law_form" s_l_form) {k_l_form : Nat} {S_l_form : WF} (c_l_form : C8.Cal P w K mg base k_l_form "_law_form" (sp3 K S_l_form) []) (h_l_form : k_l_form ≤ k) (m_len : mg "len" = none) {s : WF} (len : ∀ us μ Q, s us μ Q → us.length = 2)
    (h : ∀ us μ Q, s us μ Q → W_l_form S_l_form (E3 μ Q) (start3 N_l_form us) μ) :
    C8.Cal P w K mg base (k + 1) "_law_form" (sp3 K s) [] := by
  obtain ⟨f, fd, Fd, hmg⟩ := D.ex
  exact ⟨f, fd, _, [], fok_l_form Fd c_l_form h_l_form m_len len h, hmg, Fd.kp, bi_l_form Fd, .nil⟩

/-! ### _law_openings -/
abbrev s_l_openings : Stmt := topS 18
abbrev N_l_openings : List Str := ["_law_many", "_law_told", "_law_k", "_law_row"]
theorem sc_l_openings : FnScope N_l_openings ["_law_many"] (defScope s_l_openings) := ⟨rfl, rfl, rfl, by decide +kernel, rfl, by decide +kernel, by decide +kernel⟩
def W_l_openings : WSt :=
  (wSeq (wAsg (wLst (wCons (wLst wNil) wNil)) (gN 1))
  (wSeq (wFor (jRng1 (wCons (wV 0) wNil)) (gN 2) (wAsg (wOp sAdd (wOp sAdd (wLc (jSeq (wV 1)) [3] (gN 3) wYes (wOp sAdd (wV 3) (wLst (wCons (wC (.int 0)) wNil)))) (wLc (jSeq (wV 1)) [3] (gN 3) wYes (wOp sAdd (wV 3) (wLst (wCons (wC (.int 1)) wNil))))) (wLc (jSeq (wV 1)) [3] (gN 3) wYes (wOp sAdd (wV 3) (wLst (wCons (wC (.int 2)) wNil))))) (gN 1)))
  (wRet (wV 1))))
theorem body_l_openings {P : Program} {w : World} {K : Fg} {mg : Str → Option Value} {base : Heap} {k : Nat} (m_range : mg "range" = none)
    (cdv : Value) (f : Addr) (A : Around) (outer : List Env) (sh : Shared) (H : Hp) (E : XK) (hr : Room k (A.deeper (envOfC "_law_openings" (defScope s_l_openings) sh.heap.objs.size f cdv))) :
    ∃ t, WSs (cxOf CX0 P w K mg base N_l_openings "_law_openings" (defScope s_l_openings) f cdv A outer sh H E).nox (defBody s_l_openings) t (W_l_openings) := by
  have nd := sc_l_openings.nd
  exact ⟨_, (w_scons (w_set 1 nd (w_lst (w_cons (w_lst w_nil) w_nil)))
 (w_scons (w_for PassesOwn.never rfl (w_rng1 (by rfl) m_range (w_cons (w_v 0) w_nil)) (w_gn 2 nd)
 (w_sone (w_set 1 nd (w_add (w_add (w_lc1 "_law_row" 3 rfl nd (w_seq (w_v 1)) (blkOk_by (N := N_l_openings) (sc := defScope s_l_openings) (by decide +kernel)) (go_name (by decide)) (w_gn 3 nd) w_tsnil (w_add (w_v 3) (w_lst (w_cons w_int w_nil))) (fun _ _ _ _ _ => (w_gn 3 nd)) (fun _ _ _ _ _ => w_tsnil) (fun _ _ _ _ _ => (w_add (w_v 3) (w_lst (w_cons w_int w_nil))))) (w_lc1 "_law_row" 3 rfl nd (w_seq (w_v 1)) (blkOk_by (N := N_l_openings) (sc := defScope s_l_openings) (by decide +kernel)) (go_name (by decide)) (w_gn 3 nd) w_tsnil (w_add (w_v 3) (w_lst (w_cons w_int w_nil))) (fun _ _ _ _ _ => (w_gn 3 nd)) (fun _ _ _ _ _ => w_tsnil) (fun _ _ _ _ _ => (w_add (w_v 3) (w_lst (w_cons w_int w_nil)))))) (w_lc1 "_law_row" 3 rfl nd (w_seq (w_v 1)) (blkOk_by (N := N_l_openings) (sc := defScope s_l_openings) (by decide +kernel)) (go_name (by decide)) (w_gn 3 nd) w_tsnil (w_add (w_v 3) (w_lst (w_cons w_int w_nil))) (fun _ _ _ _ _ => (w_gn 3 nd)) (fun _ _ _ _ _ => w_tsnil) (fun _ _ _ _ _ => (w_add (w_v 3) (w_lst (w_cons w_int w_nil)))))))))
 (w_sone (w_ret (w_v 1)))))⟩
theorem bi_l_openings {K : Fg} {f : Addr} {fd : FuncData} (Fd : FunD K "_law_openings" "_law_openings" (defArgs s_l_openings) (defBody s_l_openings) (defScope s_l_openings) [] [] f fd) : Binds K fd ["_law_many"] [] := FunD.bindsN Fd fun _ _ _ _ _ _ us hl => match us, hl with | [_], _ => rfl
theorem z_l_openings {P : Program} {w : World} {K : Fg} {mg : Str → Option Value} {base : Heap} (D : Dn K mg "_law_openings" s_l_openings) : C8.Cal P w K mg base 0 "_law_openings" (sp3 K fun _ _ _ => False) [] := D.zero bi_l_openings
theorem fok_l_openings {P : Program} {w : World} {K : Fg} {mg : Str → Option Value} {base : Heap} {k : Nat} {f : Addr} {fd : FuncData} (Fd : FunD K "_law_openings" "_law_openings" (defArgs s_l_openings) (defBody s_l_openings) (defScope s_l_openings) [] [] f fd) (m_range : mg "range" = none) {s : WF} (len : ∀ us μ Q, s us μ Q → us.length = 1)
    (h : ∀ us μ Q, s us μ Q → W_l_openings (E3 μ Q) (start3 N_l_openings us) μ) :
    FnOk P w K mg base C8.CX0 (k + 1) f fd ["_law_many"] (sp3 K s) :=
  fn3F Fd sc_l_openings len fun cdv A outer sh H E hr =>
    let ⟨t, ht⟩ := body_l_openings m_range cdv f A outer sh H E hr
    ⟨t, _, ht, h⟩
theorem cal_l_openings {P : Program} {w : World} {K : Fg} {mg : Str → Option Value} {base : Heap} {k : Nat} (D : Dn K mg "_law_openings" s_l_openings) (m_range : mg "range" = none) {s : WF} (len : ∀ us μ Q, s us μ Q → us.length = 1)
    (h : ∀ us μ Q, s us μ Q → W_l_openings (E3 μ Q) (start3 N_l_openings us) μ) :
    C8.Cal P w K mg base (k + 1) "_law_openings" (sp3 K s) [] := by
  obtain ⟨f, fd, Fd, hmg⟩ := D.ex
  exact ⟨f, fd, _, [], fok_l_openings Fd m_range len h, hmg, Fd.kp, bi_l_openings Fd, .nil⟩

/-! ### _law_inside -/
abbrev s_l_inside : Stmt := topS 19
abbrev N_l_inside : List Str := ["_law_part", "_law_told", "_law_one", "_law_truth"]
theorem sc_l_inside : FnScope N_l_inside ["_law_part"] (defScope s_l_inside) := ⟨rfl, rfl, rfl, by decide +kernel, rfl, by decide +kernel, by decide +kernel⟩
def W_l_inside : WSt :=
  (wSeq (wAsg (wLst (wCons (wC (.bool true)) wNil)) (gN 1))
  (wSeq (wFor (jRev (wV 0)) (gN 2) (wAsg (wOp sAdd (wLc (jSeq (wV 1)) [3] (gN 3) wYes (wAndV (wV 3) (wOp (sEqA not) (wV 2) (wC (.int 1))))) (wLc (jSeq (wV 1)) [3] (gN 3) wYes (wAndV (wV 3) (wOp (sEqA not) (wV 2) (wC (.int 0)))))) (gN 1)))
  (wRet (wV 1))))
theorem body_l_inside {P : Program} {w : World} {K : Fg} {mg : Str → Option Value} {base : Heap} {k : Nat} (m_reversed : mg "reversed" = none)
    (cdv : Value) (f : Addr) (A : Around) (outer : List Env) (sh : Shared) (H : Hp) (E : XK) (hr : Room k (A.deeper (envOfC "_law_inside" (defScope s_l_inside) sh.heap.objs.size f cdv))) :
    ∃ t, WSs (cxOf CX0 P w K mg base N_l_inside "_law_inside" (defScope s_l_inside) f cdv A outer sh H E).nox (defBody s_l_inside) t (W_l_inside) := by
  have nd := sc_l_inside.nd
  exact ⟨_, (w_scons (w_set 1 nd (w_lst (w_cons w_bl w_nil)))
 (w_scons (w_for PassesOwn.never rfl (w_rev (by rfl) m_reversed (w_v 0)) (w_gn 2 nd)
 (w_sone (w_set 1 nd (w_add (w_lc1 "_law_truth" 3 rfl nd (w_seq (w_v 1)) (blkOk_by (N := N_l_inside) (sc := defScope s_l_inside) (by decide +kernel)) (go_name (by decide)) (w_gn 3 nd) w_tsnil (w_andV (w_v 3) (w_one (w_ne hr.units (w_v 2) w_int).e)) (fun _ _ _ _ _ => (w_gn 3 nd)) (fun _ _ _ _ _ => w_tsnil) (fun _ _ _ _ _ => (w_andV (w_v 3) (w_one (w_ne hr.units (w_v 2) w_int).e)))) (w_lc1 "_law_truth" 3 rfl nd (w_seq (w_v 1)) (blkOk_by (N := N_l_inside) (sc := defScope s_l_inside) (by decide +kernel)) (go_name (by decide)) (w_gn 3 nd) w_tsnil (w_andV (w_v 3) (w_one (w_ne hr.units (w_v 2) w_int).e)) (fun _ _ _ _ _ => (w_gn 3 nd)) (fun _ _ _ _ _ => w_tsnil) (fun _ _ _ _ _ => (w_andV (w_v 3) (w_one (w_ne hr.units (w_v 2) w_int).e))))))))
 (w_sone (w_ret (w_v 1)))))⟩
theorem bi_l_inside {K : Fg} {f : Addr} {fd : FuncData} (Fd : FunD K "_law_inside" "_law_inside" (defArgs s_l_inside) (defBody s_l_inside) (defScope s_l_inside) [] [] f fd) : Binds K fd ["_law_part"] [] := FunD.bindsN Fd fun _ _ _ _ _ _ us hl => match us, hl with | [_], _ => rfl
theorem z_l_inside {P : Program} {w : World} {K : Fg} {mg : Str → Option Value} {base : Heap} (D : Dn K mg "_law_inside" s_l_inside) : C8.Cal P w K mg base 0 "_law_inside" (sp3 K fun _ _ _ => False) [] := D.zero bi_l_inside
theorem fok_l_inside {P : Program} {w : World} {K : Fg} {mg : Str → Option Value} {base : Heap} {k : Nat} {f : Addr} {fd : FuncData} (Fd : FunD K "_law_inside" "_law_inside" (defArgs s_l_inside) (defBody s_l_inside) (defScope s_l_inside) [] [] f fd) (m_reversed : mg "reversed" = none) {s : WF} (len : ∀ us μ Q, s us μ Q → us.length = 1)
    (h : ∀ us μ Q, s us μ Q → W_l_inside (E3 μ Q) (start3 N_l_inside us) μ) :
    FnOk P w K mg base C8.CX0 (k + 1) f fd ["_law_part"] (sp3 K s) :=
  fn3F Fd sc_l_inside len fun cdv A outer sh H E hr =>
    let ⟨t, ht⟩ := body_l_inside m_reversed cdv f A outer sh H E hr
    ⟨t, _, ht, h⟩
theorem cal_l_inside {P : Program} {w : World} {K : Fg} {mg : Str → Option Value} {base : Heap} {k : Nat} (D : Dn K mg "_law_inside" s_l_inside) (m_reversed : mg "reversed" = none) {s : WF} (len : ∀ us μ Q, s us μ Q → us.length = 1)
    (h : ∀ us μ Q, s us μ Q → W_l_inside (E3 μ Q) (start3 N_l_inside us) μ) :
    C8.Cal P w K mg base (k + 1) "_law_inside" (sp3 K s) [] := by
  obtain ⟨f, fd, Fd, hmg⟩ := D.ex
  exact ⟨f, fd, _, [], fok_l_inside Fd m_reversed len h, hmg, Fd.kp, bi_l_inside Fd, .nil⟩

/-! ### _law_always -/
abbrev s_l_always : Stmt := topS 20
abbrev N_l_always : List Str := ["_law_part", "_law_row", "_law_inside_here", "_law_k"]
theorem sc_l_always : FnScope N_l_always ["_law_part", "_law_row"] (defScope s_l_always) := ⟨rfl, rfl, rfl, by decide +kernel, rfl, by decide +kernel, by decide +kernel⟩
def W_l_always (S_l_inside : WF) : WSt :=
  (wSeq (wAsg (wCall S_l_inside (wCons (wV 0) wNil)) (gN 2))
  (wRet (wOp (sEqA id) (wQ qLenA (wCons (wLc (jRng1 (wCons (wQ qLenA (wCons (wV 1) wNil)) wNil)) [3] (gN 3) (wAnd (wTru (wOp sIx (wV 2) (wV 3))) (wNot (wTru (wOp sIx (wV 1) (wV 3))))) (wV 3)) wNil)) (wC (.int 0)))))
theorem body_l_always {P : Program} {w : World} {K : Fg} {mg : Str → Option Value} {base : Heap} {k : Nat} {k_l_inside : Nat} {S_l_inside : WF} (c_l_inside : C8.Cal P w K mg base k_l_inside "_law_inside" (sp3 K S_l_inside) []) (h_l_inside : k_l_inside ≤ k) (m_len : mg "len" = none) (m_range : mg "range" = none)
    (cdv : Value) (f : Addr) (A : Around) (outer : List Env) (sh : Shared) (H : Hp) (E : XK) (hr : Room k (A.deeper (envOfC "_law_always" (defScope s_l_always) sh.heap.objs.size f cdv))) :
    ∃ t, WSs (cxOf CX0 P w K mg base N_l_always "_law_always" (defScope s_l_always) f cdv A outer sh H E).nox (defBody s_l_always) t (W_l_always S_l_inside) := by
  have nd := sc_l_always.nd
  exact ⟨_, (w_scons (w_set 2 nd (w_call c_l_inside hr h_l_inside (by rfl) (w_cons (w_v 0) w_nil)))
 (w_sone (w_ret (w_eq hr.units (w_len (by rfl) m_len (w_cons (w_lc1 "_law_k" 3 rfl nd (w_rng1 (by rfl) m_range (w_cons (w_len (by rfl) m_len (w_cons (w_v 1) w_nil)) w_nil)) (blkOk_by (N := N_l_always) (sc := defScope s_l_always) (by decide +kernel)) (go_name (by decide)) (w_gn 3 nd) (w_tsone (w_ww (w_and (w_tru (w_ix (w_v 2) (w_v 3))) (w_and1 (w_nott (w_tru (w_ix (w_v 1) (w_v 3)))))))) (w_v 3) (fun _ _ _ _ _ => (w_gn 3 nd)) (fun _ _ _ _ _ => (w_tsone (w_ww (w_and (w_tru (w_ix (w_v 2) (w_v 3))) (w_and1 (w_nott (w_tru (w_ix (w_v 1) (w_v 3))))))))) (fun _ _ _ _ _ => (w_v 3))) w_nil)) w_int).e)))⟩
theorem bi_l_always {K : Fg} {f : Addr} {fd : FuncData} (Fd : FunD K "_law_always" "_law_always" (defArgs s_l_always) (defBody s_l_always) (defScope s_l_always) [] [] f fd) : Binds K fd ["_law_part", "_law_row"] [] := FunD.bindsN Fd fun _ _ _ _ _ _ us hl => match us, hl with | [_, _], _ => rfl
theorem z_l_always {P : Program} {w : World} {K : Fg} {mg : Str → Option Value} {base : Heap} (D : Dn K mg "_law_always" s_l_always) : C8.Cal P w K mg base 0 "_law_always" (sp3 K fun _ _ _ => False) [] := D.zero bi_l_always
theorem fok_l_always {P : Program} {w : World} {K : Fg} {mg : Str → Option Value} {base : Heap} {k : Nat} {f : Addr} {fd : FuncData} (Fd : FunD K "_law_always" "_law_always" (defArgs s_l_always) (defBody s_l_always) (defScope s_l_always) [] [] f fd) {k_l_inside : Nat} {S_l_inside : WF} (c_l_inside : C8.Cal P w K mg base k_l_inside "_law_inside" (sp3 K S_l_inside) []) (h_l_inside : k_l_inside ≤ k) (m_len : mg "len" = none) (m_range : mg "range" = none) {s : WF} (len : ∀ us μ Q, s us μ Q → us.length = 2)
    (h : ∀ us μ Q, s us μ Q → W_l_always S_l_inside (E3 μ Q) (start3 N_l_always us) μ) :
    FnOk P w K mg base C8.CX0 (k + 1) f fd ["_law_part", "_law_row"] (sp3 K s) :=
  fn3F Fd sc_l_always len fun cdv A outer sh H E hr =>
    let ⟨t, ht⟩ := body_l_always c_l_inside h_l_inside m_len m_range cdv f A outer sh H E hr
    ⟨t, _, ht, h⟩
theorem cal_l_always {P : Program} {w : World} {K : Fg} {mg : Str → Option Value} {base : Heap} {k : Nat} (D : Dn K mg "_law_always" s_l_always) {k_l_inside : Nat} {S_l_inside : WF} (c_l_inside : C8.Cal P w K mg base k_l_inside "_law_inside" (sp3 K S_l_inside) []) (h_l_inside : k_l_inside ≤ k) (m_len : mg "len" = none) (m_range : mg "range" = none) {s : WF} (len : ∀ us μ Q, s us μ Q → us.length = 2)
    (h : ∀ us μ Q, s us μ Q → W_l_always S_l_inside (E3 μ Q) (start3 N_l_always us) μ) :
    C8.Cal P w K mg base (k + 1) "_law_always" (sp3 K s) [] := by
  obtain ⟨f, fd, Fd, hmg⟩ := D.ex
  exact ⟨f, fd, _, [], fok_l_always Fd c_l_inside h_l_inside m_len m_range len h, hmg, Fd.kp, bi_l_always Fd, .nil⟩

/-! ### _law_is_least -/
abbrev s_l_is_least : Stmt := topS 21
abbrev N_l_is_least : List Str := ["_law_part", "_law_row", "_law_at"]
theorem sc_l_is_least : FnScope N_l_is_least ["_law_part", "_law_row"] (defScope s_l_is_least) := ⟨rfl, rfl, rfl, by decide +kernel, rfl, by decide +kernel, by decide +kernel⟩
def W_l_is_least (S_l_always : WF) : WSt :=
  (wSeq (wIfS (wNot (wTru (wCall S_l_always (wCons (wV 0) (wCons (wV 1) wNil))))) (wRet (wC (.bool false))) wNext)
  (wSeq (wFor (jRng1 (wCons (wQ qLenA (wCons (wV 0) wNil)) wNil)) (gN 2) (wIfS (wAnd (wB (wOp (sEqA not) (wOp sIx (wV 0) (wV 2)) (wC (.int 2)))) (wTru (wCall S_l_always (wCons (wOp sAdd (wOp sAdd (wSl (wV 0) wNoPart (wPart (wV 2))) (wLst (wCons (wC (.int 2)) wNil))) (wSl (wV 0) (wPart (wOp sAdd (wV 2) (wC (.int 1)))) wNoPart)) (wCons (wV 1) wNil))))) (wRet (wC (.bool false))) wNext))
  (wRet (wC (.bool true)))))
theorem body_l_is_least {P : Program} {w : World} {K : Fg} {mg : Str → Option Value} {base : Heap} {k : Nat} {k_l_always : Nat} {S_l_always : WF} (c_l_always : C8.Cal P w K mg base k_l_always "_law_always" (sp3 K S_l_always) []) (h_l_always : k_l_always ≤ k) (m_len : mg "len" = none) (m_range : mg "range" = none)
    (cdv : Value) (f : Addr) (A : Around) (outer : List Env) (sh : Shared) (H : Hp) (E : XK) (hr : Room k (A.deeper (envOfC "_law_is_least" (defScope s_l_is_least) sh.heap.objs.size f cdv))) :
    ∃ t, WSs (cxOf CX0 P w K mg base N_l_is_least "_law_is_least" (defScope s_l_is_least) f cdv A outer sh H E).nox (defBody s_l_is_least) t (W_l_is_least S_l_always) := by
  have nd := sc_l_is_least.nd
  exact ⟨_, (w_scons (w_ifS (w_nott (w_tru (w_call c_l_always hr h_l_always (by rfl) (w_cons (w_v 0) (w_cons (w_v 1) w_nil)))))
 (w_sone (w_ret w_bl))
 w_snil)
 (w_scons (w_for PassesOwn.never rfl (w_rng1 (by rfl) m_range (w_cons (w_len (by rfl) m_len (w_cons (w_v 0) w_nil)) w_nil)) (w_gn 2 nd)
 (w_sone (w_ifS (w_ww (w_and (w_ne hr.units (w_ix (w_v 0) (w_v 2)) w_int).t (w_and1 (w_tru (w_call c_l_always hr h_l_always (by rfl) (w_cons (w_add (w_add (w_sl (w_v 0) w_noPart (w_part (w_v 2))) (w_lst (w_cons w_int w_nil))) (w_sl (w_v 0) (w_part (w_add (w_v 2) w_int)) w_noPart)) (w_cons (w_v 1) w_nil)))))))
 (w_sone (w_ret w_bl))
 w_snil)))
 (w_sone (w_ret w_bl))))⟩
theorem bi_l_is_least {K : Fg} {f : Addr} {fd : FuncData} (Fd : FunD K "_law_is_least" "_law_is_least" (defArgs s_l_is_least) (defBody s_l_is_least) (defScope s_l_is_least) [] [] f fd) : Binds K fd ["_law_part", "_law_row"] [] := FunD.bindsN Fd fun _ _ _ _ _ _ us hl => match us, hl with | [_, _], _ => rfl
theorem z_l_is_least {P : Program} {w : World} {K : Fg} {mg : Str → Option Value} {base : Heap} (D : Dn K mg "_law_is_least" s_l_is_least) : C8.Cal P w K mg base 0 "_law_is_least" (sp3 K fun _ _ _ => False) [] := D.zero bi_l_is_least
theorem fok_l_is_least {P : Program} {w : World} {K : Fg} {mg : Str → Option Value} {base : Heap} {k : Nat} {f : Addr} {fd : FuncData} (Fd : FunD K "_law_is_least" "_law_is_least" (defArgs s_l_is_least) (defBody s_l_is_least) (defScope s_l_is_least) [] [] f fd) {k_l_always : Nat} {S_l_always : WF} (c_l_always : C8.Cal P w K mg base k_l_always "_law_always" (sp3 K S_l_always) []) (h_l_always : k_l_always ≤ k) (m_len : mg "len" = none) (m_range : mg "range" = none) {s : WF} (len : ∀ us μ Q, s us μ Q → us.length = 2)
    (h : ∀ us μ Q, s us μ Q → W_l_is_least S_l_always (E3 μ Q) (start3 N_l_is_least us) μ) :
    FnOk P w K mg base C8.CX0 (k + 1) f fd ["_law_part", "_law_row"] (sp3 K s) :=
  fn3F Fd sc_l_is_least len fun cdv A outer sh H E hr =>
    let ⟨t, ht⟩ := body_l_is_least c_l_always h_l_always m_len m_range cdv f A outer sh H E hr
    ⟨t, _, ht, h⟩
theorem cal_l_is_least {P : Program} {w : World} {K : Fg} {mg : Str → Option Value} {base : Heap} {k : Nat} (D : Dn K mg "_law_is_least" s_l_is_least) {k_l_always : Nat} {S_l_always : WF} (c_l_always : C8.Cal P w K mg base k_l_always "_law_always" (sp3 K S_l_always) []) (h_l_always : k_l_always ≤ k) (m_len : mg "len" = none) (m_range : mg "range" = none) {s : WF} (len : ∀ us μ Q, s us μ Q → us.length = 2)
    (h : ∀ us μ Q, s us μ Q → W_l_is_least S_l_always (E3 μ Q) (start3 N_l_is_least us) μ) :
    C8.Cal P w K mg base (k + 1) "_law_is_least" (sp3 K s) [] := by
  obtain ⟨f, fd, Fd, hmg⟩ := D.ex
  exact ⟨f, fd, _, [], fok_l_is_least Fd c_l_always h_l_always m_len m_range len h, hmg, Fd.kp, bi_l_is_least Fd, .nil⟩

/-! ### _law_whole -/
abbrev s_l_whole : Stmt := topS 22
abbrev N_l_whole : List Str := ["_law_thing"]
theorem sc_l_whole : FnScope N_l_whole ["_law_thing"] (defScope s_l_whole) := ⟨rfl, rfl, rfl, by decide +kernel, rfl, by decide +kernel, by decide +kernel⟩
def W_l_whole : WSt :=
  (wRet (wAndV (wIsi "int" (wV 0)) (wNotV (wIsi "bool" (wV 0)))))
theorem body_l_whole {P : Program} {w : World} {K : Fg} {mg : Str → Option Value} {base : Heap} {k : Nat} (m_isinstance : mg "isinstance" = none) (m_int : mg "int" = none) (m_bool : mg "bool" = none)
    (cdv : Value) (f : Addr) (A : Around) (outer : List Env) (sh : Shared) (H : Hp) (E : XK) (hr : Room k (A.deeper (envOfC "_law_whole" (defScope s_l_whole) sh.heap.objs.size f cdv))) :
    ∃ t, WSs (cxOf CX0 P w K mg base N_l_whole "_law_whole" (defScope s_l_whole) f cdv A outer sh H E).nox (defBody s_l_whole) t (W_l_whole) := by
  have nd := sc_l_whole.nd
  exact ⟨_, (w_sone (w_ret (w_andV (w_isi (by rfl) m_isinstance boot_isinstance (by rfl) m_int boot_int' (w_v 0)) (w_one (w_notV (w_isi (by rfl) m_isinstance boot_isinstance (by rfl) m_bool boot_bool' (w_v 0)))))))⟩
theorem bi_l_whole {K : Fg} {f : Addr} {fd : FuncData} (Fd : FunD K "_law_whole" "_law_whole" (defArgs s_l_whole) (defBody s_l_whole) (defScope s_l_whole) [] [] f fd) : Binds K fd ["_law_thing"] [] := FunD.bindsN Fd fun _ _ _ _ _ _ us hl => match us, hl with | [_], _ => rfl
theorem z_l_whole {P : Program} {w : World} {K : Fg} {mg : Str → Option Value} {base : Heap} (D : Dn K mg "_law_whole" s_l_whole) : C8.Cal P w K mg base 0 "_law_whole" (sp3 K fun _ _ _ => False) [] := D.zero bi_l_whole
theorem fok_l_whole {P : Program} {w : World} {K : Fg} {mg : Str → Option Value} {base : Heap} {k : Nat} {f : Addr} {fd : FuncData} (Fd : FunD K "_law_whole" "_law_whole" (defArgs s_l_whole) (defBody s_l_whole) (defScope s_l_whole) [] [] f fd) (m_isinstance : mg "isinstance" = none) (m_int : mg "int" = none) (m_bool : mg "bool" = none) {s : WF} (len : ∀ us μ Q, s us μ Q → us.length = 1)
    (h : ∀ us μ Q, s us μ Q → W_l_whole (E3 μ Q) (start3 N_l_whole us) μ) :
    FnOk P w K mg base C8.CX0 (k + 1) f fd ["_law_thing"] (sp3 K s) :=
  fn3F Fd sc_l_whole len fun cdv A outer sh H E hr =>
    let ⟨t, ht⟩ := body_l_whole m_isinstance m_int m_bool cdv f A outer sh H E hr
    ⟨t, _, ht, h⟩
theorem cal_l_whole {P : Program} {w : World} {K : Fg} {mg : Str → Option Value} {base : Heap} {k : Nat} (D : Dn K mg "_law_whole" s_l_whole) (m_isinstance : mg "isinstance" = none) (m_int : mg "int" = none) (m_bool : mg "bool" = none) {s : WF} (len : ∀ us μ Q, s us μ Q → us.length = 1)
    (h : ∀ us μ Q, s us μ Q → W_l_whole (E3 μ Q) (start3 N_l_whole us) μ) :
    C8.Cal P w K mg base (k + 1) "_law_whole" (sp3 K s) [] := by
  obtain ⟨f, fd, Fd, hmg⟩ := D.ex
  exact ⟨f, fd, _, [], fok_l_whole Fd m_isinstance m_int m_bool len h, hmg, Fd.kp, bi_l_whole Fd, .nil⟩

/-! ### _law_alike -/
abbrev s_l_alike : Stmt := topS 23
abbrev N_l_alike : List Str := ["_law_told", "_law_due", "_law_k"]
theorem sc_l_alike : FnScope N_l_alike ["_law_told", "_law_due"] (defScope s_l_alike) := ⟨rfl, rfl, rfl, by decide +kernel, rfl, by decide +kernel, by decide +kernel⟩
def W_l_alike (S_l_alike : WF) (S_l_whole : WF) : WSt :=
  (wSeq (wIfS (wTru (wIsi "bool" (wV 1))) (wRet (wAndV (wIsi "bool" (wV 0)) (wOp (sEqA id) (wV 0) (wV 1)))) wNext)
  (wSeq (wIfS (wTru (wIsi "tuple" (wV 1))) (wSeq (wIfS (wOr (wNot (wTru (wIsi "tuple" (wV 0)))) (wB (wOp (sEqA not) (wQ qLenA (wCons (wV 0) wNil)) (wQ qLenA (wCons (wV 1) wNil))))) (wRet (wC (.bool false))) wNext)
  (wRet (wOp (sEqA id) (wQ qLenA (wCons (wLc (jRng1 (wCons (wQ qLenA (wCons (wV 1) wNil)) wNil)) [2] (gN 2) (wNot (wTru (wCall S_l_alike (wCons (wOp sIx (wV 0) (wV 2)) (wCons (wOp sIx (wV 1) (wV 2)) wNil))))) (wV 2)) wNil)) (wC (.int 0))))) wNext)
  (wSeq (wIfS (wTru (wIsi "int" (wV 1))) (wRet (wAndV (wCall S_l_whole (wCons (wV 0) wNil)) (wOp (sEqA id) (wV 0) (wV 1)))) wNext)
  (wSeq (wIfS (wTru (wIsi "str" (wV 1))) (wRet (wAndV (wIsi "str" (wV 0)) (wOp (sEqA id) (wV 0) (wV 1)))) wNext)
  (wRet (wAndV (wOp (sIsN id) (wV 1) (wC .none)) (wOp (sIsN id) (wV 0) (wC .none))))))))
theorem body_l_alike {P : Program} {w : World} {K : Fg} {mg : Str → Option Value} {base : Heap} {k : Nat} {k_l_alike : Nat} {S_l_alike : WF} (c_l_alike : C8.Cal P w K mg base k_l_alike "_law_alike" (sp3 K S_l_alike) []) (h_l_alike : k_l_alike ≤ k) {k_l_whole : Nat} {S_l_whole : WF} (c_l_whole : C8.Cal P w K mg base k_l_whole "_law_whole" (sp3 K S_l_whole) []) (h_l_whole : k_l_whole ≤ k) (m_isinstance : mg "isinstance" = none) (m_bool : mg "bool" = none) (m_tuple : mg "tuple" = none) (m_len : mg "len" = none) (m_range : mg "range" = none) (m_int : mg "int" = none) (m_str : mg "str" = none)
    (cdv : Value) (f : Addr) (A : Around) (outer : List Env) (sh : Shared) (H : Hp) (E : XK) (hr : Room k (A.deeper (envOfC "_law_alike" (defScope s_l_alike) sh.heap.objs.size f cdv))) :
    ∃ t, WSs (cxOf CX0 P w K mg base N_l_alike "_law_alike" (defScope s_l_alike) f cdv A outer sh H E).nox (defBody s_l_alike) t (W_l_alike S_l_alike S_l_whole) := by
  have nd := sc_l_alike.nd
  exact ⟨_, (w_scons (w_ifS (w_tru (w_isi (by rfl) m_isinstance boot_isinstance (by rfl) m_bool boot_bool' (w_v 1)))
 (w_sone (w_ret (w_andV (w_isi (by rfl) m_isinstance boot_isinstance (by rfl) m_bool boot_bool' (w_v 0)) (w_one (w_eq hr.units (w_v 0) (w_v 1)).e))))
 w_snil)
 (w_scons (w_ifS (w_tru (w_isi (by rfl) m_isinstance boot_isinstance (by rfl) m_tuple boot_tuple' (w_v 1)))
 (w_scons (w_ifS (w_ww (w_or (w_nott (w_tru (w_isi (by rfl) m_isinstance boot_isinstance (by rfl) m_tuple boot_tuple' (w_v 0)))) (w_or1 (w_ne hr.units (w_len (by rfl) m_len (w_cons (w_v 0) w_nil)) (w_len (by rfl) m_len (w_cons (w_v 1) w_nil))).t)))
 (w_sone (w_ret w_bl))
 w_snil)
 (w_sone (w_ret (w_eq hr.units (w_len (by rfl) m_len (w_cons (w_lc1 "_law_k" 2 rfl nd (w_rng1 (by rfl) m_range (w_cons (w_len (by rfl) m_len (w_cons (w_v 1) w_nil)) w_nil)) (blkOk_by (N := N_l_alike) (sc := defScope s_l_alike) (by decide +kernel)) (go_name (by decide)) (w_gn 2 nd) (w_tsone (w_nott (w_tru (w_call c_l_alike hr h_l_alike (by rfl) (w_cons (w_ix (w_v 0) (w_v 2)) (w_cons (w_ix (w_v 1) (w_v 2)) w_nil)))))) (w_v 2) (fun _ _ _ _ _ => (w_gn 2 nd)) (fun _ _ _ _ _ => (w_tsone (w_nott (w_tru (w_call c_l_alike hr h_l_alike (by rfl) (w_cons (w_ix (w_v 0) (w_v 2)) (w_cons (w_ix (w_v 1) (w_v 2)) w_nil))))))) (fun _ _ _ _ _ => (w_v 2))) w_nil)) w_int).e)))
 w_snil)
 (w_scons (w_ifS (w_tru (w_isi (by rfl) m_isinstance boot_isinstance (by rfl) m_int boot_int' (w_v 1)))
 (w_sone (w_ret (w_andV (w_call c_l_whole hr h_l_whole (by rfl) (w_cons (w_v 0) w_nil)) (w_one (w_eq hr.units (w_v 0) (w_v 1)).e))))
 w_snil)
 (w_scons (w_ifS (w_tru (w_isi (by rfl) m_isinstance boot_isinstance (by rfl) m_str boot_str' (w_v 1)))
 (w_sone (w_ret (w_andV (w_isi (by rfl) m_isinstance boot_isinstance (by rfl) m_str boot_str' (w_v 0)) (w_one (w_eq hr.units (w_v 0) (w_v 1)).e))))
 w_snil)
 (w_sone (w_ret (w_andV (w_isN (w_v 1)).e (w_one (w_isN (w_v 0)).e))))))))⟩
theorem bi_l_alike {K : Fg} {f : Addr} {fd : FuncData} (Fd : FunD K "_law_alike" "_law_alike" (defArgs s_l_alike) (defBody s_l_alike) (defScope s_l_alike) [] [] f fd) : Binds K fd ["_law_told", "_law_due"] [] := FunD.bindsN Fd fun _ _ _ _ _ _ us hl => match us, hl with | [_, _], _ => rfl
theorem z_l_alike {P : Program} {w : World} {K : Fg} {mg : Str → Option Value} {base : Heap} (D : Dn K mg "_law_alike" s_l_alike) : C8.Cal P w K mg base 0 "_law_alike" (sp3 K fun _ _ _ => False) [] := D.zero bi_l_alike
theorem fok_l_alike {P : Program} {w : World} {K : Fg} {mg : Str → Option Value} {base : Heap} {k : Nat} {f : Addr} {fd : FuncData} (Fd : FunD K "_law_alike" "_law_alike" (defArgs s_l_alike) (defBody s_l_alike) (defScope s_l_alike) [] [] f fd) {k_l_alike : Nat} {S_l_alike : WF} (c_l_alike : C8.Cal P w K mg base k_l_alike "_law_alike" (sp3 K S_l_alike) []) (h_l_alike : k_l_alike ≤ k) {k_l_whole : Nat} {S_l_whole : WF} (c_l_whole : C8.Cal P w K mg base k_l_whole "_law_whole" (sp3 K S_l_whole) []) (h_l_whole : k_l_whole ≤ k) (m_isinstance : mg "isinstance" = none) (m_bool : mg "bool" = none) (m_tuple : mg "tuple" = none) (m_len : mg "len" = none) (m_range : mg "range" = none) (m_int : mg "int" = none) (m_str : mg "str" = none) {s : WF} (len : ∀ us μ Q, s us μ Q → us.length = 2)
    (h : ∀ us μ Q, s us μ Q → W_l_alike S_l_alike S_l_whole (E3 μ Q) (start3 N_l_alike us) μ) :
    FnOk P w K mg base C8.CX0 (k + 1) f fd ["_law_told", "_law_due"] (sp3 K s) :=
  fn3F Fd sc_l_alike len fun cdv A outer sh H E hr =>
    let ⟨t, ht⟩ := body_l_alike c_l_alike h_l_alike c_l_whole h_l_whole m_isinstance m_bool m_tuple m_len m_range m_int m_str cdv f A outer sh H E hr
    ⟨t, _, ht, h⟩
theorem cal_l_alike {P : Program} {w : World} {K : Fg} {mg : Str → Option Value} {base : Heap} {k : Nat} (D : Dn K mg "_law_alike" s_l_alike) {k_l_alike : Nat} {S_l_alike : WF} (c_l_alike : C8.Cal P w K mg base k_l_alike "_law_alike" (sp3 K S_l_alike) []) (h_l_alike : k_l_alike ≤ k) {k_l_whole : Nat} {S_l_whole : WF} (c_l_whole : C8.Cal P w K mg base k_l_whole "_law_whole" (sp3 K S_l_whole) []) (h_l_whole : k_l_whole ≤ k) (m_isinstance : mg "isinstance" = none) (m_bool : mg "bool" = none) (m_tuple : mg "tuple" = none) (m_len : mg "len" = none) (m_range : mg "range" = none) (m_int : mg "int" = none) (m_str : mg "str" = none) {s : WF} (len : ∀ us μ Q, s us μ Q → us.length = 2)
    (h : ∀ us μ Q, s us μ Q → W_l_alike S_l_alike S_l_whole (E3 μ Q) (start3 N_l_alike us) μ) :
    C8.Cal P w K mg base (k + 1) "_law_alike" (sp3 K s) [] := by
  obtain ⟨f, fd, Fd, hmg⟩ := D.ex
  exact ⟨f, fd, _, [], fok_l_alike Fd c_l_alike h_l_alike c_l_whole h_l_whole m_isinstance m_bool m_tuple m_len m_range m_int m_str len h, hmg, Fd.kp, bi_l_alike Fd, .nil⟩

/-! ### law -/
abbrev s_p_law : Stmt := topS 24
abbrev N_p_law : List Str := ["_law_script", "_law_hand_here", "_law_names", "_law_many", "_law_row", "_law_condition", "_law_due", "_law_part", "_law_pairs", "_law_at"]
theorem sc_p_law : FnScope N_p_law ["_law_script"] (defScope s_p_law) := ⟨rfl, rfl, rfl, by decide +kernel, rfl, by decide +kernel, by decide +kernel⟩
def W_p_law (S_l_hand : WF) (S_l_switch_names : WF) (S_l_take : WF) (S_l_settings : WF) (S_l_bits : WF) (S_l_form : WF) (S_l_openings : WF) (S_l_is_least : WF) (S_l_alike : WF) (S_l_inside : WF) (S_p_part_condition : WF) (S_p_least_causes : WF) : WSt :=
  (wSeq (wAsg (wCall S_l_hand (wCons (wV 0) wNil)) (gN 1))
  (wSeq (wAsg (wCall S_l_switch_names (wCons (wV 1) (wCons (wCall S_l_take (wCons (wV 1) (wCons (wC (.int 6)) wNil))) wNil))) (gN 2))
  (wSeq (wAsg (wQ qLenA (wCons (wCall S_l_settings (wCons (wV 2) wNil)) wNil)) (gN 3))
  (wSeq (wAsg (wCall S_l_bits (wCons (wV 1) (wCons (wV 3) wNil))) (gN 4))
  (wSeq (wAsg (wCall S_l_form (wCons (wV 2) (wCons (wV 4) wNil))) (gN 5))
  (wSeq (wAsg (wLstM wNil) (gN 6))
  (wSeq (wFor (jSeq (wCall S_l_openings (wCons (wQ qLenA (wCons (wV 2) wNil)) wNil))) (gN 7) (wIfS (wTru (wCall S_l_is_least (wCons (wV 7) (wCons (wV 4) wNil)))) (wSeq (wAsg (wQ qTuple (wCons (wLc (jRng1 (wCons (wQ qLenA (wCons (wV 2) wNil)) wNil)) [9] (gN 9) (wB (wOp (sEqA not) (wOp sIx (wV 7) (wV 9)) (wC (.int 2)))) (wTup (wCons (wOp sIx (wV 2) (wV 9)) (wCons (wOp (sEqA id) (wOp sIx (wV 7) (wV 9)) (wC (.int 1))) wNil)))) wNil)) (gN 8))
  (wSeq (wDrop (wML mAppend (wV 6) (wCons (wV 8) wNil)))
  (wIfS (wNot (wTru (wCall S_l_alike (wCons (wCall S_p_part_condition (wCons (wV 8) wNil)) (wCons (wCall S_l_form (wCons (wV 2) (wCons (wCall S_l_inside (wCons (wV 7) wNil)) wNil))) wNil))))) (wRet (wC (.bool false))) wNext))) wNext))
  (wRet (wCall S_l_alike (wCons (wCall S_p_least_causes (wCons (wV 5) wNil)) (wCons (wQ qTuple (wCons (wQ qSortT (wCons (wV 6) wNil)) wNil)) wNil)))))))))))
theorem body_p_law {P : Program} {w : World} {K : Fg} {mg : Str → Option Value} {base : Heap} {k : Nat} {k_l_hand : Nat} {S_l_hand : WF} (c_l_hand : C8.Cal P w K mg base k_l_hand "_law_hand" (sp3 K S_l_hand) []) (h_l_hand : k_l_hand ≤ k) {k_l_switch_names : Nat} {S_l_switch_names : WF} (c_l_switch_names : C8.Cal P w K mg base k_l_switch_names "_law_switch_names" (sp3 K S_l_switch_names) []) (h_l_switch_names : k_l_switch_names ≤ k) {k_l_take : Nat} {S_l_take : WF} (c_l_take : C8.Cal P w K mg base k_l_take "_law_take" (sp3 K S_l_take) []) (h_l_take : k_l_take ≤ k) {k_l_settings : Nat} {S_l_settings : WF} (c_l_settings : C8.Cal P w K mg base k_l_settings "_law_settings" (sp3 K S_l_settings) []) (h_l_settings : k_l_settings ≤ k) {k_l_bits : Nat} {S_l_bits : WF} (c_l_bits : C8.Cal P w K mg base k_l_bits "_law_bits" (sp3 K S_l_bits) []) (h_l_bits : k_l_bits ≤ k) {k_l_form : Nat} {S_l_form : WF} (c_l_form : C8.Cal P w K mg base k_l_form "_law_form" (sp3 K S_l_form) []) (h_l_form : k_l_form ≤ k) {k_l_openings : Nat} {S_l_openings : WF} (c_l_openings : C8.Cal P w K mg base k_l_openings "_law_openings" (sp3 K S_l_openings) []) (h_l_openings : k_l_openings ≤ k) {k_l_is_least : Nat} {S_l_is_least : WF} (c_l_is_least : C8.Cal P w K mg base k_l_is_least "_law_is_least" (sp3 K S_l_is_least) []) (h_l_is_least : k_l_is_least ≤ k) {k_l_alike : Nat} {S_l_alike : WF} (c_l_alike : C8.Cal P w K mg base k_l_alike "_law_alike" (sp3 K S_l_alike) []) (h_l_alike : k_l_alike ≤ k) {k_l_inside : Nat} {S_l_inside : WF} (c_l_inside : C8.Cal P w K mg base k_l_inside "_law_inside" (sp3 K S_l_inside) []) (h_l_inside : k_l_inside ≤ k) {k_p_part_condition : Nat} {S_p_part_condition : WF} (c_p_part_condition : C8.Cal P w K mg base k_p_part_condition "part_condition" (sp3 K S_p_part_condition) []) (h_p_part_condition : k_p_part_condition ≤ k) {k_p_least_causes : Nat} {S_p_least_causes : WF} (c_p_least_causes : C8.Cal P w K mg base k_p_least_causes "least_causes" (sp3 K S_p_least_causes) []) (h_p_least_causes : k_p_least_causes ≤ k) (m_len : mg "len" = none) (m_range : mg "range" = none) (m_tuple : mg "tuple" = none) (m_sorted : mg "sorted" = none)
    (cdv : Value) (f : Addr) (A : Around) (outer : List Env) (sh : Shared) (H : Hp) (E : XK) (hr : Room k (A.deeper (envOfC "law" (defScope s_p_law) sh.heap.objs.size f cdv))) :
    ∃ t, WSs (cxOf CX0 P w K mg base N_p_law "law" (defScope s_p_law) f cdv A outer sh H E).nox (defBody s_p_law) t (W_p_law S_l_hand S_l_switch_names S_l_take S_l_settings S_l_bits S_l_form S_l_openings S_l_is_least S_l_alike S_l_inside S_p_part_condition S_p_least_causes) := by
  have nd := sc_p_law.nd
  exact ⟨_, (w_scons (w_set 1 nd (w_call c_l_hand hr h_l_hand (by rfl) (w_cons (w_v 0) w_nil)))
 (w_scons (w_set 2 nd (w_call c_l_switch_names hr h_l_switch_names (by rfl) (w_cons (w_v 1) (w_cons (w_call c_l_take hr h_l_take (by rfl) (w_cons (w_v 1) (w_cons w_int w_nil))) w_nil))))
 (w_scons (w_set 3 nd (w_len (by rfl) m_len (w_cons (w_call c_l_settings hr h_l_settings (by rfl) (w_cons (w_v 2) w_nil)) w_nil)))
 (w_scons (w_set 4 nd (w_call c_l_bits hr h_l_bits (by rfl) (w_cons (w_v 1) (w_cons (w_v 3) w_nil))))
 (w_scons (w_set 5 nd (w_call c_l_form hr h_l_form (by rfl) (w_cons (w_v 2) (w_cons (w_v 4) w_nil))))
 (w_scons (w_set 6 nd (w_lstM w_nil))
 (w_scons (w_for PassesOwn.never rfl (w_seq (w_call c_l_openings hr h_l_openings (by rfl) (w_cons (w_len (by rfl) m_len (w_cons (w_v 2) w_nil)) w_nil))) (w_gn 7 nd)
 (w_sone (w_ifS (w_tru (w_call c_l_is_least hr h_l_is_least (by rfl) (w_cons (w_v 7) (w_cons (w_v 4) w_nil))))
 (w_scons (w_set 8 nd (w_tuplec (by rfl) m_tuple (w_cons (w_lc1 "_law_at" 9 rfl nd (w_rng1 (by rfl) m_range (w_cons (w_len (by rfl) m_len (w_cons (w_v 2) w_nil)) w_nil)) (blkOk_by (N := N_p_law) (sc := defScope s_p_law) (by decide +kernel)) (go_name (by decide)) (w_gn 9 nd) (w_tsone (w_ne hr.units (w_ix (w_v 7) (w_v 9)) w_int).t) (w_tup (w_cons (w_ix (w_v 2) (w_v 9)) (w_cons (w_eq hr.units (w_ix (w_v 7) (w_v 9)) w_int).e w_nil))) (fun _ _ _ _ _ => (w_gn 9 nd)) (fun _ _ _ _ _ => (w_tsone (w_ne hr.units (w_ix (w_v 7) (w_v 9)) w_int).t)) (fun _ _ _ _ _ => (w_tup (w_cons (w_ix (w_v 2) (w_v 9)) (w_cons (w_eq hr.units (w_ix (w_v 7) (w_v 9)) w_int).e w_nil))))) w_nil)))
 (w_scons (w_expr (w_append (w_v 6) (w_cons (w_v 8) w_nil)))
 (w_sone (w_ifS (w_nott (w_tru (w_call c_l_alike hr h_l_alike (by rfl) (w_cons (w_call c_p_part_condition hr h_p_part_condition (by rfl) (w_cons (w_v 8) w_nil)) (w_cons (w_call c_l_form hr h_l_form (by rfl) (w_cons (w_v 2) (w_cons (w_call c_l_inside hr h_l_inside (by rfl) (w_cons (w_v 7) w_nil)) w_nil))) w_nil)))))
 (w_sone (w_ret w_bl))
 w_snil))))
 w_snil)))
 (w_sone (w_ret (w_call c_l_alike hr h_l_alike (by rfl) (w_cons (w_call c_p_least_causes hr h_p_least_causes (by rfl) (w_cons (w_v 5) w_nil)) (w_cons (w_tuplec (by rfl) m_tuple (w_cons (w_sortedT hr.units (by rfl) m_sorted (w_cons (w_v 6) w_nil)) w_nil)) w_nil))))))))))))⟩
theorem bi_p_law {K : Fg} {f : Addr} {fd : FuncData} (Fd : FunD K "law" "law" (defArgs s_p_law) (defBody s_p_law) (defScope s_p_law) [] [] f fd) : Binds K fd ["_law_script"] [] := FunD.bindsN Fd fun _ _ _ _ _ _ us hl => match us, hl with | [_], _ => rfl
theorem z_p_law {P : Program} {w : World} {K : Fg} {mg : Str → Option Value} {base : Heap} (D : Dn K mg "law" s_p_law) : C8.Cal P w K mg base 0 "law" (sp3 K fun _ _ _ => False) [] := D.zero bi_p_law
theorem fok_p_law {P : Program} {w : World} {K : Fg} {mg : Str → Option Value} {base : Heap} {k : Nat} {f : Addr} {fd : FuncData} (Fd : FunD K "law" "law" (defArgs s_p_law) (defBody s_p_law) (defScope s_p_law) [] [] f fd) {k_l_hand : Nat} {S_l_hand : WF} (c_l_hand : C8.Cal P w K mg base k_l_hand "_law_hand" (sp3 K S_l_hand) []) (h_l_hand : k_l_hand ≤ k) {k_l_switch_names : Nat} {S_l_switch_names : WF} (c_l_switch_names : C8.Cal P w K mg base k_l_switch_names "_law_switch_names" (sp3 K S_l_switch_names) []) (h_l_switch_names : k_l_switch_names ≤ k) {k_l_take : Nat} {S_l_take : WF} (c_l_take : C8.Cal P w K mg base k_l_take "_law_take" (sp3 K S_l_take) []) (h_l_take : k_l_take ≤ k) {k_l_settings : Nat} {S_l_settings : WF} (c_l_settings : C8.Cal P w K mg base k_l_settings "_law_settings" (sp3 K S_l_settings) []) (h_l_settings : k_l_settings ≤ k) {k_l_bits : Nat} {S_l_bits : WF} (c_l_bits : C8.Cal P w K mg base k_l_bits "_law_bits" (sp3 K S_l_bits) []) (h_l_bits : k_l_bits ≤ k) {k_l_form : Nat} {S_l_form : WF} (c_l_form : C8.Cal P w K mg base k_l_form "_law_form" (sp3 K S_l_form) []) (h_l_form : k_l_form ≤ k) {k_l_openings : Nat} {S_l_openings : WF} (c_l_openings : C8.Cal P w K mg base k_l_openings "_law_openings" (sp3 K S_l_openings) []) (h_l_openings : k_l_openings ≤ k) {k_l_is_least : Nat} {S_l_is_least : WF} (c_l_is_least : C8.Cal P w K mg base k_l_is_least "_law_is_least" (sp3 K S_l_is_least) []) (h_l_is_least : k_l_is_least ≤ k) {k_l_alike : Nat} {S_l_alike : WF} (c_l_alike : C8.Cal P w K mg base k_l_alike "_law_alike" (sp3 K S_l_alike) []) (h_l_alike : k_l_alike ≤ k) {k_l_inside : Nat} {S_l_inside : WF} (c_l_inside : C8.Cal P w K mg base k_l_inside "_law_inside" (sp3 K S_l_inside) []) (h_l_inside : k_l_inside ≤ k) {k_p_part_condition : Nat} {S_p_part_condition : WF} (c_p_part_condition : C8.Cal P w K mg base k_p_part_condition "part_condition" (sp3 K S_p_part_condition) []) (h_p_part_condition : k_p_part_condition ≤ k) {k_p_least_causes : Nat} {S_p_least_causes : WF} (c_p_least_causes : C8.Cal P w K mg base k_p_least_causes "least_causes" (sp3 K S_p_least_causes) []) (h_p_least_causes : k_p_least_causes ≤ k) (m_len : mg "len" = none) (m_range : mg "range" = none) (m_tuple : mg "tuple" = none) (m_sorted : mg "sorted" = none) {s : WF} (len : ∀ us μ Q, s us μ Q → us.length = 1)
    (h : ∀ us μ Q, s us μ Q → W_p_law S_l_hand S_l_switch_names S_l_take S_l_settings S_l_bits S_l_form S_l_openings S_l_is_least S_l_alike S_l_inside S_p_part_condition S_p_least_causes (E3 μ Q) (start3 N_p_law us) μ) :
    FnOk P w K mg base C8.CX0 (k + 1) f fd ["_law_script"] (sp3 K s) :=
  fn3F Fd sc_p_law len fun cdv A outer sh H E hr =>
    let ⟨t, ht⟩ := body_p_law c_l_hand h_l_hand c_l_switch_names h_l_switch_names c_l_take h_l_take c_l_settings h_l_settings c_l_bits h_l_bits c_l_form h_l_form c_l_openings h_l_openings c_l_is_least h_l_is_least c_l_alike h_l_alike c_l_inside h_l_inside c_p_part_condition h_p_part_condition c_p_least_causes h_p_least_causes m_len m_range m_tuple m_sorted cdv f A outer sh H E hr
    ⟨t, _, ht, h⟩
theorem cal_p_law {P : Program} {w : World} {K : Fg} {mg : Str → Option Value} {base : Heap} {k : Nat} (D : Dn K mg "law" s_p_law) {k_l_hand : Nat} {S_l_hand : WF} (c_l_hand : C8.Cal P w K mg base k_l_hand "_law_hand" (sp3 K S_l_hand) []) (h_l_hand : k_l_hand ≤ k) {k_l_switch_names : Nat} {S_l_switch_names : WF} (c_l_switch_names : C8.Cal P w K mg base k_l_switch_names "_law_switch_names" (sp3 K S_l_switch_names) []) (h_l_switch_names : k_l_switch_names ≤ k) {k_l_take : Nat} {S_l_take : WF} (c_l_take : C8.Cal P w K mg base k_l_take "_law_take" (sp3 K S_l_take) []) (h_l_take : k_l_take ≤ k) {k_l_settings : Nat} {S_l_settings : WF} (c_l_settings : C8.Cal P w K mg base k_l_settings "_law_settings" (sp3 K S_l_settings) []) (h_l_settings : k_l_settings ≤ k) {k_l_bits : Nat} {S_l_bits : WF} (c_l_bits : C8.Cal P w K mg base k_l_bits "_law_bits" (sp3 K S_l_bits) []) (h_l_bits : k_l_bits ≤ k) {k_l_form : Nat} {S_l_form : WF} (c_l_form : C8.Cal P w K mg base k_l_form "_law_form" (sp3 K S_l_form) []) (h_l_form : k_l_form ≤ k) {k_l_openings : Nat} {S_l_openings : WF} (c_l_openings : C8.Cal P w K mg base k_l_openings "_law_openings" (sp3 K S_l_openings) []) (h_l_openings : k_l_openings ≤ k) {k_l_is_least : Nat} {S_l_is_least : WF} (c_l_is_least : C8.Cal P w K mg base k_l_is_least "_law_is_least" (sp3 K S_l_is_least) []) (h_l_is_least : k_l_is_least ≤ k) {k_l_alike : Nat} {S_l_alike : WF} (c_l_alike : C8.Cal P w K mg base k_l_alike "_law_alike" (sp3 K S_l_alike) []) (h_l_alike : k_l_alike ≤ k) {k_l_inside : Nat} {S_l_inside : WF} (c_l_inside : C8.Cal P w K mg base k_l_inside "_law_inside" (sp3 K S_l_inside) []) (h_l_inside : k_l_inside ≤ k) {k_p_part_condition : Nat} {S_p_part_condition : WF} (c_p_part_condition : C8.Cal P w K mg base k_p_part_condition "part_condition" (sp3 K S_p_part_condition) []) (h_p_part_condition : k_p_part_condition ≤ k) {k_p_least_causes : Nat} {S_p_least_causes : WF} (c_p_least_causes : C8.Cal P w K mg base k_p_least_causes "least_causes" (sp3 K S_p_least_causes) []) (h_p_least_causes : k_p_least_causes ≤ k) (m_len : mg "len" = none) (m_range : mg "range" = none) (m_tuple : mg "tuple" = none) (m_sorted : mg "sorted" = none) {s : WF} (len : ∀ us μ Q, s us μ Q → us.length = 1)
    (h : ∀ us μ Q, s us μ Q → W_p_law S_l_hand S_l_switch_names S_l_take S_l_settings S_l_bits S_l_form S_l_openings S_l_is_least S_l_alike S_l_inside S_p_part_condition S_p_least_causes (E3 μ Q) (start3 N_p_law us) μ) :
    C8.Cal P w K mg base (k + 1) "law" (sp3 K s) [] := by
  obtain ⟨f, fd, Fd, hmg⟩ := D.ex
  exact ⟨f, fd, _, [], fok_p_law Fd c_l_hand h_l_hand c_l_switch_names h_l_switch_names c_l_take h_l_take c_l_settings h_l_settings c_l_bits h_l_bits c_l_form h_l_form c_l_openings h_l_openings c_l_is_least h_l_is_least c_l_alike h_l_alike c_l_inside h_l_inside c_p_part_condition h_p_part_condition c_p_least_causes h_p_least_causes m_len m_range m_tuple m_sorted len h, hmg, Fd.kp, bi_p_law Fd, .nil⟩
end K04

namespace K04
open PySem PySem.Spec PyProof.Rows L2 L3 Cn
section
variable {P : Program} {w : World} {K : Fg} {mg : Str → Option Value} {base : Heap}
def S_side : WF := fun us μ Q => ∃ (c : T) (s : Str) (on : Bool), us = [.d c.d, .d (.str s), .d (.bool on)] ∧ Q (.d (sd s on c).d) μ
theorem side_ok (D : Dn K mg "_side" s_p__side) (m1 : mg "isinstance" = none) (m2 : mg "tuple" = none) : C8.Cal P w K mg base 1 "_side" (sp3 K S_side) [] :=
  cal_p__side D m1 m2 (fun us μ Q ⟨_, _, _, e, _⟩ => by rw [e]; rfl) fun us μ Q ⟨c, s, on, e, q⟩ => by
    subst e
    cases c with
    | lit b =>
      simp [wSeq, wIfS, wRet, wRetN, wNext, wDrop, wAsg, wAug, wBreak, wCont, wV, wC, wB, L3.wTru, L3.wNot, wAnd, wOr, wAndV, wOrV, wNotV, L3.wIf, wNeg, wOp, wCall, wQ, wML, wNil, wCons, wTup, wLst, wLstM, wIsi, wSl, wPart, wNoPart, wMinD, wJoin, wFrz, gN, sIx, sIs, sIsN, sI, sI0, truU, tyOk, tyU, isTruth, L3.isNon, itemsU, listU, ixU, qInt, qAbs, qStr, L3.max_int, start3, L3.kk_nb, L3.kk_nt, L3.kk_ni, L3.kk_ns, L3.kk_nl, L3.kk_bb, L3.kk_bt, L3.kk_bi, L3.kk_bs, L3.kk_bl, L3.kk_ib, L3.kk_it, L3.kk_ii, L3.kk_is, L3.kk_il, L3.kk_sb, L3.kk_st, L3.kk_si, L3.kk_ss, L3.kk_sl, L3.kk_tb, L3.kk_tt, L3.kk_ti, L3.kk_ts, L3.kk_tl, L3.kk_lb, L3.kk_lt, L3.kk_li, L3.kk_ls, L3.kk_ll, L3.at_0, L3.at_1, L3.at_2, L3.at_3, L3.eqA_int, L3.eqA_str, L3.eqA_bl, L3.lt_int, L3.gt_int, L3.le_int, L3.ge_int, L3.lt_str, L3.gt_str, L3.le_str, L3.ge_str, L3.add_int, L3.add_str, L3.exd, L3.exd0, L3.exd1, L3.exd2, L3.exd3, L3.exd4, L3.min_int, L3.min_str, L3.len_str, L3.len_lst, L3.len_tup, W_p__side, T.d]
      exact rtE q
    | nd z a b =>
      simp [wSeq, wIfS, wRet, wRetN, wNext, wDrop, wAsg, wAug, wBreak, wCont, wV, wC, wB, L3.wTru, L3.wNot, wAnd, wOr, wAndV, wOrV, wNotV, L3.wIf, wNeg, wOp, wCall, wQ, wML, wNil, wCons, wTup, wLst, wLstM, wIsi, wSl, wPart, wNoPart, wMinD, wJoin, wFrz, gN, sIx, sIs, sIsN, sI, sI0, truU, tyOk, tyU, isTruth, L3.isNon, itemsU, listU, ixU, qInt, qAbs, qStr, L3.max_int, start3, L3.kk_nb, L3.kk_nt, L3.kk_ni, L3.kk_ns, L3.kk_nl, L3.kk_bb, L3.kk_bt, L3.kk_bi, L3.kk_bs, L3.kk_bl, L3.kk_ib, L3.kk_it, L3.kk_ii, L3.kk_is, L3.kk_il, L3.kk_sb, L3.kk_st, L3.kk_si, L3.kk_ss, L3.kk_sl, L3.kk_tb, L3.kk_tt, L3.kk_ti, L3.kk_ts, L3.kk_tl, L3.kk_lb, L3.kk_lt, L3.kk_li, L3.kk_ls, L3.kk_ll, L3.at_0, L3.at_1, L3.at_2, L3.at_3, L3.eqA_int, L3.eqA_str, L3.eqA_bl, L3.lt_int, L3.gt_int, L3.le_int, L3.ge_int, L3.lt_str, L3.gt_str, L3.le_str, L3.ge_str, L3.add_int, L3.add_str, L3.exd, L3.exd0, L3.exd1, L3.exd2, L3.exd3, L3.exd4, L3.min_int, L3.min_str, L3.len_str, L3.len_lst, L3.len_tup, W_p__side, T.d]
      by_cases h : z = s
      · subst h
        rw [sd_nd] at q
        cases on with
        | true => exact .inr ⟨rfl, .inr ⟨rfl, rtE q⟩⟩
        | false => exact .inr ⟨rfl, .inl ⟨rfl, rtE q⟩⟩
      · rw [show sd s on (T.nd z a b) = T.nd z a b from if_neg h] at q
        exact .inl ⟨h, rtE q⟩
theorem eqA_T {a b : T} {μ : Mu} {Q : XP} {f : Bool → Bool} (na : a.nm) (nb : b.nm) (ha : a.h ≤ 64) (hb : b.h ≤ 64) (h1 : a = b → Q (.d (.bool (f true))) μ) (h2 : a ≠ b → Q (.d (.bool (f false))) μ) : sEqA f (.d a.d) (.d b.d) μ Q := by
  have h : sEq f (.d a.d) (.d b.d) μ Q := by
    refine ⟨_, _, rfl, rfl, shp na ha, shp nb hb, ?_⟩
    rcases eqv_dd a b with ⟨e, h⟩ | ⟨e, h⟩
    · rw [e]; exact h1 h
    · rw [e]; exact h2 h
  cases a with
  | nd s u v => exact h
  | lit x =>
    cases b with
    | nd z p q => exact h
    | lit y =>
      show Q (.d (.bool (f (decide (x = y))))) μ
      by_cases e : x = y
      · subst e; rw [decide_eq_true rfl]; exact h1 rfl
      · rw [decide_eq_false e]; exact h2 fun k => e (by cases k; rfl)
def S_node : WF := fun us μ Q => ∃ (s : Str) (a b : T), us = [.d (.str s), .d a.d, .d b.d] ∧ a.nm ∧ b.nm ∧ a.h ≤ 64 ∧ b.h ≤ 64 ∧ Q (.d (node s a b).d) μ
theorem node_okC (D : Dn K mg "_node" s_p__node) : C8.Cal P w K mg base 1 "_node" (sp3 K S_node) [] :=
  cal_p__node D (fun us μ Q ⟨_, _, _, e, _⟩ => by rw [e]; rfl) fun us μ Q ⟨s, a, b, e, na, nb, ha, hb, q⟩ => by
    subst e
    simp [wSeq, wIfS, wRet, wRetN, wNext, wDrop, wAsg, wAug, wBreak, wCont, wV, wC, wB, L3.wTru, L3.wNot, wAnd, wOr, wAndV, wOrV, wNotV, L3.wIf, wNeg, wOp, wCall, wQ, wML, wNil, wCons, wTup, wLst, wLstM, wIsi, wSl, wPart, wNoPart, wMinD, wJoin, wFrz, gN, sIx, sIs, sIsN, sI, sI0, truU, tyOk, tyU, isTruth, L3.isNon, itemsU, listU, ixU, qInt, qAbs, qStr, L3.max_int, start3, L3.kk_nb, L3.kk_nt, L3.kk_ni, L3.kk_ns, L3.kk_nl, L3.kk_bb, L3.kk_bt, L3.kk_bi, L3.kk_bs, L3.kk_bl, L3.kk_ib, L3.kk_it, L3.kk_ii, L3.kk_is, L3.kk_il, L3.kk_sb, L3.kk_st, L3.kk_si, L3.kk_ss, L3.kk_sl, L3.kk_tb, L3.kk_tt, L3.kk_ti, L3.kk_ts, L3.kk_tl, L3.kk_lb, L3.kk_lt, L3.kk_li, L3.kk_ls, L3.kk_ll, L3.at_0, L3.at_1, L3.at_2, L3.at_3, L3.eqA_int, L3.eqA_str, L3.eqA_bl, L3.lt_int, L3.gt_int, L3.le_int, L3.ge_int, L3.lt_str, L3.gt_str, L3.le_str, L3.ge_str, L3.add_int, L3.add_str, L3.exd, L3.exd0, L3.exd1, L3.exd2, L3.exd3, L3.exd4, L3.min_int, L3.min_str, L3.len_str, L3.len_lst, L3.len_tup, W_p__node]
    refine eqA_T na nb ha hb (fun e => ?_) fun e => ?_
    · rw [node_eq e] at q
      exact .inr ⟨rfl, rtE q⟩
    · rw [node_ne e] at q
      exact .inl ⟨rfl, by decide, rtE q⟩
def S_ap (f : Bool → Bool → Bool) (n : Nat) : WF := fun us μ Q => ∃ c o : T, us = [.d c.d, .d o.d] ∧ c.ok ∧ o.ok ∧ c.nm ∧ o.nm ∧ c.h + o.h ≤ n ∧ c.h + o.h ≤ 60 ∧ ∀ r, Ap f c o r → Q (.d r.d) μ
theorem len_ap {f : Bool → Bool → Bool} {n : Nat} : ∀ us μ Q, S_ap f n us μ Q → us.length = 2 := fun us μ Q ⟨_, _, e, _⟩ => by rw [e]; rfl
theorem ap_lit {f : Bool → Bool → Bool} {c o : T} {b : Bool} (h : ∀ σ, b = f (c.ev σ) (o.ev σ)) : Ap f c o (.lit b) := ⟨trivial, trivial, h, fun _ _ _ => trivial, Nat.zero_le _⟩
theorem ap_one {f : Bool → Bool → Bool} {c o : T} (k : c.ok) (n : c.nm) (h : ∀ σ, c.ev σ = f (c.ev σ) (o.ev σ)) : Ap f c o c := ⟨k, n, h, fun _ h _ => h, Nat.le_add_right _ _⟩
theorem ap_two {f : Bool → Bool → Bool} {c o : T} (k : o.ok) (n : o.nm) (h : ∀ σ, o.ev σ = f (c.ev σ) (o.ev σ)) : Ap f c o o := ⟨k, n, h, fun _ _ h => h, Nat.le_add_left _ _⟩
structure Mn (s : Str) (c o : T) : Prop where
  ok : PyData.strOk s = true
  gc : Ge s c
  go : Ge s o
  ex : (∃ a b, c = .nd s a b) ∨ ∃ a b, o = .nd s a b
theorem mn_ok {x y : Str} {a b p q : T} (n1 : (T.nd x a b).nm) (n2 : (T.nd y p q).nm) : Mn (if L3M.ltS y x = true then y else x) (.nd x a b) (.nd y p q) := by
  cases h : L3M.ltS y x with
  | true =>
    rw [if_pos rfl]
    exact ⟨n2.1, .inl h, .inr ⟨_, _, rfl⟩, .inr ⟨_, _, rfl⟩⟩
  | false =>
    rw [if_neg Bool.false_ne_true]
    refine ⟨n1.1, .inr ⟨_, _, rfl⟩, ?_, .inl ⟨_, _, rfl⟩⟩
    rcases L3M.ltS_le h with h | h
    · exact .inl h
    · subst h; exact .inr ⟨_, _, rfl⟩
theorem Mn.less {s : Str} {c o : T} (m : Mn s c o) (c1 : c.ok) (c2 : c.nm) (o1 : o.ok) (o2 : o.nm) (on : Bool) : (sd s on c).h + (sd s on o).h + 1 ≤ c.h + o.h := by
  have k1 := (sd_ok (on := on) c1 c2 m.gc).hl
  have k2 := (sd_ok (on := on) o1 o2 m.go).hl
  rcases m.ex with ⟨a, b, rfl⟩ | ⟨a, b, rfl⟩
  · have := sd_less (s := s) (on := on) (a := a) (b := b)
    omega
  · have := sd_less (s := s) (on := on) (a := a) (b := b)
    omega
theorem ap_step {f : Bool → Bool → Bool} {n : Nat} {x y : Str} {a b p q : T} {μ : Mu} {R : XP} (c1 : (T.nd x a b).ok) (c2 : (T.nd x a b).nm) (o1 : (T.nd y p q).ok) (o2 : (T.nd y p q).nm) (hn : (T.nd x a b).h + (T.nd y p q).h ≤ n + 1) (h60 : (T.nd x a b).h + (T.nd y p q).h ≤ 60)
    (k : ∀ r, Ap f (.nd x a b) (.nd y p q) r → R (.d r.d) μ) :
    S_side [.d (T.nd x a b).d, .d (.str (if L3M.ltS y x = true then y else x)), .d (.bool true)] μ fun u1 μ1 => S_side [.d (T.nd y p q).d, .d (.str (if L3M.ltS y x = true then y else x)), .d (.bool true)] μ1 fun u2 μ2 => S_ap f n [u1, u2] μ2 fun r1 μ3 =>
      S_side [.d (T.nd x a b).d, .d (.str (if L3M.ltS y x = true then y else x)), .d (.bool false)] μ3 fun u1 μ1 => S_side [.d (T.nd y p q).d, .d (.str (if L3M.ltS y x = true then y else x)), .d (.bool false)] μ1 fun u2 μ2 => S_ap f n [u1, u2] μ2 fun r2 μ3 => S_node [.d (.str (if L3M.ltS y x = true then y else x)), r1, r2] μ3 R := by
  have m := mn_ok c2 o2
  generalize (if L3M.ltS y x = true then y else x) = s at m ⊢
  have l := fun on => m.less c1 c2 o1 o2 on
  have sc := fun on => sd_ok (on := on) c1 c2 m.gc
  have so := fun on => sd_ok (on := on) o1 o2 m.go
  have l1 := l true
  have l2 := l false
  refine ⟨_, _, _, rfl, _, _, _, rfl, _, _, rfl, (sc true).ok, (so true).ok, (sc true).nm, (so true).nm, by omega, by omega, fun r1 h1 => ⟨_, _, _, rfl, _, _, _, rfl, _, _, rfl, (sc false).ok, (so false).ok, (sc false).nm, (so false).nm, by omega, by omega, fun r2 h2 => ?_⟩⟩
  have e1 := h1.h
  have e2 := h2.h
  exact ⟨_, _, _, rfl, h1.nm, h2.nm, by omega, by omega, k _ (Ap.node m.ok m.gc m.go m.ex c1 c2 o1 o2 h1 h2)⟩
theorem both_ok (D : Dn K mg "both" s_p_both) (D1 : Dn K mg "_side" s_p__side) (D2 : Dn K mg "_node" s_p__node) (m1 : mg "isinstance" = none) (m2 : mg "tuple" = none) (m3 : mg "min" = none) : ∀ n, C8.Cal P w K mg base (n + 2) "both" (sp3 K (S_ap and n)) []
  | 0 => cal_p_both D (z_p_both D) (Nat.zero_le _) (side_ok D1 m1 m2) (Nat.le_refl _) (node_okC D2) (Nat.le_refl _) m3 len_ap fun us μ Q ⟨c, o, e, c1, o1, c2, o2, hn, h60, q⟩ => by
    subst e
    cases c with
    | nd s a b => exfalso; simp only [T.h] at hn; omega
    | lit b =>
      cases o with
      | nd s a b => exfalso; simp only [T.h] at hn; omega
      | lit b' =>
        simp [wSeq, wIfS, wRet, wRetN, wNext, wDrop, wAsg, wAug, wBreak, wCont, wV, wC, wB, L3.wTru, L3.wNot, wAnd, wOr, wAndV, wOrV, wNotV, L3.wIf, wNeg, wOp, wCall, wQ, wML, wNil, wCons, wTup, wLst, wLstM, wIsi, wSl, wPart, wNoPart, wMinD, wJoin, wFrz, gN, sIx, sIs, sIsN, sI, sI0, truU, tyOk, tyU, isTruth, L3.isNon, itemsU, listU, ixU, qInt, qAbs, qStr, L3.max_int, start3, L3.kk_nb, L3.kk_nt, L3.kk_ni, L3.kk_ns, L3.kk_nl, L3.kk_bb, L3.kk_bt, L3.kk_bi, L3.kk_bs, L3.kk_bl, L3.kk_ib, L3.kk_it, L3.kk_ii, L3.kk_is, L3.kk_il, L3.kk_sb, L3.kk_st, L3.kk_si, L3.kk_ss, L3.kk_sl, L3.kk_tb, L3.kk_tt, L3.kk_ti, L3.kk_ts, L3.kk_tl, L3.kk_lb, L3.kk_lt, L3.kk_li, L3.kk_ls, L3.kk_ll, L3.at_0, L3.at_1, L3.at_2, L3.at_3, L3.eqA_int, L3.eqA_str, L3.eqA_bl, L3.lt_int, L3.gt_int, L3.le_int, L3.ge_int, L3.lt_str, L3.gt_str, L3.le_str, L3.ge_str, L3.add_int, L3.add_str, L3.exd, L3.exd0, L3.exd1, L3.exd2, L3.exd3, L3.exd4, L3.min_int, L3.min_str, L3.len_str, L3.len_lst, L3.len_tup, W_p_both, T.d]
        have q := q (.lit (b && b')) (ap_lit fun _ => rfl)
        cases b <;> cases b' <;> simp <;> exact rtE q
  | n + 1 => cal_p_both D (both_ok D D1 D2 m1 m2 m3 n) (Nat.le_refl _) (side_ok D1 m1 m2) (by omega) (node_okC D2) (by omega) m3 len_ap fun us μ Q ⟨c, o, e, c1, o1, c2, o2, hn, h60, q⟩ => by
    subst e
    cases c with
    | lit b =>
      cases b with
      | false =>
        simp [wSeq, wIfS, wRet, wRetN, wNext, wDrop, wAsg, wAug, wBreak, wCont, wV, wC, wB, L3.wTru, L3.wNot, wAnd, wOr, wAndV, wOrV, wNotV, L3.wIf, wNeg, wOp, wCall, wQ, wML, wNil, wCons, wTup, wLst, wLstM, wIsi, wSl, wPart, wNoPart, wMinD, wJoin, wFrz, gN, sIx, sIs, sIsN, sI, sI0, truU, tyOk, tyU, isTruth, L3.isNon, itemsU, listU, ixU, qInt, qAbs, qStr, L3.max_int, start3, L3.kk_nb, L3.kk_nt, L3.kk_ni, L3.kk_ns, L3.kk_nl, L3.kk_bb, L3.kk_bt, L3.kk_bi, L3.kk_bs, L3.kk_bl, L3.kk_ib, L3.kk_it, L3.kk_ii, L3.kk_is, L3.kk_il, L3.kk_sb, L3.kk_st, L3.kk_si, L3.kk_ss, L3.kk_sl, L3.kk_tb, L3.kk_tt, L3.kk_ti, L3.kk_ts, L3.kk_tl, L3.kk_lb, L3.kk_lt, L3.kk_li, L3.kk_ls, L3.kk_ll, L3.at_0, L3.at_1, L3.at_2, L3.at_3, L3.eqA_int, L3.eqA_str, L3.eqA_bl, L3.lt_int, L3.gt_int, L3.le_int, L3.ge_int, L3.lt_str, L3.gt_str, L3.le_str, L3.ge_str, L3.add_int, L3.add_str, L3.exd, L3.exd0, L3.exd1, L3.exd2, L3.exd3, L3.exd4, L3.min_int, L3.min_str, L3.len_str, L3.len_lst, L3.len_tup, W_p_both, T.d]
        exact rtE (q (.lit false) (ap_lit fun _ => rfl))
      | true =>
        have q := q o (ap_two o1 o2 fun _ => rfl)
        cases o with
        | lit b' =>
          simp [wSeq, wIfS, wRet, wRetN, wNext, wDrop, wAsg, wAug, wBreak, wCont, wV, wC, wB, L3.wTru, L3.wNot, wAnd, wOr, wAndV, wOrV, wNotV, L3.wIf, wNeg, wOp, wCall, wQ, wML, wNil, wCons, wTup, wLst, wLstM, wIsi, wSl, wPart, wNoPart, wMinD, wJoin, wFrz, gN, sIx, sIs, sIsN, sI, sI0, truU, tyOk, tyU, isTruth, L3.isNon, itemsU, listU, ixU, qInt, qAbs, qStr, L3.max_int, start3, L3.kk_nb, L3.kk_nt, L3.kk_ni, L3.kk_ns, L3.kk_nl, L3.kk_bb, L3.kk_bt, L3.kk_bi, L3.kk_bs, L3.kk_bl, L3.kk_ib, L3.kk_it, L3.kk_ii, L3.kk_is, L3.kk_il, L3.kk_sb, L3.kk_st, L3.kk_si, L3.kk_ss, L3.kk_sl, L3.kk_tb, L3.kk_tt, L3.kk_ti, L3.kk_ts, L3.kk_tl, L3.kk_lb, L3.kk_lt, L3.kk_li, L3.kk_ls, L3.kk_ll, L3.at_0, L3.at_1, L3.at_2, L3.at_3, L3.eqA_int, L3.eqA_str, L3.eqA_bl, L3.lt_int, L3.gt_int, L3.le_int, L3.ge_int, L3.lt_str, L3.gt_str, L3.le_str, L3.ge_str, L3.add_int, L3.add_str, L3.exd, L3.exd0, L3.exd1, L3.exd2, L3.exd3, L3.exd4, L3.min_int, L3.min_str, L3.len_str, L3.len_lst, L3.len_tup, W_p_both, T.d]
          cases b' <;> simp <;> exact rtE q
        | nd y p r =>
          simp [wSeq, wIfS, wRet, wRetN, wNext, wDrop, wAsg, wAug, wBreak, wCont, wV, wC, wB, L3.wTru, L3.wNot, wAnd, wOr, wAndV, wOrV, wNotV, L3.wIf, wNeg, wOp, wCall, wQ, wML, wNil, wCons, wTup, wLst, wLstM, wIsi, wSl, wPart, wNoPart, wMinD, wJoin, wFrz, gN, sIx, sIs, sIsN, sI, sI0, truU, tyOk, tyU, isTruth, L3.isNon, itemsU, listU, ixU, qInt, qAbs, qStr, L3.max_int, start3, L3.kk_nb, L3.kk_nt, L3.kk_ni, L3.kk_ns, L3.kk_nl, L3.kk_bb, L3.kk_bt, L3.kk_bi, L3.kk_bs, L3.kk_bl, L3.kk_ib, L3.kk_it, L3.kk_ii, L3.kk_is, L3.kk_il, L3.kk_sb, L3.kk_st, L3.kk_si, L3.kk_ss, L3.kk_sl, L3.kk_tb, L3.kk_tt, L3.kk_ti, L3.kk_ts, L3.kk_tl, L3.kk_lb, L3.kk_lt, L3.kk_li, L3.kk_ls, L3.kk_ll, L3.at_0, L3.at_1, L3.at_2, L3.at_3, L3.eqA_int, L3.eqA_str, L3.eqA_bl, L3.lt_int, L3.gt_int, L3.le_int, L3.ge_int, L3.lt_str, L3.gt_str, L3.le_str, L3.ge_str, L3.add_int, L3.add_str, L3.exd, L3.exd0, L3.exd1, L3.exd2, L3.exd3, L3.exd4, L3.min_int, L3.min_str, L3.len_str, L3.len_lst, L3.len_tup, W_p_both, T.d]
          exact rtE q
    | nd x a b =>
      cases o with
      | lit b' =>
        cases b' with
        | false =>
          simp [wSeq, wIfS, wRet, wRetN, wNext, wDrop, wAsg, wAug, wBreak, wCont, wV, wC, wB, L3.wTru, L3.wNot, wAnd, wOr, wAndV, wOrV, wNotV, L3.wIf, wNeg, wOp, wCall, wQ, wML, wNil, wCons, wTup, wLst, wLstM, wIsi, wSl, wPart, wNoPart, wMinD, wJoin, wFrz, gN, sIx, sIs, sIsN, sI, sI0, truU, tyOk, tyU, isTruth, L3.isNon, itemsU, listU, ixU, qInt, qAbs, qStr, L3.max_int, start3, L3.kk_nb, L3.kk_nt, L3.kk_ni, L3.kk_ns, L3.kk_nl, L3.kk_bb, L3.kk_bt, L3.kk_bi, L3.kk_bs, L3.kk_bl, L3.kk_ib, L3.kk_it, L3.kk_ii, L3.kk_is, L3.kk_il, L3.kk_sb, L3.kk_st, L3.kk_si, L3.kk_ss, L3.kk_sl, L3.kk_tb, L3.kk_tt, L3.kk_ti, L3.kk_ts, L3.kk_tl, L3.kk_lb, L3.kk_lt, L3.kk_li, L3.kk_ls, L3.kk_ll, L3.at_0, L3.at_1, L3.at_2, L3.at_3, L3.eqA_int, L3.eqA_str, L3.eqA_bl, L3.lt_int, L3.gt_int, L3.le_int, L3.ge_int, L3.lt_str, L3.gt_str, L3.le_str, L3.ge_str, L3.add_int, L3.add_str, L3.exd, L3.exd0, L3.exd1, L3.exd2, L3.exd3, L3.exd4, L3.min_int, L3.min_str, L3.len_str, L3.len_lst, L3.len_tup, W_p_both, T.d]
          exact rtE (q (.lit false) (ap_lit fun σ => (Bool.and_false _).symm))
        | true =>
          simp [wSeq, wIfS, wRet, wRetN, wNext, wDrop, wAsg, wAug, wBreak, wCont, wV, wC, wB, L3.wTru, L3.wNot, wAnd, wOr, wAndV, wOrV, wNotV, L3.wIf, wNeg, wOp, wCall, wQ, wML, wNil, wCons, wTup, wLst, wLstM, wIsi, wSl, wPart, wNoPart, wMinD, wJoin, wFrz, gN, sIx, sIs, sIsN, sI, sI0, truU, tyOk, tyU, isTruth, L3.isNon, itemsU, listU, ixU, qInt, qAbs, qStr, L3.max_int, start3, L3.kk_nb, L3.kk_nt, L3.kk_ni, L3.kk_ns, L3.kk_nl, L3.kk_bb, L3.kk_bt, L3.kk_bi, L3.kk_bs, L3.kk_bl, L3.kk_ib, L3.kk_it, L3.kk_ii, L3.kk_is, L3.kk_il, L3.kk_sb, L3.kk_st, L3.kk_si, L3.kk_ss, L3.kk_sl, L3.kk_tb, L3.kk_tt, L3.kk_ti, L3.kk_ts, L3.kk_tl, L3.kk_lb, L3.kk_lt, L3.kk_li, L3.kk_ls, L3.kk_ll, L3.at_0, L3.at_1, L3.at_2, L3.at_3, L3.eqA_int, L3.eqA_str, L3.eqA_bl, L3.lt_int, L3.gt_int, L3.le_int, L3.ge_int, L3.lt_str, L3.gt_str, L3.le_str, L3.ge_str, L3.add_int, L3.add_str, L3.exd, L3.exd0, L3.exd1, L3.exd2, L3.exd3, L3.exd4, L3.min_int, L3.min_str, L3.len_str, L3.len_lst, L3.len_tup, W_p_both, T.d]
          exact rtE (q (.nd x a b) (ap_one c1 c2 fun σ => (Bool.and_true _).symm))
      | nd y p r =>
        simp [wSeq, wIfS, wRet, wRetN, wNext, wDrop, wAsg, wAug, wBreak, wCont, wV, wC, wB, L3.wTru, L3.wNot, wAnd, wOr, wAndV, wOrV, wNotV, L3.wIf, wNeg, wOp, wCall, wQ, wML, wNil, wCons, wTup, wLst, wLstM, wIsi, wSl, wPart, wNoPart, wMinD, wJoin, wFrz, gN, sIx, sIs, sIsN, sI, sI0, truU, tyOk, tyU, isTruth, L3.isNon, itemsU, listU, ixU, qInt, qAbs, qStr, L3.max_int, start3, L3.kk_nb, L3.kk_nt, L3.kk_ni, L3.kk_ns, L3.kk_nl, L3.kk_bb, L3.kk_bt, L3.kk_bi, L3.kk_bs, L3.kk_bl, L3.kk_ib, L3.kk_it, L3.kk_ii, L3.kk_is, L3.kk_il, L3.kk_sb, L3.kk_st, L3.kk_si, L3.kk_ss, L3.kk_sl, L3.kk_tb, L3.kk_tt, L3.kk_ti, L3.kk_ts, L3.kk_tl, L3.kk_lb, L3.kk_lt, L3.kk_li, L3.kk_ls, L3.kk_ll, L3.at_0, L3.at_1, L3.at_2, L3.at_3, L3.eqA_int, L3.eqA_str, L3.eqA_bl, L3.lt_int, L3.gt_int, L3.le_int, L3.ge_int, L3.lt_str, L3.gt_str, L3.le_str, L3.ge_str, L3.add_int, L3.add_str, L3.exd, L3.exd0, L3.exd1, L3.exd2, L3.exd3, L3.exd4, L3.min_int, L3.min_str, L3.len_str, L3.len_lst, L3.len_tup, W_p_both, T.d]
        exact ap_step c1 c2 o1 o2 hn h60 fun r h => rtE (q r h)
def Im (c o : T) : Prop := ∀ σ, c.ev σ = true → o.ev σ = true
def S_im (n : Nat) : WF := fun us μ Q => ∃ c o : T, us = [.d c.d, .d o.d] ∧ c.ok ∧ o.ok ∧ c.nm ∧ o.nm ∧ c.h + o.h ≤ n ∧ ∀ b : Bool, (b = true ↔ Im c o) → Q (.d (.bool b)) μ
theorem len_im {n : Nat} : ∀ us μ Q, S_im n us μ Q → us.length = 2 := fun us μ Q ⟨_, _, e, _⟩ => by rw [e]; rfl
theorem im_step {s : Str} {c o : T} (m : Mn s c o) (c1 : c.ok) (c2 : c.nm) (o1 : o.ok) (o2 : o.nm) : Im c o ↔ Im (sd s true c) (sd s true o) ∧ Im (sd s false c) (sd s false o) := by
  have sc := fun on => sd_ok (on := on) c1 c2 m.gc
  have so := fun on => sd_ok (on := on) o1 o2 m.go
  have k : Im c o → ∀ on, Im (sd s on c) (sd s on o) := fun h on σ e => by
    have h := h (set σ s on)
    rw [(sc on).ev _ set_same, (so on).ev _ set_same, ev_ab (sc on).ok (sc on).ab, ev_ab (so on).ok (so on).ab] at h
    exact h e
  refine ⟨fun h => ⟨k h true, k h false⟩, fun ⟨h1, h2⟩ σ e => ?_⟩
  cases z : σ s with
  | true =>
    rw [(so true).ev _ z]
    rw [(sc true).ev _ z] at e
    exact h1 σ e
  | false =>
    rw [(so false).ev _ z]
    rw [(sc false).ev _ z] at e
    exact h2 σ e
theorem not_lit {o : T} {b : Bool} (h : o.ok) (ne : o ≠ .lit b) : ¬ ∀ σ, o.ev σ = b := fun k => ne (uni h trivial k)
theorem implies_ok (D : Dn K mg "implies" s_p_implies) (D1 : Dn K mg "_side" s_p__side) (m1 : mg "isinstance" = none) (m2 : mg "tuple" = none) (m3 : mg "min" = none) : ∀ n, C8.Cal P w K mg base (n + 2) "implies" (sp3 K (S_im n)) []
  | 0 => cal_p_implies D (z_p_implies D) (Nat.zero_le _) (side_ok D1 m1 m2) (Nat.le_refl _) m3 len_im fun us μ Q ⟨c, o, e, c1, o1, c2, o2, hn, q⟩ => by
    subst e
    cases c with
    | nd s a b => exfalso; simp only [T.h] at hn; omega
    | lit b =>
      cases o with
      | nd s a b => exfalso; simp only [T.h] at hn; omega
      | lit b' =>
        simp [wSeq, wIfS, wRet, wRetN, wNext, wDrop, wAsg, wAug, wBreak, wCont, wV, wC, wB, L3.wTru, L3.wNot, wAnd, wOr, wAndV, wOrV, wNotV, L3.wIf, wNeg, wOp, wCall, wQ, wML, wNil, wCons, wTup, wLst, wLstM, wIsi, wSl, wPart, wNoPart, wMinD, wJoin, wFrz, gN, sIx, sIs, sIsN, sI, sI0, truU, tyOk, tyU, isTruth, L3.isNon, itemsU, listU, ixU, qInt, qAbs, qStr, L3.max_int, start3, L3.kk_nb, L3.kk_nt, L3.kk_ni, L3.kk_ns, L3.kk_nl, L3.kk_bb, L3.kk_bt, L3.kk_bi, L3.kk_bs, L3.kk_bl, L3.kk_ib, L3.kk_it, L3.kk_ii, L3.kk_is, L3.kk_il, L3.kk_sb, L3.kk_st, L3.kk_si, L3.kk_ss, L3.kk_sl, L3.kk_tb, L3.kk_tt, L3.kk_ti, L3.kk_ts, L3.kk_tl, L3.kk_lb, L3.kk_lt, L3.kk_li, L3.kk_ls, L3.kk_ll, L3.at_0, L3.at_1, L3.at_2, L3.at_3, L3.eqA_int, L3.eqA_str, L3.eqA_bl, L3.lt_int, L3.gt_int, L3.le_int, L3.ge_int, L3.lt_str, L3.gt_str, L3.le_str, L3.ge_str, L3.add_int, L3.add_str, L3.exd, L3.exd0, L3.exd1, L3.exd2, L3.exd3, L3.exd4, L3.min_int, L3.min_str, L3.len_str, L3.len_lst, L3.len_tup, W_p_implies, T.d]
        have q := q (!b || b') ⟨fun h σ e => (by
          have e : b = true := e
          subst e
          exact h), fun h => by
          have h := h fun _ => true
          revert h
          simp only [T.ev]
          cases b <;> cases b' <;> simp⟩
        cases b <;> cases b' <;> simp <;> exact rtE q
  | n + 1 => cal_p_implies D (implies_ok D D1 m1 m2 m3 n) (Nat.le_refl _) (side_ok D1 m1 m2) (by omega) m3 len_im fun us μ Q ⟨c, o, e, c1, o1, c2, o2, hn, q⟩ => by
    subst e
    cases c with
    | lit b =>
      cases b with
      | false =>
        simp [wSeq, wIfS, wRet, wRetN, wNext, wDrop, wAsg, wAug, wBreak, wCont, wV, wC, wB, L3.wTru, L3.wNot, wAnd, wOr, wAndV, wOrV, wNotV, L3.wIf, wNeg, wOp, wCall, wQ, wML, wNil, wCons, wTup, wLst, wLstM, wIsi, wSl, wPart, wNoPart, wMinD, wJoin, wFrz, gN, sIx, sIs, sIsN, sI, sI0, truU, tyOk, tyU, isTruth, L3.isNon, itemsU, listU, ixU, qInt, qAbs, qStr, L3.max_int, start3, L3.kk_nb, L3.kk_nt, L3.kk_ni, L3.kk_ns, L3.kk_nl, L3.kk_bb, L3.kk_bt, L3.kk_bi, L3.kk_bs, L3.kk_bl, L3.kk_ib, L3.kk_it, L3.kk_ii, L3.kk_is, L3.kk_il, L3.kk_sb, L3.kk_st, L3.kk_si, L3.kk_ss, L3.kk_sl, L3.kk_tb, L3.kk_tt, L3.kk_ti, L3.kk_ts, L3.kk_tl, L3.kk_lb, L3.kk_lt, L3.kk_li, L3.kk_ls, L3.kk_ll, L3.at_0, L3.at_1, L3.at_2, L3.at_3, L3.eqA_int, L3.eqA_str, L3.eqA_bl, L3.lt_int, L3.gt_int, L3.le_int, L3.ge_int, L3.lt_str, L3.gt_str, L3.le_str, L3.ge_str, L3.add_int, L3.add_str, L3.exd, L3.exd0, L3.exd1, L3.exd2, L3.exd3, L3.exd4, L3.min_int, L3.min_str, L3.len_str, L3.len_lst, L3.len_tup, W_p_implies, T.d]
        exact rtE (q true ⟨fun _ σ e => (by cases e), fun _ => rfl⟩)
      | true =>
        cases o with
        | lit b' =>
          simp [wSeq, wIfS, wRet, wRetN, wNext, wDrop, wAsg, wAug, wBreak, wCont, wV, wC, wB, L3.wTru, L3.wNot, wAnd, wOr, wAndV, wOrV, wNotV, L3.wIf, wNeg, wOp, wCall, wQ, wML, wNil, wCons, wTup, wLst, wLstM, wIsi, wSl, wPart, wNoPart, wMinD, wJoin, wFrz, gN, sIx, sIs, sIsN, sI, sI0, truU, tyOk, tyU, isTruth, L3.isNon, itemsU, listU, ixU, qInt, qAbs, qStr, L3.max_int, start3, L3.kk_nb, L3.kk_nt, L3.kk_ni, L3.kk_ns, L3.kk_nl, L3.kk_bb, L3.kk_bt, L3.kk_bi, L3.kk_bs, L3.kk_bl, L3.kk_ib, L3.kk_it, L3.kk_ii, L3.kk_is, L3.kk_il, L3.kk_sb, L3.kk_st, L3.kk_si, L3.kk_ss, L3.kk_sl, L3.kk_tb, L3.kk_tt, L3.kk_ti, L3.kk_ts, L3.kk_tl, L3.kk_lb, L3.kk_lt, L3.kk_li, L3.kk_ls, L3.kk_ll, L3.at_0, L3.at_1, L3.at_2, L3.at_3, L3.eqA_int, L3.eqA_str, L3.eqA_bl, L3.lt_int, L3.gt_int, L3.le_int, L3.ge_int, L3.lt_str, L3.gt_str, L3.le_str, L3.ge_str, L3.add_int, L3.add_str, L3.exd, L3.exd0, L3.exd1, L3.exd2, L3.exd3, L3.exd4, L3.min_int, L3.min_str, L3.len_str, L3.len_lst, L3.len_tup, W_p_implies, T.d]
          have q := q b' ⟨fun h σ _ => h, fun h => h (fun _ => true) rfl⟩
          cases b' <;> simp <;> exact rtE q
        | nd y p r =>
          simp [wSeq, wIfS, wRet, wRetN, wNext, wDrop, wAsg, wAug, wBreak, wCont, wV, wC, wB, L3.wTru, L3.wNot, wAnd, wOr, wAndV, wOrV, wNotV, L3.wIf, wNeg, wOp, wCall, wQ, wML, wNil, wCons, wTup, wLst, wLstM, wIsi, wSl, wPart, wNoPart, wMinD, wJoin, wFrz, gN, sIx, sIs, sIsN, sI, sI0, truU, tyOk, tyU, isTruth, L3.isNon, itemsU, listU, ixU, qInt, qAbs, qStr, L3.max_int, start3, L3.kk_nb, L3.kk_nt, L3.kk_ni, L3.kk_ns, L3.kk_nl, L3.kk_bb, L3.kk_bt, L3.kk_bi, L3.kk_bs, L3.kk_bl, L3.kk_ib, L3.kk_it, L3.kk_ii, L3.kk_is, L3.kk_il, L3.kk_sb, L3.kk_st, L3.kk_si, L3.kk_ss, L3.kk_sl, L3.kk_tb, L3.kk_tt, L3.kk_ti, L3.kk_ts, L3.kk_tl, L3.kk_lb, L3.kk_lt, L3.kk_li, L3.kk_ls, L3.kk_ll, L3.at_0, L3.at_1, L3.at_2, L3.at_3, L3.eqA_int, L3.eqA_str, L3.eqA_bl, L3.lt_int, L3.gt_int, L3.le_int, L3.ge_int, L3.lt_str, L3.gt_str, L3.le_str, L3.ge_str, L3.add_int, L3.add_str, L3.exd, L3.exd0, L3.exd1, L3.exd2, L3.exd3, L3.exd4, L3.min_int, L3.min_str, L3.len_str, L3.len_lst, L3.len_tup, W_p_implies, T.d]
          exact rtE (q false ⟨fun h => (by cases h), fun h => absurd (fun σ => h σ rfl) (not_lit (b := true) o1 (fun h => by cases h))⟩)
    | nd x a b =>
      cases o with
      | lit b' =>
        cases b' with
        | true =>
          simp [wSeq, wIfS, wRet, wRetN, wNext, wDrop, wAsg, wAug, wBreak, wCont, wV, wC, wB, L3.wTru, L3.wNot, wAnd, wOr, wAndV, wOrV, wNotV, L3.wIf, wNeg, wOp, wCall, wQ, wML, wNil, wCons, wTup, wLst, wLstM, wIsi, wSl, wPart, wNoPart, wMinD, wJoin, wFrz, gN, sIx, sIs, sIsN, sI, sI0, truU, tyOk, tyU, isTruth, L3.isNon, itemsU, listU, ixU, qInt, qAbs, qStr, L3.max_int, start3, L3.kk_nb, L3.kk_nt, L3.kk_ni, L3.kk_ns, L3.kk_nl, L3.kk_bb, L3.kk_bt, L3.kk_bi, L3.kk_bs, L3.kk_bl, L3.kk_ib, L3.kk_it, L3.kk_ii, L3.kk_is, L3.kk_il, L3.kk_sb, L3.kk_st, L3.kk_si, L3.kk_ss, L3.kk_sl, L3.kk_tb, L3.kk_tt, L3.kk_ti, L3.kk_ts, L3.kk_tl, L3.kk_lb, L3.kk_lt, L3.kk_li, L3.kk_ls, L3.kk_ll, L3.at_0, L3.at_1, L3.at_2, L3.at_3, L3.eqA_int, L3.eqA_str, L3.eqA_bl, L3.lt_int, L3.gt_int, L3.le_int, L3.ge_int, L3.lt_str, L3.gt_str, L3.le_str, L3.ge_str, L3.add_int, L3.add_str, L3.exd, L3.exd0, L3.exd1, L3.exd2, L3.exd3, L3.exd4, L3.min_int, L3.min_str, L3.len_str, L3.len_lst, L3.len_tup, W_p_implies, T.d]
          exact rtE (q true ⟨fun _ σ e => rfl, fun _ => rfl⟩)
        | false =>
          simp [wSeq, wIfS, wRet, wRetN, wNext, wDrop, wAsg, wAug, wBreak, wCont, wV, wC, wB, L3.wTru, L3.wNot, wAnd, wOr, wAndV, wOrV, wNotV, L3.wIf, wNeg, wOp, wCall, wQ, wML, wNil, wCons, wTup, wLst, wLstM, wIsi, wSl, wPart, wNoPart, wMinD, wJoin, wFrz, gN, sIx, sIs, sIsN, sI, sI0, truU, tyOk, tyU, isTruth, L3.isNon, itemsU, listU, ixU, qInt, qAbs, qStr, L3.max_int, start3, L3.kk_nb, L3.kk_nt, L3.kk_ni, L3.kk_ns, L3.kk_nl, L3.kk_bb, L3.kk_bt, L3.kk_bi, L3.kk_bs, L3.kk_bl, L3.kk_ib, L3.kk_it, L3.kk_ii, L3.kk_is, L3.kk_il, L3.kk_sb, L3.kk_st, L3.kk_si, L3.kk_ss, L3.kk_sl, L3.kk_tb, L3.kk_tt, L3.kk_ti, L3.kk_ts, L3.kk_tl, L3.kk_lb, L3.kk_lt, L3.kk_li, L3.kk_ls, L3.kk_ll, L3.at_0, L3.at_1, L3.at_2, L3.at_3, L3.eqA_int, L3.eqA_str, L3.eqA_bl, L3.lt_int, L3.gt_int, L3.le_int, L3.ge_int, L3.lt_str, L3.gt_str, L3.le_str, L3.ge_str, L3.add_int, L3.add_str, L3.exd, L3.exd0, L3.exd1, L3.exd2, L3.exd3, L3.exd4, L3.min_int, L3.min_str, L3.len_str, L3.len_lst, L3.len_tup, W_p_implies, T.d]
          refine rtE (q false ⟨fun h => (by cases h), fun h => absurd (fun σ => ?_) (not_lit (b := false) c1 (fun h => by cases h))⟩)
          have h := h σ
          revert h
          cases (T.nd x a b).ev σ
          · exact fun _ => rfl
          · exact fun h => absurd (h rfl) (by simp [T.ev])
      | nd y p r =>
        simp [wSeq, wIfS, wRet, wRetN, wNext, wDrop, wAsg, wAug, wBreak, wCont, wV, wC, wB, L3.wTru, L3.wNot, wAnd, wOr, wAndV, wOrV, wNotV, L3.wIf, wNeg, wOp, wCall, wQ, wML, wNil, wCons, wTup, wLst, wLstM, wIsi, wSl, wPart, wNoPart, wMinD, wJoin, wFrz, gN, sIx, sIs, sIsN, sI, sI0, truU, tyOk, tyU, isTruth, L3.isNon, itemsU, listU, ixU, qInt, qAbs, qStr, L3.max_int, start3, L3.kk_nb, L3.kk_nt, L3.kk_ni, L3.kk_ns, L3.kk_nl, L3.kk_bb, L3.kk_bt, L3.kk_bi, L3.kk_bs, L3.kk_bl, L3.kk_ib, L3.kk_it, L3.kk_ii, L3.kk_is, L3.kk_il, L3.kk_sb, L3.kk_st, L3.kk_si, L3.kk_ss, L3.kk_sl, L3.kk_tb, L3.kk_tt, L3.kk_ti, L3.kk_ts, L3.kk_tl, L3.kk_lb, L3.kk_lt, L3.kk_li, L3.kk_ls, L3.kk_ll, L3.at_0, L3.at_1, L3.at_2, L3.at_3, L3.eqA_int, L3.eqA_str, L3.eqA_bl, L3.lt_int, L3.gt_int, L3.le_int, L3.ge_int, L3.lt_str, L3.gt_str, L3.le_str, L3.ge_str, L3.add_int, L3.add_str, L3.exd, L3.exd0, L3.exd1, L3.exd2, L3.exd3, L3.exd4, L3.min_int, L3.min_str, L3.len_str, L3.len_lst, L3.len_tup, W_p_implies, T.d]
        have m := mn_ok c2 o2
        generalize (if L3M.ltS y x = true then y else x) = s at m ⊢
        have l := fun on => m.less c1 c2 o1 o2 on
        have sc := fun on => sd_ok (on := on) c1 c2 m.gc
        have so := fun on => sd_ok (on := on) o1 o2 m.go
        have l1 := l true
        have l2 := l false
        refine ⟨.nd x a b, s, true, rfl, .nd y p r, s, true, rfl, _, _, rfl, (sc true).ok, (so true).ok, (sc true).nm, (so true).nm, by omega, fun b1 h1 => ?_⟩
        cases b1 with
        | false =>
          simp
          exact rtE (q false ⟨fun h => (by cases h), fun h => h1.mpr ((im_step m c1 c2 o1 o2).mp h).1⟩)
        | true =>
          simp
          exact ⟨.nd x a b, s, false, rfl, .nd y p r, s, false, rfl, _, _, rfl, (sc false).ok, (so false).ok, (sc false).nm, (so false).nm, by omega, fun b2 h2 => rtE (q b2 (h2.trans ⟨fun h => (im_step m c1 c2 o1 o2).mpr ⟨h1.mp rfl, h⟩, fun h => ((im_step m c1 c2 o1 o2).mp h).2⟩))⟩
end
end K04

namespace K04
open PySem PySem.Spec PyProof.Rows L2 L3 Cn
section
variable {P : Program} {w : World} {K : Fg} {mg : Str → Option Value} {base : Heap}
def S_st : WF := fun us μ Q => ∃ a b : Int, us = [.d (.int a), .d (.int b)] ∧ 0 ≤ a ∧ a < 2147483647 ∧ 0 ≤ b ∧ b ≤ 64 ∧ ∀ z : Int, Q (.d (.int z)) μ
theorem ex_int {p : Int → Prop} {i : Int} : (∃ x, i = x ∧ p x) ↔ p i := ⟨fun ⟨_, e, h⟩ => e ▸ h, fun h => ⟨i, rfl, h⟩⟩
theorem stirred_ok (D : Dn K mg "_law_stirred" s_l_stirred) (m1 : mg "int" = none) : C8.Cal P w K mg base 1 "_law_stirred" (sp3 K S_st) [] :=
  cal_l_stirred D m1 (fun us μ Q ⟨_, _, e, _⟩ => by rw [e]; rfl) fun us μ Q ⟨a, b, e, h1, h2, h3, h4, q⟩ => by
    subst e
    simp [wSeq, wIfS, wRet, wRetN, wNext, wDrop, wAsg, wAug, wBreak, wCont, wV, wC, wB, L3.wTru, L3.wNot, wAnd, wOr, wAndV, wOrV, wNotV, L3.wIf, wNeg, wOp, wCall, wQ, wML, wNil, wCons, wTup, wLst, wLstM, wIsi, wSl, wPart, wNoPart, wMinD, wJoin, wFrz, gN, sIx, sIs, sIsN, sI, sI0, truU, tyOk, tyU, isTruth, L3.isNon, itemsU, listU, ixU, qInt, qAbs, qStr, L3.max_int, start3, L3.kk_nb, L3.kk_nt, L3.kk_ni, L3.kk_ns, L3.kk_nl, L3.kk_bb, L3.kk_bt, L3.kk_bi, L3.kk_bs, L3.kk_bl, L3.kk_ib, L3.kk_it, L3.kk_ii, L3.kk_is, L3.kk_il, L3.kk_sb, L3.kk_st, L3.kk_si, L3.kk_ss, L3.kk_sl, L3.kk_tb, L3.kk_tt, L3.kk_ti, L3.kk_ts, L3.kk_tl, L3.kk_lb, L3.kk_lt, L3.kk_li, L3.kk_ls, L3.kk_ll, L3.at_0, L3.at_1, L3.at_2, L3.at_3, L3.eqA_int, L3.eqA_str, L3.eqA_bl, L3.lt_int, L3.gt_int, L3.le_int, L3.ge_int, L3.lt_str, L3.gt_str, L3.le_str, L3.ge_str, L3.add_int, L3.add_str, L3.exd, L3.exd0, L3.exd1, L3.exd2, L3.exd3, L3.exd4, L3.min_int, L3.min_str, L3.len_str, L3.len_lst, L3.len_tup, W_l_stirred, CMul, CDivN]
    have k1 : 0 ≤ (a * 48017 + b * 8821 + 70001) % 2147483423 := Int.emod_nonneg _ (by decide)
    have k2 : (a * 48017 + b * 8821 + 70001) % 2147483423 < 2147483423 := Int.emod_lt_of_pos _ (by decide)
    and_intros
    all_goals first | exact rtE (q _) | omega
def S_take : WF := fun us μ Q => ∃ (h : Addr) (m : Int), us = [.r h, .d (.int m)] ∧ μ h = some .hand ∧ 1 ≤ m ∧ m < 1000000 ∧ ∀ z : Int, 0 ≤ z → z < m → Q (.d (.int z)) μ
theorem take_ok (D : Dn K mg "_law_take" s_l_take) (D1 : Dn K mg "_law_stirred" s_l_stirred) (m1 : mg "int" = none) (m2 : mg "len" = none) : C8.Cal P w K mg base 2 "_law_take" (sp3 K S_take) [] := by
  refine cal_l_take D (c_l_stirred := stirred_ok D1 m1) (h_l_stirred := Nat.le_refl _) (m_len := m2) (m_int := m1) (len := fun us μ Q ⟨_, _, e, _⟩ => by rw [e]; rfl) (h := fun us μ Q ⟨h, m, e, hh, h1, h2, q⟩ => ?_)
  · subst e
    have mm : ∀ z : Int, 0 ≤ z % m ∧ z % m < m := fun z => ⟨Int.emod_nonneg _ (by omega), Int.emod_lt_of_pos _ (by omega)⟩
    have fin : ∀ (z j r t : Int) (ns : List Int), ns.length ≤ 63 → (∀ x ∈ ns, 0 ≤ x) → 0 ≤ j → j ≤ 63 → 0 ≤ r → (E3 μ Q).rt (.d (.int (z % m))) (put μ h (.lst [.d (.list (ns.map .int)), .d (.int j), .d (.int r), .d (.int t)])) := fun z j r t ns l1 l2 l3 l4 l5 =>
      rtH put_same l1 l2 l3 l4 l5 (rtE (by rw [put_put, put_id hh]; exact q _ (mm z).1 (mm z).2))
    have dr : ∀ (j r t : Int) (ns : List Int), ns.length ≤ 63 → (∀ x ∈ ns, 0 ≤ x) → 0 ≤ j → j ≤ 63 → 0 ≤ r → S_st [.d (.int ((t + 1) % 2147483477)), .d (.int j)] (put μ h (.lst [.d (.list (ns.map .int)), .d (.int j), .d (.int r), .d (.int ((t + 1) % 2147483477))])) fun x μ1 => ∃ i, x = .d (.int i) ∧ (E3 μ Q).rt (.d (.int (i % m))) μ1 := fun j r t ns l1 l2 l3 l4 l5 => by
      have k1 : 0 ≤ (t + 1) % 2147483477 := Int.emod_nonneg _ (by decide)
      have k2 : (t + 1) % 2147483477 < 2147483477 := Int.emod_lt_of_pos _ (by decide)
      exact ⟨_, _, rfl, k1, by omega, l3, by omega, fun z => ⟨z, rfl, fin z j r _ ns l1 l2 l3 l4 l5⟩⟩
    have i1 : ixN 4 1 = some 1 := rfl
    have i2 : ixN 4 2 = some 2 := rfl
    have i3 : ixN 4 3 = some 3 := rfl
    have m0 : ¬ m = 0 := by omega
    have m3 : m.natAbs < 1073741824 := by omega
    have m4 : 0 < m := by omega
    refine ⟨h, rfl, hh, fun ns j r t l1 l2 l3 l4 l5 => ?_⟩
    have fd : 0 ≤ r.fdiv m := by rw [Int.fdiv_eq_ediv_of_nonneg _ (by omega)]; exact Int.ediv_nonneg l5 (by omega)
    by_cases hr : r = 0
    · subst hr
      by_cases hj : j < ns.length
      · obtain ⟨n, rfl⟩ := Int.eq_ofNat_of_zero_le l3
        have hn : n < ns.length := by omega
        have hx : atI (List.map (U.d ∘ PyData.int) ns) (n : Int) = some (.d (.int ns[n])) := by
          rw [L3.at_n (by rw [List.length_map]; exact hn), List.getElem_map]
          rfl
        have x0 := l2 _ (List.getElem_mem hn)
        generalize ns[n] = x at hx x0
        by_cases hc : x < 1000000000000000000
        · simp [wSeq, wIfS, wRet, wRetN, wNext, wDrop, wAsg, wAug, wBreak, wCont, wV, wC, wB, L3.wTru, L3.wNot, wAnd, wOr, wAndV, wOrV, wNotV, L3.wIf, wNeg, wOp, wCall, wQ, wML, wNil, wCons, wTup, wLst, wLstM, wIsi, wSl, wPart, wNoPart, wMinD, wJoin, wFrz, gN, sIx, sIs, sIsN, sI, sI0, truU, tyOk, tyU, isTruth, L3.isNon, itemsU, listU, ixU, qInt, qAbs, qStr, L3.max_int, start3, L3.kk_nb, L3.kk_nt, L3.kk_ni, L3.kk_ns, L3.kk_nl, L3.kk_bb, L3.kk_bt, L3.kk_bi, L3.kk_bs, L3.kk_bl, L3.kk_ib, L3.kk_it, L3.kk_ii, L3.kk_is, L3.kk_il, L3.kk_sb, L3.kk_st, L3.kk_si, L3.kk_ss, L3.kk_sl, L3.kk_tb, L3.kk_tt, L3.kk_ti, L3.kk_ts, L3.kk_tl, L3.kk_lb, L3.kk_lt, L3.kk_li, L3.kk_ls, L3.kk_ll, L3.at_0, L3.at_1, L3.at_2, L3.at_3, L3.eqA_int, L3.eqA_str, L3.eqA_bl, L3.lt_int, L3.gt_int, L3.le_int, L3.ge_int, L3.lt_str, L3.gt_str, L3.le_str, L3.ge_str, L3.add_int, L3.add_str, L3.exd, L3.exd0, L3.exd1, L3.exd2, L3.exd3, L3.exd4, L3.min_int, L3.min_str, L3.len_str, L3.len_lst, L3.len_tup, W_l_take, gIx, put_same, put_put, CPow, CDivN, hx, i1, i2, i3, hj, hc, m0, m3, m4]
          have k1 : 0 ≤ x % 2147483423 := Int.emod_nonneg _ (by decide)
          have k2 : x % 2147483423 < 2147483423 := Int.emod_lt_of_pos _ (by decide)
          exact ⟨_, _, rfl, k1, by omega, by omega, by omega, fun z => ⟨z, rfl, fin z (n + 1) 0 t ns l1 l2 (by omega) (by omega) (by omega)⟩⟩
        · have hx0 : 0 < x := by omega
          have fx : 0 ≤ x.fdiv m := by rw [Int.fdiv_eq_ediv_of_nonneg _ (by omega)]; exact Int.ediv_nonneg x0 (by omega)
          simp [wSeq, wIfS, wRet, wRetN, wNext, wDrop, wAsg, wAug, wBreak, wCont, wV, wC, wB, L3.wTru, L3.wNot, wAnd, wOr, wAndV, wOrV, wNotV, L3.wIf, wNeg, wOp, wCall, wQ, wML, wNil, wCons, wTup, wLst, wLstM, wIsi, wSl, wPart, wNoPart, wMinD, wJoin, wFrz, gN, sIx, sIs, sIsN, sI, sI0, truU, tyOk, tyU, isTruth, L3.isNon, itemsU, listU, ixU, qInt, qAbs, qStr, L3.max_int, start3, L3.kk_nb, L3.kk_nt, L3.kk_ni, L3.kk_ns, L3.kk_nl, L3.kk_bb, L3.kk_bt, L3.kk_bi, L3.kk_bs, L3.kk_bl, L3.kk_ib, L3.kk_it, L3.kk_ii, L3.kk_is, L3.kk_il, L3.kk_sb, L3.kk_st, L3.kk_si, L3.kk_ss, L3.kk_sl, L3.kk_tb, L3.kk_tt, L3.kk_ti, L3.kk_ts, L3.kk_tl, L3.kk_lb, L3.kk_lt, L3.kk_li, L3.kk_ls, L3.kk_ll, L3.at_0, L3.at_1, L3.at_2, L3.at_3, L3.eqA_int, L3.eqA_str, L3.eqA_bl, L3.lt_int, L3.gt_int, L3.le_int, L3.ge_int, L3.lt_str, L3.gt_str, L3.le_str, L3.ge_str, L3.add_int, L3.add_str, L3.exd, L3.exd0, L3.exd1, L3.exd2, L3.exd3, L3.exd4, L3.min_int, L3.min_str, L3.len_str, L3.len_lst, L3.len_tup, W_l_take, gIx, put_same, put_put, CPow, CDivN, hx, i1, i2, i3, hj, hc, m0, m3, m4, hx0]
          exact fin x (n + 1) _ t ns l1 l2 (by omega) (by omega) fx
      · simp [wSeq, wIfS, wRet, wRetN, wNext, wDrop, wAsg, wAug, wBreak, wCont, wV, wC, wB, L3.wTru, L3.wNot, wAnd, wOr, wAndV, wOrV, wNotV, L3.wIf, wNeg, wOp, wCall, wQ, wML, wNil, wCons, wTup, wLst, wLstM, wIsi, wSl, wPart, wNoPart, wMinD, wJoin, wFrz, gN, sIx, sIs, sIsN, sI, sI0, truU, tyOk, tyU, isTruth, L3.isNon, itemsU, listU, ixU, qInt, qAbs, qStr, L3.max_int, start3, L3.kk_nb, L3.kk_nt, L3.kk_ni, L3.kk_ns, L3.kk_nl, L3.kk_bb, L3.kk_bt, L3.kk_bi, L3.kk_bs, L3.kk_bl, L3.kk_ib, L3.kk_it, L3.kk_ii, L3.kk_is, L3.kk_il, L3.kk_sb, L3.kk_st, L3.kk_si, L3.kk_ss, L3.kk_sl, L3.kk_tb, L3.kk_tt, L3.kk_ti, L3.kk_ts, L3.kk_tl, L3.kk_lb, L3.kk_lt, L3.kk_li, L3.kk_ls, L3.kk_ll, L3.at_0, L3.at_1, L3.at_2, L3.at_3, L3.eqA_int, L3.eqA_str, L3.eqA_bl, L3.lt_int, L3.gt_int, L3.le_int, L3.ge_int, L3.lt_str, L3.gt_str, L3.le_str, L3.ge_str, L3.add_int, L3.add_str, L3.exd, L3.exd0, L3.exd1, L3.exd2, L3.exd3, L3.exd4, L3.min_int, L3.min_str, L3.len_str, L3.len_lst, L3.len_tup, W_l_take, gIx, put_same, put_put, CPow, CDivN, i1, i2, i3, hj, m0, m3, m4]
        exact dr j 0 t ns l1 l2 l3 l4 l5
    · have hr' : 0 < r := by omega
      simp [wSeq, wIfS, wRet, wRetN, wNext, wDrop, wAsg, wAug, wBreak, wCont, wV, wC, wB, L3.wTru, L3.wNot, wAnd, wOr, wAndV, wOrV, wNotV, L3.wIf, wNeg, wOp, wCall, wQ, wML, wNil, wCons, wTup, wLst, wLstM, wIsi, wSl, wPart, wNoPart, wMinD, wJoin, wFrz, gN, sIx, sIs, sIsN, sI, sI0, truU, tyOk, tyU, isTruth, L3.isNon, itemsU, listU, ixU, qInt, qAbs, qStr, L3.max_int, start3, L3.kk_nb, L3.kk_nt, L3.kk_ni, L3.kk_ns, L3.kk_nl, L3.kk_bb, L3.kk_bt, L3.kk_bi, L3.kk_bs, L3.kk_bl, L3.kk_ib, L3.kk_it, L3.kk_ii, L3.kk_is, L3.kk_il, L3.kk_sb, L3.kk_st, L3.kk_si, L3.kk_ss, L3.kk_sl, L3.kk_tb, L3.kk_tt, L3.kk_ti, L3.kk_ts, L3.kk_tl, L3.kk_lb, L3.kk_lt, L3.kk_li, L3.kk_ls, L3.kk_ll, L3.at_0, L3.at_1, L3.at_2, L3.at_3, L3.eqA_int, L3.eqA_str, L3.eqA_bl, L3.lt_int, L3.gt_int, L3.le_int, L3.ge_int, L3.lt_str, L3.gt_str, L3.le_str, L3.ge_str, L3.add_int, L3.add_str, L3.exd, L3.exd0, L3.exd1, L3.exd2, L3.exd3, L3.exd4, L3.min_int, L3.min_str, L3.len_str, L3.len_lst, L3.len_tup, W_l_take, gIx, put_same, put_put, CPow, CDivN, i1, i2, i3, hr, hr', m0, m3, m4]
      exact fin r j _ t ns l1 l2 l3 l4 fd
mutual
def gd : PyData → Prop
  | .none | .bool _ | .int _ | .str _ => True
  | .tuple xs => xs.length ≤ 1000 ∧ gds xs
  | .list _ | .dict _ => False
def gds : List PyData → Prop
  | [] => True
  | x :: xs => gd x ∧ gds xs
end
theorem gds_at : ∀ {xs : List PyData} {j : Nat} (h : j < xs.length), gds xs → gd xs[j]
  | x :: xs, 0, _, g => by unfold gds at g; exact g.1
  | x :: xs, j + 1, h, g => by unfold gds at g; exact gds_at (xs := xs) (by simpa using h) g.2
theorem dep_at : ∀ {xs : List PyData} {j : Nat} (h : j < xs.length), xs[j].depth ≤ PyData.depthAll xs
  | x :: xs, 0, _ => by unfold PyData.depthAll; exact Nat.le_max_left _ _
  | x :: xs, j + 1, h => by
    unfold PyData.depthAll
    exact Nat.le_trans (dep_at (j := j) (by simpa using h)) (Nat.le_max_right _ _)
def S_al (n : Nat) : WF := fun us μ Q => ∃ d : PyData, us = [.d d, .d d] ∧ gd d ∧ d.depth ≤ n ∧ Q (.d (.bool true)) μ
def S_wh : WF := fun us μ Q => ∃ i : Int, us = [.d (.int i)] ∧ Q (.d (.bool true)) μ
theorem whole_ok (D : Dn K mg "_law_whole" s_l_whole) (m0 : mg "isinstance" = none) (m1 : mg "int" = none) (m2 : mg "bool" = none) : C8.Cal P w K mg base 1 "_law_whole" (sp3 K S_wh) [] :=
  cal_l_whole D (m_isinstance := m0) (m_int := m1) (m_bool := m2) (len := fun us μ Q ⟨_, e, _⟩ => by rw [e]; rfl) (h := fun us μ Q ⟨i, e, q⟩ => by
    subst e
    simp [wSeq, wIfS, wRet, wRetN, wNext, wDrop, wAsg, wAug, wBreak, wCont, wV, wC, wB, L3.wTru, L3.wNot, wAnd, wOr, wAndV, wOrV, wNotV, L3.wIf, wNeg, wOp, wCall, wQ, wML, wNil, wCons, wTup, wLst, wLstM, wIsi, wSl, wPart, wNoPart, wMinD, wJoin, wFrz, gN, sIx, sIs, sIsN, sI, sI0, truU, tyOk, tyU, isTruth, L3.isNon, itemsU, listU, ixU, qInt, qAbs, qStr, L3.max_int, start3, L3.kk_nb, L3.kk_nt, L3.kk_ni, L3.kk_ns, L3.kk_nl, L3.kk_bb, L3.kk_bt, L3.kk_bi, L3.kk_bs, L3.kk_bl, L3.kk_ib, L3.kk_it, L3.kk_ii, L3.kk_is, L3.kk_il, L3.kk_sb, L3.kk_st, L3.kk_si, L3.kk_ss, L3.kk_sl, L3.kk_tb, L3.kk_tt, L3.kk_ti, L3.kk_ts, L3.kk_tl, L3.kk_lb, L3.kk_lt, L3.kk_li, L3.kk_ls, L3.kk_ll, L3.at_0, L3.at_1, L3.at_2, L3.at_3, L3.eqA_int, L3.eqA_str, L3.eqA_bl, L3.lt_int, L3.gt_int, L3.le_int, L3.ge_int, L3.lt_str, L3.gt_str, L3.le_str, L3.ge_str, L3.add_int, L3.add_str, L3.exd, L3.exd0, L3.exd1, L3.exd2, L3.exd3, L3.exd4, L3.min_int, L3.min_str, L3.len_str, L3.len_lst, L3.len_tup, W_l_whole]
    exact rtE q)
theorem alike_ok (D : Dn K mg "_law_alike" s_l_alike) (D1 : Dn K mg "_law_whole" s_l_whole) (m0 : mg "isinstance" = none) (m1 : mg "int" = none) (m2 : mg "bool" = none) (m3 : mg "tuple" = none) (m4 : mg "len" = none) (m5 : mg "range" = none) (m6 : mg "str" = none) : ∀ n, C8.Cal P w K mg base (n + 2) "_law_alike" (sp3 K (S_al n)) [] := by
  have go : ∀ n, (∃ k, k ≤ n + 1 ∧ ∃ s, C8.Cal P w K mg base k "_law_alike" (sp3 K s) [] ∧ (n ≠ 0 → s = S_al (n - 1))) → C8.Cal P w K mg base (n + 2) "_law_alike" (sp3 K (S_al n)) [] := fun n ⟨k, hk, s, c, hs⟩ =>
    cal_l_alike D (c_l_alike := c) (h_l_alike := hk) (c_l_whole := whole_ok D1 m0 m1 m2) (h_l_whole := by omega) (m_isinstance := m0) (m_int := m1) (m_bool := m2) (m_tuple := m3) (m_len := m4) (m_range := m5) (m_str := m6) (len := fun us μ Q ⟨_, e, _⟩ => by rw [e]; rfl) (h := fun us μ Q ⟨d, e, g, dn, q⟩ => by
      subst e
      cases d with
      | none => simp [wSeq, wIfS, wRet, wRetN, wNext, wDrop, wAsg, wAug, wBreak, wCont, wV, wC, wB, L3.wTru, L3.wNot, wAnd, wOr, wAndV, wOrV, wNotV, L3.wIf, wNeg, wOp, wCall, wQ, wML, wNil, wCons, wTup, wLst, wLstM, wIsi, wSl, wPart, wNoPart, wMinD, wJoin, wFrz, gN, sIx, sIs, sIsN, sI, sI0, truU, tyOk, tyU, isTruth, L3.isNon, itemsU, listU, ixU, qInt, qAbs, qStr, L3.max_int, start3, L3.kk_nb, L3.kk_nt, L3.kk_ni, L3.kk_ns, L3.kk_nl, L3.kk_bb, L3.kk_bt, L3.kk_bi, L3.kk_bs, L3.kk_bl, L3.kk_ib, L3.kk_it, L3.kk_ii, L3.kk_is, L3.kk_il, L3.kk_sb, L3.kk_st, L3.kk_si, L3.kk_ss, L3.kk_sl, L3.kk_tb, L3.kk_tt, L3.kk_ti, L3.kk_ts, L3.kk_tl, L3.kk_lb, L3.kk_lt, L3.kk_li, L3.kk_ls, L3.kk_ll, L3.at_0, L3.at_1, L3.at_2, L3.at_3, L3.eqA_int, L3.eqA_str, L3.eqA_bl, L3.lt_int, L3.gt_int, L3.le_int, L3.ge_int, L3.lt_str, L3.gt_str, L3.le_str, L3.ge_str, L3.add_int, L3.add_str, L3.exd, L3.exd0, L3.exd1, L3.exd2, L3.exd3, L3.exd4, L3.min_int, L3.min_str, L3.len_str, L3.len_lst, L3.len_tup, W_l_alike]; exact rtE q
      | bool b => simp [wSeq, wIfS, wRet, wRetN, wNext, wDrop, wAsg, wAug, wBreak, wCont, wV, wC, wB, L3.wTru, L3.wNot, wAnd, wOr, wAndV, wOrV, wNotV, L3.wIf, wNeg, wOp, wCall, wQ, wML, wNil, wCons, wTup, wLst, wLstM, wIsi, wSl, wPart, wNoPart, wMinD, wJoin, wFrz, gN, sIx, sIs, sIsN, sI, sI0, truU, tyOk, tyU, isTruth, L3.isNon, itemsU, listU, ixU, qInt, qAbs, qStr, L3.max_int, start3, L3.kk_nb, L3.kk_nt, L3.kk_ni, L3.kk_ns, L3.kk_nl, L3.kk_bb, L3.kk_bt, L3.kk_bi, L3.kk_bs, L3.kk_bl, L3.kk_ib, L3.kk_it, L3.kk_ii, L3.kk_is, L3.kk_il, L3.kk_sb, L3.kk_st, L3.kk_si, L3.kk_ss, L3.kk_sl, L3.kk_tb, L3.kk_tt, L3.kk_ti, L3.kk_ts, L3.kk_tl, L3.kk_lb, L3.kk_lt, L3.kk_li, L3.kk_ls, L3.kk_ll, L3.at_0, L3.at_1, L3.at_2, L3.at_3, L3.eqA_int, L3.eqA_str, L3.eqA_bl, L3.lt_int, L3.gt_int, L3.le_int, L3.ge_int, L3.lt_str, L3.gt_str, L3.le_str, L3.ge_str, L3.add_int, L3.add_str, L3.exd, L3.exd0, L3.exd1, L3.exd2, L3.exd3, L3.exd4, L3.min_int, L3.min_str, L3.len_str, L3.len_lst, L3.len_tup, W_l_alike]; exact rtE q
      | int i =>
        simp [wSeq, wIfS, wRet, wRetN, wNext, wDrop, wAsg, wAug, wBreak, wCont, wV, wC, wB, L3.wTru, L3.wNot, wAnd, wOr, wAndV, wOrV, wNotV, L3.wIf, wNeg, wOp, wCall, wQ, wML, wNil, wCons, wTup, wLst, wLstM, wIsi, wSl, wPart, wNoPart, wMinD, wJoin, wFrz, gN, sIx, sIs, sIsN, sI, sI0, truU, tyOk, tyU, isTruth, L3.isNon, itemsU, listU, ixU, qInt, qAbs, qStr, L3.max_int, start3, L3.kk_nb, L3.kk_nt, L3.kk_ni, L3.kk_ns, L3.kk_nl, L3.kk_bb, L3.kk_bt, L3.kk_bi, L3.kk_bs, L3.kk_bl, L3.kk_ib, L3.kk_it, L3.kk_ii, L3.kk_is, L3.kk_il, L3.kk_sb, L3.kk_st, L3.kk_si, L3.kk_ss, L3.kk_sl, L3.kk_tb, L3.kk_tt, L3.kk_ti, L3.kk_ts, L3.kk_tl, L3.kk_lb, L3.kk_lt, L3.kk_li, L3.kk_ls, L3.kk_ll, L3.at_0, L3.at_1, L3.at_2, L3.at_3, L3.eqA_int, L3.eqA_str, L3.eqA_bl, L3.lt_int, L3.gt_int, L3.le_int, L3.ge_int, L3.lt_str, L3.gt_str, L3.le_str, L3.ge_str, L3.add_int, L3.add_str, L3.exd, L3.exd0, L3.exd1, L3.exd2, L3.exd3, L3.exd4, L3.min_int, L3.min_str, L3.len_str, L3.len_lst, L3.len_tup, W_l_alike]
        exact ⟨i, rfl, by simp; exact rtE q⟩
      | str i => simp [wSeq, wIfS, wRet, wRetN, wNext, wDrop, wAsg, wAug, wBreak, wCont, wV, wC, wB, L3.wTru, L3.wNot, wAnd, wOr, wAndV, wOrV, wNotV, L3.wIf, wNeg, wOp, wCall, wQ, wML, wNil, wCons, wTup, wLst, wLstM, wIsi, wSl, wPart, wNoPart, wMinD, wJoin, wFrz, gN, sIx, sIs, sIsN, sI, sI0, truU, tyOk, tyU, isTruth, L3.isNon, itemsU, listU, ixU, qInt, qAbs, qStr, L3.max_int, start3, L3.kk_nb, L3.kk_nt, L3.kk_ni, L3.kk_ns, L3.kk_nl, L3.kk_bb, L3.kk_bt, L3.kk_bi, L3.kk_bs, L3.kk_bl, L3.kk_ib, L3.kk_it, L3.kk_ii, L3.kk_is, L3.kk_il, L3.kk_sb, L3.kk_st, L3.kk_si, L3.kk_ss, L3.kk_sl, L3.kk_tb, L3.kk_tt, L3.kk_ti, L3.kk_ts, L3.kk_tl, L3.kk_lb, L3.kk_lt, L3.kk_li, L3.kk_ls, L3.kk_ll, L3.at_0, L3.at_1, L3.at_2, L3.at_3, L3.eqA_int, L3.eqA_str, L3.eqA_bl, L3.lt_int, L3.gt_int, L3.le_int, L3.ge_int, L3.lt_str, L3.gt_str, L3.le_str, L3.ge_str, L3.add_int, L3.add_str, L3.exd, L3.exd0, L3.exd1, L3.exd2, L3.exd3, L3.exd4, L3.min_int, L3.min_str, L3.len_str, L3.len_lst, L3.len_tup, W_l_alike]; exact rtE q
      | list l => unfold gd at g; exact g.elim
      | dict l => unfold gd at g; exact g.elim
      | tuple xs =>
        simp [wSeq, wIfS, wRet, wRetN, wNext, wDrop, wAsg, wAug, wBreak, wCont, wV, wC, wB, L3.wTru, L3.wNot, wAnd, wOr, wAndV, wOrV, wNotV, L3.wIf, wNeg, wOp, wCall, wQ, wML, wNil, wCons, wTup, wLst, wLstM, wIsi, wSl, wPart, wNoPart, wMinD, wJoin, wFrz, gN, sIx, sIs, sIsN, sI, sI0, truU, tyOk, tyU, isTruth, L3.isNon, itemsU, listU, ixU, qInt, qAbs, qStr, L3.max_int, start3, L3.kk_nb, L3.kk_nt, L3.kk_ni, L3.kk_ns, L3.kk_nl, L3.kk_bb, L3.kk_bt, L3.kk_bi, L3.kk_bs, L3.kk_bl, L3.kk_ib, L3.kk_it, L3.kk_ii, L3.kk_is, L3.kk_il, L3.kk_sb, L3.kk_st, L3.kk_si, L3.kk_ss, L3.kk_sl, L3.kk_tb, L3.kk_tt, L3.kk_ti, L3.kk_ts, L3.kk_tl, L3.kk_lb, L3.kk_lt, L3.kk_li, L3.kk_ls, L3.kk_ll, L3.at_0, L3.at_1, L3.at_2, L3.at_3, L3.eqA_int, L3.eqA_str, L3.eqA_bl, L3.lt_int, L3.gt_int, L3.le_int, L3.ge_int, L3.lt_str, L3.gt_str, L3.le_str, L3.ge_str, L3.add_int, L3.add_str, L3.exd, L3.exd0, L3.exd1, L3.exd2, L3.exd3, L3.exd4, L3.min_int, L3.min_str, L3.len_str, L3.len_lst, L3.len_tup, W_l_alike, wLc, jRng1]
        unfold gd at g
        refine ⟨by omega, lcGo_inv (fun _ acc μ' => acc = [] ∧ μ' = μ) ⟨rfl, rfl⟩ (fun _ _ _ _ => trivial) (fun j hj acc μ' N ⟨h1, h2⟩ hN => ?_) (fun acc μ' ⟨h1, h2⟩ => ?_)⟩
        · subst h1 h2
          have hj : j < xs.length := by simpa using hj
          have dn : PyData.depthAll xs + 1 ≤ n := dn
          have e := hs (by omega)
          subst e
          have hx : atI (xs.map U.d) (j : Int) = some (.d xs[j]) := by
            rw [L3.at_n (by rw [List.length_map]; exact hj), List.getElem_map]
          have dd := dep_at hj
          simp [wSeq, wIfS, wRet, wRetN, wNext, wDrop, wAsg, wAug, wBreak, wCont, wV, wC, wB, L3.wTru, L3.wNot, wAnd, wOr, wAndV, wOrV, wNotV, L3.wIf, wNeg, wOp, wCall, wQ, wML, wNil, wCons, wTup, wLst, wLstM, wIsi, wSl, wPart, wNoPart, wMinD, wJoin, wFrz, gN, sIx, sIs, sIsN, sI, sI0, truU, tyOk, tyU, isTruth, L3.isNon, itemsU, listU, ixU, qInt, qAbs, qStr, L3.max_int, start3, L3.kk_nb, L3.kk_nt, L3.kk_ni, L3.kk_ns, L3.kk_nl, L3.kk_bb, L3.kk_bt, L3.kk_bi, L3.kk_bs, L3.kk_bl, L3.kk_ib, L3.kk_it, L3.kk_ii, L3.kk_is, L3.kk_il, L3.kk_sb, L3.kk_st, L3.kk_si, L3.kk_ss, L3.kk_sl, L3.kk_tb, L3.kk_tt, L3.kk_ti, L3.kk_ts, L3.kk_tl, L3.kk_lb, L3.kk_lt, L3.kk_li, L3.kk_ls, L3.kk_ll, L3.at_0, L3.at_1, L3.at_2, L3.at_3, L3.eqA_int, L3.eqA_str, L3.eqA_bl, L3.lt_int, L3.gt_int, L3.le_int, L3.ge_int, L3.lt_str, L3.gt_str, L3.le_str, L3.ge_str, L3.add_int, L3.add_str, L3.exd, L3.exd0, L3.exd1, L3.exd2, L3.exd3, L3.exd4, L3.min_int, L3.min_str, L3.len_str, L3.len_lst, L3.len_tup, wipeR, hx]
          exact ⟨xs[j], rfl, gds_at hj g.2, by omega, by simp; exact hN _ _ ⟨rfl, rfl⟩⟩
        · subst h1 h2
          exact ⟨[], rfl, by simpa using rtE q⟩)
  intro n
  induction n with
  | zero => exact go 0 ⟨0, by omega, _, z_l_alike D, fun h => absurd rfl h⟩
  | succ n ih => exact go (n + 1) ⟨n + 2, by omega, _, ih, fun _ => rfl⟩
def sl (xs : List Str) : List PyData := xs.map .str
def il (xs : List Int) : List PyData := xs.map .int
def ab (ns : List Int) : List Int := ns.map fun x => if x < 0 then -x else x
theorem ab_take {ns : List Int} {j : Nat} (h : j < ns.length) : ab (ns.take (j + 1)) = ab (ns.take j) ++ [if ns[j] < 0 then -ns[j] else ns[j]] := by
  unfold ab
  rw [List.take_succ_eq_append_getElem h, List.map_append]
  rfl
theorem ab_nn {ns : List Int} : ∀ x ∈ ab ns, 0 ≤ x := fun x h => by
  obtain ⟨y, _, e⟩ := List.mem_map.mp h
  subst e
  split <;> omega
def S_hand : WF := fun us μ Q => ∃ ns : List Int, us = [.d (.list (il ns))] ∧ ns.length ≤ 63 ∧ ∀ p, μ p = none → Q (.r p) (put μ p .hand)
theorem hand_ok (D : Dn K mg "_law_hand" s_l_hand) (m1 : mg "int" = none) (m2 : mg "len" = none) (m3 : mg "abs" = none) : C8.Cal P w K mg base 1 "_law_hand" (sp3 K S_hand) [] :=
  cal_l_hand D (m_len := m2) (m_int := m1) (m_abs := m3) (len := fun us μ Q ⟨_, e, _⟩ => by rw [e]; rfl) (h := fun us μ Q ⟨ns, e, hn, q⟩ => by
    subst e
    have big : 1000 < sizeLine := by decide
    have ln : (il ns).length = ns.length := List.length_map _
    simp [wSeq, wIfS, wRet, wRetN, wNext, wDrop, wAsg, wAug, wBreak, wCont, wV, wC, wB, L3.wTru, L3.wNot, wAnd, wOr, wAndV, wOrV, wNotV, L3.wIf, wNeg, wOp, wCall, wQ, wML, wNil, wCons, wTup, wLst, wLstM, wIsi, wSl, wPart, wNoPart, wMinD, wJoin, wFrz, gN, sIx, sIs, sIsN, sI, sI0, truU, tyOk, tyU, isTruth, L3.isNon, itemsU, listU, ixU, qInt, qAbs, qStr, L3.max_int, start3, L3.kk_nb, L3.kk_nt, L3.kk_ni, L3.kk_ns, L3.kk_nl, L3.kk_bb, L3.kk_bt, L3.kk_bi, L3.kk_bs, L3.kk_bl, L3.kk_ib, L3.kk_it, L3.kk_ii, L3.kk_is, L3.kk_il, L3.kk_sb, L3.kk_st, L3.kk_si, L3.kk_ss, L3.kk_sl, L3.kk_tb, L3.kk_tt, L3.kk_ti, L3.kk_ts, L3.kk_tl, L3.kk_lb, L3.kk_lt, L3.kk_li, L3.kk_ls, L3.kk_ll, L3.at_0, L3.at_1, L3.at_2, L3.at_3, L3.eqA_int, L3.eqA_str, L3.eqA_bl, L3.lt_int, L3.gt_int, L3.le_int, L3.ge_int, L3.lt_str, L3.gt_str, L3.le_str, L3.ge_str, L3.add_int, L3.add_str, L3.exd, L3.exd0, L3.exd1, L3.exd2, L3.exd3, L3.exd4, L3.min_int, L3.min_str, L3.len_str, L3.len_lst, L3.len_tup, W_l_hand, wFor, jSeq, CMul, ln]
    intro p hp
    refine forGo_inv (fun j ρ μ' => ∃ (t : Int) (x : Option U), ρ = [some (.d (.list (il ns))), some (.d (.int t)), some (.r p), x] ∧ t < 2 ^ 63 ∧ -(2^63) < t ∧ μ' = put μ p (.lst ((il (ab (ns.take j))).map U.d))) ⟨_, _, rfl, by omega, by omega, rfl⟩ (fun _ _ _ _ => trivial) (fun j hj ρ μ' N ⟨t, x, h1, h2, h3, h4⟩ hN => ?_) (fun ρ μ' ⟨t, x, h1, h2, h3, h4⟩ => ?_)
    · subst h1 h4
      have hj : j < ns.length := by simpa [ln] using hj
      have hx : (List.map U.d (il ns))[j] = .d (.int ns[j]) := by simp [il]
      rw [hx]
      simp [wSeq, wIfS, wRet, wRetN, wNext, wDrop, wAsg, wAug, wBreak, wCont, wV, wC, wB, L3.wTru, L3.wNot, wAnd, wOr, wAndV, wOrV, wNotV, L3.wIf, wNeg, wOp, wCall, wQ, wML, wNil, wCons, wTup, wLst, wLstM, wIsi, wSl, wPart, wNoPart, wMinD, wJoin, wFrz, gN, sIx, sIs, sIsN, sI, sI0, truU, tyOk, tyU, isTruth, L3.isNon, itemsU, listU, ixU, qInt, qAbs, qStr, L3.max_int, start3, L3.kk_nb, L3.kk_nt, L3.kk_ni, L3.kk_ns, L3.kk_nl, L3.kk_bb, L3.kk_bt, L3.kk_bi, L3.kk_bs, L3.kk_bl, L3.kk_ib, L3.kk_it, L3.kk_ii, L3.kk_is, L3.kk_il, L3.kk_sb, L3.kk_st, L3.kk_si, L3.kk_ss, L3.kk_sl, L3.kk_tb, L3.kk_tt, L3.kk_ti, L3.kk_ts, L3.kk_tl, L3.kk_lb, L3.kk_lt, L3.kk_li, L3.kk_ls, L3.kk_ll, L3.at_0, L3.at_1, L3.at_2, L3.at_3, L3.eqA_int, L3.eqA_str, L3.eqA_bl, L3.lt_int, L3.gt_int, L3.le_int, L3.ge_int, L3.lt_str, L3.gt_str, L3.le_str, L3.ge_str, L3.add_int, L3.add_str, L3.exd, L3.exd0, L3.exd1, L3.exd2, L3.exd3, L3.exd4, L3.min_int, L3.min_str, L3.len_str, L3.len_lst, L3.len_tup, CMul]
      have l0 : (ab (ns.take j)).length = j := by
        unfold ab
        rw [List.length_map, List.length_take]
        omega
      have k1 : 0 ≤ (t * 2011 + ns[j]) % 2147483543 := Int.emod_nonneg _ (by decide)
      have k2 : (t * 2011 + ns[j]) % 2147483543 < 2147483543 := Int.emod_lt_of_pos _ (by decide)
      refine ⟨isL_r put_same, append_r put_same (by simp [il, l0]; omega) (hN _ _ ⟨_, _, rfl, by omega, by omega, ?_⟩)⟩
      rw [put_put, ab_take hj]
      simp [il]
    · subst h1 h4
      refine ⟨p, il (ab (ns.take (List.map U.d (il ns)).length)), rfl, put_same, ?_⟩
      have e : ns.take (List.map U.d (il ns)).length = ns := by
        rw [List.length_map, ln]
        exact List.take_length
      rw [del_put hp, e]
      simp [wSeq, wIfS, wRet, wRetN, wNext, wDrop, wAsg, wAug, wBreak, wCont, wV, wC, wB, L3.wTru, L3.wNot, wAnd, wOr, wAndV, wOrV, wNotV, L3.wIf, wNeg, wOp, wCall, wQ, wML, wNil, wCons, wTup, wLst, wLstM, wIsi, wSl, wPart, wNoPart, wMinD, wJoin, wFrz, gN, sIx, sIs, sIsN, sI, sI0, truU, tyOk, tyU, isTruth, L3.isNon, itemsU, listU, ixU, qInt, qAbs, qStr, L3.max_int, start3, L3.kk_nb, L3.kk_nt, L3.kk_ni, L3.kk_ns, L3.kk_nl, L3.kk_bb, L3.kk_bt, L3.kk_bi, L3.kk_bs, L3.kk_bl, L3.kk_ib, L3.kk_it, L3.kk_ii, L3.kk_is, L3.kk_il, L3.kk_sb, L3.kk_st, L3.kk_si, L3.kk_ss, L3.kk_sl, L3.kk_tb, L3.kk_tt, L3.kk_ti, L3.kk_ts, L3.kk_tl, L3.kk_lb, L3.kk_lt, L3.kk_li, L3.kk_ls, L3.kk_ll, L3.at_0, L3.at_1, L3.at_2, L3.at_3, L3.eqA_int, L3.eqA_str, L3.eqA_bl, L3.lt_int, L3.gt_int, L3.le_int, L3.ge_int, L3.lt_str, L3.gt_str, L3.le_str, L3.ge_str, L3.add_int, L3.add_str, L3.exd, L3.exd0, L3.exd1, L3.exd2, L3.exd3, L3.exd4, L3.min_int, L3.min_str, L3.len_str, L3.len_lst, L3.len_tup, frzR]
      refine ⟨by decide, fun r hr => rtH put_same (ns := ab ns) ?_ ab_nn (by omega) (by omega) (by omega) (rtE ?_)⟩
      · unfold ab
        rw [List.length_map]
        exact hn
      · rw [put_put]
        exact q r hr)
theorem fdiv_nat (a b : Nat) : (a : Int).fdiv (b : Int) = ((a / b : Nat) : Int) := by
  rw [Int.fdiv_eq_ediv_of_nonneg _ (by omega)]
  rfl
def bl (xs : List Bool) : List PyData := xs.map .bool
theorem bl_len {xs : List Bool} : (bl xs).length = xs.length := List.length_map _
theorem sl_len {xs : List Str} : (sl xs).length = xs.length := List.length_map _
theorem rng_get {n j : Nat} (h : j < ((List.range n).map fun i : Nat => U.d (.int (i : Int))).length) : ((List.range n).map fun i : Nat => U.d (.int (i : Int)))[j] = .d (.int (j : Int)) := by
  rw [List.getElem_map, List.getElem_range]
theorem rng_len {n : Nat} : ((List.range n).map fun i : Nat => U.d (.int (i : Int))).length = n := by rw [List.length_map, List.length_range]
theorem lc_bools {i : Nat} {we : L3.WX} {Al : Mu → Prop} {us : List U} {ρ : Rho} {μ : Mu} {P : List U → Mu → Prop} (hl : us.length < sizeLine) (al : Al μ)
    (step : ∀ (j : Nat) (hj : j < us.length) (N : XP), (∀ b : Bool, N (.d (.bool b)) μ) → we (ρ.set i (some us[j])) μ N)
    (fin : ∀ bs : List Bool, bs.length = us.length → P ((bl bs).map U.d) μ) : lcGo (gN i) wYes we Al us [] ρ μ P := by
  refine lcGo_inv (fun j acc μ' => ∃ bs, acc = (bl bs).map U.d ∧ bs.length = j ∧ μ' = μ) ⟨[], rfl, rfl, rfl⟩ (fun j acc μ' ⟨_, _, _, e⟩ => e ▸ al) (fun j hj acc μ' N ⟨bs, h1, h2, h3⟩ hN => ?_) (fun acc μ' ⟨bs, h1, h2, h3⟩ => ?_)
  · subst h1 h3
    simp only [gN, wYes, if_true]
    refine step j hj _ fun b => ⟨by rw [List.length_map, bl_len]; omega, hN _ _ ⟨bs ++ [b], by simp [bl], by simp [h2], rfl⟩⟩
  · subst h1 h3
    exact fin bs h2
theorem lc_map {i : Nat} {we : L3.WX} {Al : Mu → Prop} {us : List U} {ρ : Rho} {μ : Mu} {P : List U → Mu → Prop} (f : Nat → PyData) (hl : us.length < sizeLine) (al : Al μ)
    (step : ∀ (j : Nat) (hj : j < us.length) (N : XP), N (.d (f j)) μ → we (ρ.set i (some us[j])) μ N)
    (fin : P (((List.range us.length).map f).map U.d) μ) : lcGo (gN i) wYes we Al us [] ρ μ P := by
  refine lcGo_inv (fun j acc μ' => acc = ((List.range j).map f).map U.d ∧ μ' = μ) ⟨rfl, rfl⟩ (fun j acc μ' ⟨_, e⟩ => e ▸ al) (fun j hj acc μ' N ⟨h1, h3⟩ hN => ?_) (fun acc μ' ⟨h1, h3⟩ => ?_)
  · subst h1 h3
    simp only [gN, wYes, if_true]
    refine step j hj _ ⟨by simp; omega, hN _ _ ⟨?_, rfl⟩⟩
    rw [List.range_succ, List.map_append, List.map_append]
    rfl
  · subst h1 h3
    exact fin
def S_bits : WF := fun us μ Q => ∃ (h : Addr) (m : Nat), us = [.r h, .d (.int (m : Int))] ∧ μ h = some .hand ∧ m ≤ 1000 ∧ ∀ bs : List Bool, bs.length = m → Q (.d (.list (bl bs))) μ
theorem bits_ok (D : Dn K mg "_law_bits" s_l_bits) (D1 : Dn K mg "_law_take" s_l_take) (D2 : Dn K mg "_law_stirred" s_l_stirred) (m1 : mg "int" = none) (m2 : mg "len" = none) (m4 : mg "range" = none) : C8.Cal P w K mg base 3 "_law_bits" (sp3 K S_bits) [] :=
  cal_l_bits D (c_l_take := take_ok D1 D2 m1 m2) (h_l_take := Nat.le_refl _) (m_range := m4) (len := fun us μ Q ⟨_, _, e, _⟩ => by rw [e]; rfl) (h := fun us μ Q ⟨h, m, e, hh, hm, q⟩ => by
    subst e
    have big : 1000 < sizeLine := by decide
    simp [wSeq, wIfS, wRet, wRetN, wNext, wDrop, wAsg, wAug, wBreak, wCont, wV, wC, wB, L3.wTru, L3.wNot, wAnd, wOr, wAndV, wOrV, wNotV, L3.wIf, wNeg, wOp, wCall, wQ, wML, wNil, wCons, wTup, wLst, wLstM, wIsi, wSl, wPart, wNoPart, wMinD, wJoin, wFrz, gN, sIx, sIs, sIsN, sI, sI0, truU, tyOk, tyU, isTruth, L3.isNon, itemsU, listU, ixU, qInt, qAbs, qStr, L3.max_int, start3, L3.kk_nb, L3.kk_nt, L3.kk_ni, L3.kk_ns, L3.kk_nl, L3.kk_bb, L3.kk_bt, L3.kk_bi, L3.kk_bs, L3.kk_bl, L3.kk_ib, L3.kk_it, L3.kk_ii, L3.kk_is, L3.kk_il, L3.kk_sb, L3.kk_st, L3.kk_si, L3.kk_ss, L3.kk_sl, L3.kk_tb, L3.kk_tt, L3.kk_ti, L3.kk_ts, L3.kk_tl, L3.kk_lb, L3.kk_lt, L3.kk_li, L3.kk_ls, L3.kk_ll, L3.at_0, L3.at_1, L3.at_2, L3.at_3, L3.eqA_int, L3.eqA_str, L3.eqA_bl, L3.lt_int, L3.gt_int, L3.le_int, L3.ge_int, L3.lt_str, L3.gt_str, L3.le_str, L3.ge_str, L3.add_int, L3.add_str, L3.exd, L3.exd0, L3.exd1, L3.exd2, L3.exd3, L3.exd4, L3.min_int, L3.min_str, L3.len_str, L3.len_lst, L3.len_tup, W_l_bits, wLc, jRng1]
    refine ⟨h, 6, rfl, hh, by omega, by omega, fun z z1 z2 => ?_⟩
    have fin : ∀ bs : List Bool, bs.length = m → (∃ ds, (bl bs).map U.d = ds.map U.d ∧ (E3 μ Q).rt (.d (.list ds)) μ) := fun bs e => ⟨_, rfl, rtE (q bs e)⟩
    have ln := rng_len (n := m)
    simp [wSeq, wIfS, wRet, wRetN, wNext, wDrop, wAsg, wAug, wBreak, wCont, wV, wC, wB, L3.wTru, L3.wNot, wAnd, wOr, wAndV, wOrV, wNotV, L3.wIf, wNeg, wOp, wCall, wQ, wML, wNil, wCons, wTup, wLst, wLstM, wIsi, wSl, wPart, wNoPart, wMinD, wJoin, wFrz, gN, sIx, sIs, sIsN, sI, sI0, truU, tyOk, tyU, isTruth, L3.isNon, itemsU, listU, ixU, qInt, qAbs, qStr, L3.max_int, start3, L3.kk_nb, L3.kk_nt, L3.kk_ni, L3.kk_ns, L3.kk_nl, L3.kk_bb, L3.kk_bt, L3.kk_bi, L3.kk_bs, L3.kk_bl, L3.kk_ib, L3.kk_it, L3.kk_ii, L3.kk_is, L3.kk_il, L3.kk_sb, L3.kk_st, L3.kk_si, L3.kk_ss, L3.kk_sl, L3.kk_tb, L3.kk_tt, L3.kk_ti, L3.kk_ts, L3.kk_tl, L3.kk_lb, L3.kk_lt, L3.kk_li, L3.kk_ls, L3.kk_ll, L3.at_0, L3.at_1, L3.at_2, L3.at_3, L3.eqA_int, L3.eqA_str, L3.eqA_bl, L3.lt_int, L3.gt_int, L3.le_int, L3.ge_int, L3.lt_str, L3.gt_str, L3.le_str, L3.ge_str, L3.add_int, L3.add_str, L3.exd, L3.exd0, L3.exd1, L3.exd2, L3.exd3, L3.exd4, L3.min_int, L3.min_str, L3.len_str, L3.len_lst, L3.len_tup]
    by_cases c0 : z = 0
    · refine .inr ⟨c0, h, 2, rfl, hh, by omega, by omega, fun y y1 y2 => ?_⟩
      simp [wSeq, wIfS, wRet, wRetN, wNext, wDrop, wAsg, wAug, wBreak, wCont, wV, wC, wB, L3.wTru, L3.wNot, wAnd, wOr, wAndV, wOrV, wNotV, L3.wIf, wNeg, wOp, wCall, wQ, wML, wNil, wCons, wTup, wLst, wLstM, wIsi, wSl, wPart, wNoPart, wMinD, wJoin, wFrz, gN, sIx, sIs, sIsN, sI, sI0, truU, tyOk, tyU, isTruth, L3.isNon, itemsU, listU, ixU, qInt, qAbs, qStr, L3.max_int, start3, L3.kk_nb, L3.kk_nt, L3.kk_ni, L3.kk_ns, L3.kk_nl, L3.kk_bb, L3.kk_bt, L3.kk_bi, L3.kk_bs, L3.kk_bl, L3.kk_ib, L3.kk_it, L3.kk_ii, L3.kk_is, L3.kk_il, L3.kk_sb, L3.kk_st, L3.kk_si, L3.kk_ss, L3.kk_sl, L3.kk_tb, L3.kk_tt, L3.kk_ti, L3.kk_ts, L3.kk_tl, L3.kk_lb, L3.kk_lt, L3.kk_li, L3.kk_ls, L3.kk_ll, L3.at_0, L3.at_1, L3.at_2, L3.at_3, L3.eqA_int, L3.eqA_str, L3.eqA_bl, L3.lt_int, L3.gt_int, L3.le_int, L3.ge_int, L3.lt_str, L3.gt_str, L3.le_str, L3.ge_str, L3.add_int, L3.add_str, L3.exd, L3.exd0, L3.exd1, L3.exd2, L3.exd3, L3.exd4, L3.min_int, L3.min_str, L3.len_str, L3.len_lst, L3.len_tup]
      refine ⟨by omega, lc_bools (by rw [ln]; omega) trivial (fun j hj N hN => ?_) fun bs e => fin bs (by rw [e, ln])⟩
      simp [wSeq, wIfS, wRet, wRetN, wNext, wDrop, wAsg, wAug, wBreak, wCont, wV, wC, wB, L3.wTru, L3.wNot, wAnd, wOr, wAndV, wOrV, wNotV, L3.wIf, wNeg, wOp, wCall, wQ, wML, wNil, wCons, wTup, wLst, wLstM, wIsi, wSl, wPart, wNoPart, wMinD, wJoin, wFrz, gN, sIx, sIs, sIsN, sI, sI0, truU, tyOk, tyU, isTruth, L3.isNon, itemsU, listU, ixU, qInt, qAbs, qStr, L3.max_int, start3, L3.kk_nb, L3.kk_nt, L3.kk_ni, L3.kk_ns, L3.kk_nl, L3.kk_bb, L3.kk_bt, L3.kk_bi, L3.kk_bs, L3.kk_bl, L3.kk_ib, L3.kk_it, L3.kk_ii, L3.kk_is, L3.kk_il, L3.kk_sb, L3.kk_st, L3.kk_si, L3.kk_ss, L3.kk_sl, L3.kk_tb, L3.kk_tt, L3.kk_ti, L3.kk_ts, L3.kk_tl, L3.kk_lb, L3.kk_lt, L3.kk_li, L3.kk_ls, L3.kk_ll, L3.at_0, L3.at_1, L3.at_2, L3.at_3, L3.eqA_int, L3.eqA_str, L3.eqA_bl, L3.lt_int, L3.gt_int, L3.le_int, L3.ge_int, L3.lt_str, L3.gt_str, L3.le_str, L3.ge_str, L3.add_int, L3.add_str, L3.exd, L3.exd0, L3.exd1, L3.exd2, L3.exd3, L3.exd4, L3.min_int, L3.min_str, L3.len_str, L3.len_lst, L3.len_tup, wipeR]
      exact hN _
    · refine .inl ⟨c0, ?_⟩
      by_cases c1 : z = 1
      · refine .inr ⟨c1, by omega, lc_bools (by rw [ln]; omega) trivial (fun j hj N hN => ?_) fun bs e => fin bs (by rw [e, ln])⟩
        simp [wSeq, wIfS, wRet, wRetN, wNext, wDrop, wAsg, wAug, wBreak, wCont, wV, wC, wB, L3.wTru, L3.wNot, wAnd, wOr, wAndV, wOrV, wNotV, L3.wIf, wNeg, wOp, wCall, wQ, wML, wNil, wCons, wTup, wLst, wLstM, wIsi, wSl, wPart, wNoPart, wMinD, wJoin, wFrz, gN, sIx, sIs, sIsN, sI, sI0, truU, tyOk, tyU, isTruth, L3.isNon, itemsU, listU, ixU, qInt, qAbs, qStr, L3.max_int, start3, L3.kk_nb, L3.kk_nt, L3.kk_ni, L3.kk_ns, L3.kk_nl, L3.kk_bb, L3.kk_bt, L3.kk_bi, L3.kk_bs, L3.kk_bl, L3.kk_ib, L3.kk_it, L3.kk_ii, L3.kk_is, L3.kk_il, L3.kk_sb, L3.kk_st, L3.kk_si, L3.kk_ss, L3.kk_sl, L3.kk_tb, L3.kk_tt, L3.kk_ti, L3.kk_ts, L3.kk_tl, L3.kk_lb, L3.kk_lt, L3.kk_li, L3.kk_ls, L3.kk_ll, L3.at_0, L3.at_1, L3.at_2, L3.at_3, L3.eqA_int, L3.eqA_str, L3.eqA_bl, L3.lt_int, L3.gt_int, L3.le_int, L3.ge_int, L3.lt_str, L3.gt_str, L3.le_str, L3.ge_str, L3.add_int, L3.add_str, L3.exd, L3.exd0, L3.exd1, L3.exd2, L3.exd3, L3.exd4, L3.min_int, L3.min_str, L3.len_str, L3.len_lst, L3.len_tup, wipeR]
        exact ⟨h, 8, rfl, hh, by omega, by omega, fun y y1 y2 => by simp [wSeq, wIfS, wRet, wRetN, wNext, wDrop, wAsg, wAug, wBreak, wCont, wV, wC, wB, L3.wTru, L3.wNot, wAnd, wOr, wAndV, wOrV, wNotV, L3.wIf, wNeg, wOp, wCall, wQ, wML, wNil, wCons, wTup, wLst, wLstM, wIsi, wSl, wPart, wNoPart, wMinD, wJoin, wFrz, gN, sIx, sIs, sIsN, sI, sI0, truU, tyOk, tyU, isTruth, L3.isNon, itemsU, listU, ixU, qInt, qAbs, qStr, L3.max_int, start3, L3.kk_nb, L3.kk_nt, L3.kk_ni, L3.kk_ns, L3.kk_nl, L3.kk_bb, L3.kk_bt, L3.kk_bi, L3.kk_bs, L3.kk_bl, L3.kk_ib, L3.kk_it, L3.kk_ii, L3.kk_is, L3.kk_il, L3.kk_sb, L3.kk_st, L3.kk_si, L3.kk_ss, L3.kk_sl, L3.kk_tb, L3.kk_tt, L3.kk_ti, L3.kk_ts, L3.kk_tl, L3.kk_lb, L3.kk_lt, L3.kk_li, L3.kk_ls, L3.kk_ll, L3.at_0, L3.at_1, L3.at_2, L3.at_3, L3.eqA_int, L3.eqA_str, L3.eqA_bl, L3.lt_int, L3.gt_int, L3.le_int, L3.ge_int, L3.lt_str, L3.gt_str, L3.le_str, L3.ge_str, L3.add_int, L3.add_str, L3.exd, L3.exd0, L3.exd1, L3.exd2, L3.exd3, L3.exd4, L3.min_int, L3.min_str, L3.len_str, L3.len_lst, L3.len_tup]; exact hN _⟩
      · refine .inl ⟨c1, by omega, lc_bools (by rw [ln]; omega) trivial (fun j hj N hN => ?_) fun bs e => fin bs (by rw [e, ln])⟩
        simp [wSeq, wIfS, wRet, wRetN, wNext, wDrop, wAsg, wAug, wBreak, wCont, wV, wC, wB, L3.wTru, L3.wNot, wAnd, wOr, wAndV, wOrV, wNotV, L3.wIf, wNeg, wOp, wCall, wQ, wML, wNil, wCons, wTup, wLst, wLstM, wIsi, wSl, wPart, wNoPart, wMinD, wJoin, wFrz, gN, sIx, sIs, sIsN, sI, sI0, truU, tyOk, tyU, isTruth, L3.isNon, itemsU, listU, ixU, qInt, qAbs, qStr, L3.max_int, start3, L3.kk_nb, L3.kk_nt, L3.kk_ni, L3.kk_ns, L3.kk_nl, L3.kk_bb, L3.kk_bt, L3.kk_bi, L3.kk_bs, L3.kk_bl, L3.kk_ib, L3.kk_it, L3.kk_ii, L3.kk_is, L3.kk_il, L3.kk_sb, L3.kk_st, L3.kk_si, L3.kk_ss, L3.kk_sl, L3.kk_tb, L3.kk_tt, L3.kk_ti, L3.kk_ts, L3.kk_tl, L3.kk_lb, L3.kk_lt, L3.kk_li, L3.kk_ls, L3.kk_ll, L3.at_0, L3.at_1, L3.at_2, L3.at_3, L3.eqA_int, L3.eqA_str, L3.eqA_bl, L3.lt_int, L3.gt_int, L3.le_int, L3.ge_int, L3.lt_str, L3.gt_str, L3.le_str, L3.ge_str, L3.add_int, L3.add_str, L3.exd, L3.exd0, L3.exd1, L3.exd2, L3.exd3, L3.exd4, L3.min_int, L3.min_str, L3.len_str, L3.len_lst, L3.len_tup, wipeR]
        exact ⟨h, 2, rfl, hh, by omega, by omega, fun y y1 y2 => by simp [wSeq, wIfS, wRet, wRetN, wNext, wDrop, wAsg, wAug, wBreak, wCont, wV, wC, wB, L3.wTru, L3.wNot, wAnd, wOr, wAndV, wOrV, wNotV, L3.wIf, wNeg, wOp, wCall, wQ, wML, wNil, wCons, wTup, wLst, wLstM, wIsi, wSl, wPart, wNoPart, wMinD, wJoin, wFrz, gN, sIx, sIs, sIsN, sI, sI0, truU, tyOk, tyU, isTruth, L3.isNon, itemsU, listU, ixU, qInt, qAbs, qStr, L3.max_int, start3, L3.kk_nb, L3.kk_nt, L3.kk_ni, L3.kk_ns, L3.kk_nl, L3.kk_bb, L3.kk_bt, L3.kk_bi, L3.kk_bs, L3.kk_bl, L3.kk_ib, L3.kk_it, L3.kk_ii, L3.kk_is, L3.kk_il, L3.kk_sb, L3.kk_st, L3.kk_si, L3.kk_ss, L3.kk_sl, L3.kk_tb, L3.kk_tt, L3.kk_ti, L3.kk_ts, L3.kk_tl, L3.kk_lb, L3.kk_lt, L3.kk_li, L3.kk_ls, L3.kk_ll, L3.at_0, L3.at_1, L3.at_2, L3.at_3, L3.eqA_int, L3.eqA_str, L3.eqA_bl, L3.lt_int, L3.gt_int, L3.le_int, L3.ge_int, L3.lt_str, L3.gt_str, L3.le_str, L3.ge_str, L3.add_int, L3.add_str, L3.exd, L3.exd0, L3.exd1, L3.exd2, L3.exd3, L3.exd4, L3.min_int, L3.min_str, L3.len_str, L3.len_lst, L3.len_tup]; exact hN _⟩)
theorem cut_take {α : Type} {xs : List α} {k : Nat} (h : k ≤ xs.length) : cutL xs none (some (k : Int)) = xs.take k := by
  unfold cutL
  rw [HT.sIx_none, HT.sIx_nat, Nat.min_eq_left h, Nat.sub_zero]
  rfl
theorem cut_drop {α : Type} {xs : List α} {k : Nat} (h : k ≤ xs.length) : cutL xs (some (k : Int)) none = xs.drop k := by
  unfold cutL
  rw [HT.sIx_none, HT.sIx_nat, Nat.min_eq_left h, ← List.length_drop, List.take_length]
def S_form (n : Nat) : WF := fun us μ Q => ∃ (names : List Str) (row : List Bool), us = [.d (.list (sl names)), .d (.list (bl row))] ∧ names.length ≤ n ∧ row.length = 2 ^ names.length ∧ n ≤ 20 ∧ (∀ x ∈ names, PyData.strOk x = true) ∧ Q (.d (form names row).d) μ
theorem len_form {n : Nat} : ∀ us μ Q, S_form n us μ Q → us.length = 2 := fun us μ Q ⟨_, _, e, _⟩ => by rw [e]; rfl
theorem form_ok (D : Dn K mg "_law_form" s_l_form) (m2 : mg "len" = none) : ∀ n, C8.Cal P w K mg base (n + 1) "_law_form" (sp3 K (S_form n)) []
  | 0 => cal_l_form D (c_l_form := z_l_form D) (h_l_form := Nat.le_refl _) (m_len := m2) (len := len_form) (h := fun us μ Q ⟨names, row, e, h1, h2, h3, h4, q⟩ => by
    subst e
    have h1 := List.length_eq_zero_iff.mp (Nat.le_zero.mp h1)
    subst h1
    have h2 : row.length = 1 := h2
    match row, h2 with
    | [b], _ =>
      simp [wSeq, wIfS, wRet, wRetN, wNext, wDrop, wAsg, wAug, wBreak, wCont, wV, wC, wB, L3.wTru, L3.wNot, wAnd, wOr, wAndV, wOrV, wNotV, L3.wIf, wNeg, wOp, wCall, wQ, wML, wNil, wCons, wTup, wLst, wLstM, wIsi, wSl, wPart, wNoPart, wMinD, wJoin, wFrz, gN, sIx, sIs, sIsN, sI, sI0, truU, tyOk, tyU, isTruth, L3.isNon, itemsU, listU, ixU, qInt, qAbs, qStr, L3.max_int, start3, L3.kk_nb, L3.kk_nt, L3.kk_ni, L3.kk_ns, L3.kk_nl, L3.kk_bb, L3.kk_bt, L3.kk_bi, L3.kk_bs, L3.kk_bl, L3.kk_ib, L3.kk_it, L3.kk_ii, L3.kk_is, L3.kk_il, L3.kk_sb, L3.kk_st, L3.kk_si, L3.kk_ss, L3.kk_sl, L3.kk_tb, L3.kk_tt, L3.kk_ti, L3.kk_ts, L3.kk_tl, L3.kk_lb, L3.kk_lt, L3.kk_li, L3.kk_ls, L3.kk_ll, L3.at_0, L3.at_1, L3.at_2, L3.at_3, L3.eqA_int, L3.eqA_str, L3.eqA_bl, L3.lt_int, L3.gt_int, L3.le_int, L3.ge_int, L3.lt_str, L3.gt_str, L3.le_str, L3.ge_str, L3.add_int, L3.add_str, L3.exd, L3.exd0, L3.exd1, L3.exd2, L3.exd3, L3.exd4, L3.min_int, L3.min_str, L3.len_str, L3.len_lst, L3.len_tup, W_l_form, sl, bl]
      exact rtE q)
  | n + 1 => cal_l_form D (c_l_form := form_ok D m2 n) (h_l_form := Nat.le_refl _) (m_len := m2) (len := len_form) (h := fun us μ Q ⟨names, row, e, h1, h2, h3, h4, q⟩ => by
    subst e
    match names, h1 with
    | [], _ =>
      have h2 : row.length = 1 := h2
      match row, h2 with
      | [b], _ =>
        simp [wSeq, wIfS, wRet, wRetN, wNext, wDrop, wAsg, wAug, wBreak, wCont, wV, wC, wB, L3.wTru, L3.wNot, wAnd, wOr, wAndV, wOrV, wNotV, L3.wIf, wNeg, wOp, wCall, wQ, wML, wNil, wCons, wTup, wLst, wLstM, wIsi, wSl, wPart, wNoPart, wMinD, wJoin, wFrz, gN, sIx, sIs, sIsN, sI, sI0, truU, tyOk, tyU, isTruth, L3.isNon, itemsU, listU, ixU, qInt, qAbs, qStr, L3.max_int, start3, L3.kk_nb, L3.kk_nt, L3.kk_ni, L3.kk_ns, L3.kk_nl, L3.kk_bb, L3.kk_bt, L3.kk_bi, L3.kk_bs, L3.kk_bl, L3.kk_ib, L3.kk_it, L3.kk_ii, L3.kk_is, L3.kk_il, L3.kk_sb, L3.kk_st, L3.kk_si, L3.kk_ss, L3.kk_sl, L3.kk_tb, L3.kk_tt, L3.kk_ti, L3.kk_ts, L3.kk_tl, L3.kk_lb, L3.kk_lt, L3.kk_li, L3.kk_ls, L3.kk_ll, L3.at_0, L3.at_1, L3.at_2, L3.at_3, L3.eqA_int, L3.eqA_str, L3.eqA_bl, L3.lt_int, L3.gt_int, L3.le_int, L3.ge_int, L3.lt_str, L3.gt_str, L3.le_str, L3.ge_str, L3.add_int, L3.add_str, L3.exd, L3.exd0, L3.exd1, L3.exd2, L3.exd3, L3.exd4, L3.min_int, L3.min_str, L3.len_str, L3.len_lst, L3.len_tup, W_l_form, sl, bl]
        exact rtE q
    | x :: xs, h1 =>
      have h1 : xs.length ≤ n := by simpa using h1
      have hr : row.length = 2 ^ xs.length + 2 ^ xs.length := by rw [h2, List.length_cons, Nat.pow_succ]; omega
      have half : ((row.length : Nat) : Int).fdiv 2 = ((row.length / 2 : Nat) : Int) := fdiv_nat _ 2
      have hv : row.length / 2 = 2 ^ xs.length := by omega
      have ok : ∀ y ∈ xs, PyData.strOk y = true := fun y hy => h4 y (List.mem_cons_of_mem _ hy)
      have c1 : cutL (sl (x :: xs)) (some 1) none = sl xs := cut_drop (xs := sl (x :: xs)) (k := 1) (by simp [sl])
      have c2 : cutL (bl row) none (some ((row.length / 2 : Nat) : Int)) = bl (row.take (row.length / 2)) := by
        rw [cut_take (by rw [bl_len]; omega)]
        simp [bl]
      have c3 : cutL (bl row) (some ((row.length / 2 : Nat) : Int)) none = bl (row.drop (row.length / 2)) := by
        rw [cut_drop (by rw [bl_len]; omega)]
        simp [bl]
      have c4 : atI ((sl (x :: xs)).map U.d) 0 = some (.d (.str x)) := L3.at_0
      have c5 : ¬ ((sl (x :: xs)).length : Int) = 0 := by simp [sl]; omega
      generalize hL : row.length / 2 = L at *
      have c6 : (sl (x :: xs)).length ≠ 0 := by simp [sl]
      generalize hN : sl (x :: xs) = N at *
      simp [wSeq, wIfS, wRet, wRetN, wNext, wDrop, wAsg, wAug, wBreak, wCont, wV, wC, wB, L3.wTru, L3.wNot, wAnd, wOr, wAndV, wOrV, wNotV, L3.wIf, wNeg, wOp, wCall, wQ, wML, wNil, wCons, wTup, wLst, wLstM, wIsi, wSl, wPart, wNoPart, wMinD, wJoin, wFrz, gN, sIx, sIs, sIsN, sI, sI0, truU, tyOk, tyU, isTruth, L3.isNon, itemsU, listU, ixU, qInt, qAbs, qStr, L3.max_int, start3, L3.kk_nb, L3.kk_nt, L3.kk_ni, L3.kk_ns, L3.kk_nl, L3.kk_bb, L3.kk_bt, L3.kk_bi, L3.kk_bs, L3.kk_bl, L3.kk_ib, L3.kk_it, L3.kk_ii, L3.kk_is, L3.kk_il, L3.kk_sb, L3.kk_st, L3.kk_si, L3.kk_ss, L3.kk_sl, L3.kk_tb, L3.kk_tt, L3.kk_ti, L3.kk_ts, L3.kk_tl, L3.kk_lb, L3.kk_lt, L3.kk_li, L3.kk_ls, L3.kk_ll, L3.at_0, L3.at_1, L3.at_2, L3.at_3, L3.eqA_int, L3.eqA_str, L3.eqA_bl, L3.lt_int, L3.gt_int, L3.le_int, L3.ge_int, L3.lt_str, L3.gt_str, L3.le_str, L3.ge_str, L3.add_int, L3.add_str, L3.exd, L3.exd0, L3.exd1, L3.exd2, L3.exd3, L3.exd4, L3.min_int, L3.min_str, L3.len_str, L3.len_lst, L3.len_tup, W_l_form, bl_len, CDivN, half, c1, c2, c3, c4, c5, c6]
      have k1 := form_h (names := xs) (row := row.drop L)
      have k2 := form_h (names := xs) (row := row.take L)
      refine ⟨xs, _, rfl, h1, by rw [List.length_take]; omega, by omega, ok, xs, _, rfl, h1, by rw [List.length_drop]; omega, by omega, ok, ?_⟩
      refine eqA_T (form_nm ok) (form_nm ok) (by omega) (by omega) (fun e => .inr ⟨rfl, rtE ?_⟩) fun e => .inl ⟨rfl, ?_⟩
      · rw [show form (x :: xs) row = node x (form xs (row.drop (row.length / 2))) (form xs (row.take (row.length / 2))) from rfl, hL, node_eq e] at q
        exact q
      · rw [show form (x :: xs) row = node x (form xs (row.drop (row.length / 2))) (form xs (row.take (row.length / 2))) from rfl, hL, node_ne e] at q
        exact ⟨_, rfl, L3.sl0 (by simp), rtE q⟩)
def sets : List Str → List (List Str)
  | [] => [[]]
  | x :: xs => sets xs ++ (sets xs).map fun r => x :: r
theorem sets_len : ∀ {xs : List Str}, (sets xs).length = 2 ^ xs.length
  | [] => rfl
  | x :: xs => by
    show (sets xs ++ (sets xs).map _).length = 2 ^ (xs.length + 1)
    rw [List.length_append, List.length_map, sets_len, Nat.pow_succ]
    omega
theorem sets_row : ∀ {xs : List Str} (r : List Str), r ∈ sets xs → r.length ≤ xs.length
  | [], r, h => by
    have h : r = [] := by simpa [sets] using h
    subst h
    exact Nat.le_refl _
  | x :: xs, r, h => by
    rcases List.mem_append.mp h with h | h
    · exact Nat.le_succ_of_le (sets_row r h)
    · obtain ⟨t, h1, rfl⟩ := List.mem_map.mp h
      exact Nat.succ_le_succ (sets_row t h1)
def sd2 (l : List (List Str)) : List PyData := l.map fun r => .list (sl r)
theorem range_getD {α : Type} {d : α} {l : List α} : (List.range l.length).map (fun j => l.getD j d) = l := by
  refine List.ext_getElem (by simp) fun i h1 h2 => ?_
  simp [h2]
def S_sets : WF := fun us μ Q => ∃ names : List Str, us = [.d (.list (sl names))] ∧ names.length ≤ 6 ∧ Q (.d (.list (sd2 (sets names)))) μ
theorem sets_ok (D : Dn K mg "_law_settings" s_l_settings) (m1 : mg "reversed" = none) : C8.Cal P w K mg base 1 "_law_settings" (sp3 K S_sets) [] :=
  cal_l_settings D (m_reversed := m1) (len := fun us μ Q ⟨_, e, _⟩ => by rw [e]; rfl) (h := fun us μ Q ⟨names, e, hn, q⟩ => by
    subst e
    have big : 1000 < sizeLine := by decide
    simp [wSeq, wIfS, wRet, wRetN, wNext, wDrop, wAsg, wAug, wBreak, wCont, wV, wC, wB, L3.wTru, L3.wNot, wAnd, wOr, wAndV, wOrV, wNotV, L3.wIf, wNeg, wOp, wCall, wQ, wML, wNil, wCons, wTup, wLst, wLstM, wIsi, wSl, wPart, wNoPart, wMinD, wJoin, wFrz, gN, sIx, sIs, sIsN, sI, sI0, truU, tyOk, tyU, isTruth, L3.isNon, itemsU, listU, ixU, qInt, qAbs, qStr, L3.max_int, start3, L3.kk_nb, L3.kk_nt, L3.kk_ni, L3.kk_ns, L3.kk_nl, L3.kk_bb, L3.kk_bt, L3.kk_bi, L3.kk_bs, L3.kk_bl, L3.kk_ib, L3.kk_it, L3.kk_ii, L3.kk_is, L3.kk_il, L3.kk_sb, L3.kk_st, L3.kk_si, L3.kk_ss, L3.kk_sl, L3.kk_tb, L3.kk_tt, L3.kk_ti, L3.kk_ts, L3.kk_tl, L3.kk_lb, L3.kk_lt, L3.kk_li, L3.kk_ls, L3.kk_ll, L3.at_0, L3.at_1, L3.at_2, L3.at_3, L3.eqA_int, L3.eqA_str, L3.eqA_bl, L3.lt_int, L3.gt_int, L3.le_int, L3.ge_int, L3.lt_str, L3.gt_str, L3.le_str, L3.ge_str, L3.add_int, L3.add_str, L3.exd, L3.exd0, L3.exd1, L3.exd2, L3.exd3, L3.exd4, L3.min_int, L3.min_str, L3.len_str, L3.len_lst, L3.len_tup, W_l_settings, wFor, jRev]
    refine ⟨by decide, ?_⟩
    refine forGo_inv (fun j ρ μ' => ∃ x y : Option U, ρ = [some (.d (.list (sl names))), some (.d (.list (sd2 (sets (names.drop (names.length - j)))))), x, y] ∧ μ' = μ) ?_ (fun _ _ μ' _ => trivial) (fun j hj ρ μ' N h hN => ?_) (fun ρ μ' h => ?_)
    · exact ⟨none, none, by simp [sets, sd2]; rfl, rfl⟩
    · obtain ⟨x, y, h1, h2⟩ := h
      subst h1 h2
      have hj : j < names.length := by simpa [sl_len] using hj
      have hi : names.length - 1 - j < names.length := by omega
      have hx : ((sl names).map U.d).reverse[j] = .d (.str names[names.length - 1 - j]) := by simp [sl]
      have hd : names.drop (names.length - (j + 1)) = names[names.length - 1 - j] :: names.drop (names.length - j) := by
        rw [show names.length - (j + 1) = names.length - 1 - j by omega, List.drop_eq_getElem_cons hi]
        congr 2
        omega
      rw [hx]
      have hs : (sets (names.drop (names.length - j))).length ≤ 64 := by
        rw [sets_len, List.length_drop]
        exact Nat.le_trans (Nat.pow_le_pow_right (by decide) (show names.length - (names.length - j) ≤ 6 by omega)) (by decide)
      have hS : ∀ r ∈ sets (names.drop (names.length - j)), r.length ≤ 6 := fun r hr => by
        have := sets_row r hr
        rw [List.length_drop] at this
        omega
      have hd' : sets (names.drop (names.length - (j + 1))) = sets (names.drop (names.length - j)) ++ (sets (names.drop (names.length - j))).map fun r => names[names.length - 1 - j] :: r := by rw [hd]; rfl
      generalize sets (names.drop (names.length - j)) = S at *
      generalize names[names.length - 1 - j] = z at *
      have e2 : (sd2 S).length = S.length := List.length_map _
      simp [wSeq, wIfS, wRet, wRetN, wNext, wDrop, wAsg, wAug, wBreak, wCont, wV, wC, wB, L3.wTru, L3.wNot, wAnd, wOr, wAndV, wOrV, wNotV, L3.wIf, wNeg, wOp, wCall, wQ, wML, wNil, wCons, wTup, wLst, wLstM, wIsi, wSl, wPart, wNoPart, wMinD, wJoin, wFrz, gN, sIx, sIs, sIsN, sI, sI0, truU, tyOk, tyU, isTruth, L3.isNon, itemsU, listU, ixU, qInt, qAbs, qStr, L3.max_int, start3, L3.kk_nb, L3.kk_nt, L3.kk_ni, L3.kk_ns, L3.kk_nl, L3.kk_bb, L3.kk_bt, L3.kk_bi, L3.kk_bs, L3.kk_bl, L3.kk_ib, L3.kk_it, L3.kk_ii, L3.kk_is, L3.kk_il, L3.kk_sb, L3.kk_st, L3.kk_si, L3.kk_ss, L3.kk_sl, L3.kk_tb, L3.kk_tt, L3.kk_ti, L3.kk_ts, L3.kk_tl, L3.kk_lb, L3.kk_lt, L3.kk_li, L3.kk_ls, L3.kk_ll, L3.at_0, L3.at_1, L3.at_2, L3.at_3, L3.eqA_int, L3.eqA_str, L3.eqA_bl, L3.lt_int, L3.gt_int, L3.le_int, L3.ge_int, L3.lt_str, L3.gt_str, L3.le_str, L3.ge_str, L3.add_int, L3.add_str, L3.exd, L3.exd0, L3.exd1, L3.exd2, L3.exd3, L3.exd4, L3.min_int, L3.min_str, L3.len_str, L3.len_lst, L3.len_tup, wLc, jSeq]
      refine lc_map (fun j => (sd2 (S.map fun r => z :: r)).getD j .none) (by rw [List.length_map, e2]; omega) trivial (fun i hi' N' hN' => ?_) ?_
      · have hi' : i < S.length := by simpa [e2] using hi'
        have e3 : ((sd2 S).map U.d)[i] = .d (.list (sl S[i])) := by simp [sd2]
        have e4 : (sd2 (S.map fun r => z :: r)).getD i .none = .list (.str z :: sl S[i]) := by simp [sd2, hi', sl]
        rw [e3]
        rw [e4] at hN'
        simp [wSeq, wIfS, wRet, wRetN, wNext, wDrop, wAsg, wAug, wBreak, wCont, wV, wC, wB, L3.wTru, L3.wNot, wAnd, wOr, wAndV, wOrV, wNotV, L3.wIf, wNeg, wOp, wCall, wQ, wML, wNil, wCons, wTup, wLst, wLstM, wIsi, wSl, wPart, wNoPart, wMinD, wJoin, wFrz, gN, sIx, sIs, sIsN, sI, sI0, truU, tyOk, tyU, isTruth, L3.isNon, itemsU, listU, ixU, qInt, qAbs, qStr, L3.max_int, start3, L3.kk_nb, L3.kk_nt, L3.kk_ni, L3.kk_ns, L3.kk_nl, L3.kk_bb, L3.kk_bt, L3.kk_bi, L3.kk_bs, L3.kk_bl, L3.kk_ib, L3.kk_it, L3.kk_ii, L3.kk_is, L3.kk_il, L3.kk_sb, L3.kk_st, L3.kk_si, L3.kk_ss, L3.kk_sl, L3.kk_tb, L3.kk_tt, L3.kk_ti, L3.kk_ts, L3.kk_tl, L3.kk_lb, L3.kk_lt, L3.kk_li, L3.kk_ls, L3.kk_ll, L3.at_0, L3.at_1, L3.at_2, L3.at_3, L3.eqA_int, L3.eqA_str, L3.eqA_bl, L3.lt_int, L3.gt_int, L3.le_int, L3.ge_int, L3.lt_str, L3.gt_str, L3.le_str, L3.ge_str, L3.add_int, L3.add_str, L3.exd, L3.exd0, L3.exd1, L3.exd2, L3.exd3, L3.exd4, L3.min_int, L3.min_str, L3.len_str, L3.len_lst, L3.len_tup, wipeR]
        refine ⟨by decide, add_lst ?_ hN'⟩
        have := hS S[i] (List.getElem_mem hi')
        rw [sl_len]
        simp
        omega
      · rw [List.length_map, e2, show S.length = (sd2 (S.map fun r => z :: r)).length by simp [sd2], range_getD]
        refine ⟨_, rfl, add_lst (by rw [e2]; simp [sd2]; omega) (hN _ _ ⟨some (.d (.str z)), y, ?_, rfl⟩)⟩
        rw [hd']
        simp [sd2]
    · obtain ⟨x, y, h1, h2⟩ := h
      subst h1 h2
      simp [wSeq, wIfS, wRet, wRetN, wNext, wDrop, wAsg, wAug, wBreak, wCont, wV, wC, wB, L3.wTru, L3.wNot, wAnd, wOr, wAndV, wOrV, wNotV, L3.wIf, wNeg, wOp, wCall, wQ, wML, wNil, wCons, wTup, wLst, wLstM, wIsi, wSl, wPart, wNoPart, wMinD, wJoin, wFrz, gN, sIx, sIs, sIsN, sI, sI0, truU, tyOk, tyU, isTruth, L3.isNon, itemsU, listU, ixU, qInt, qAbs, qStr, L3.max_int, start3, L3.kk_nb, L3.kk_nt, L3.kk_ni, L3.kk_ns, L3.kk_nl, L3.kk_bb, L3.kk_bt, L3.kk_bi, L3.kk_bs, L3.kk_bl, L3.kk_ib, L3.kk_it, L3.kk_ii, L3.kk_is, L3.kk_il, L3.kk_sb, L3.kk_st, L3.kk_si, L3.kk_ss, L3.kk_sl, L3.kk_tb, L3.kk_tt, L3.kk_ti, L3.kk_ts, L3.kk_tl, L3.kk_lb, L3.kk_lt, L3.kk_li, L3.kk_ls, L3.kk_ll, L3.at_0, L3.at_1, L3.at_2, L3.at_3, L3.eqA_int, L3.eqA_str, L3.eqA_bl, L3.lt_int, L3.gt_int, L3.le_int, L3.ge_int, L3.lt_str, L3.gt_str, L3.le_str, L3.ge_str, L3.add_int, L3.add_str, L3.exd, L3.exd0, L3.exd1, L3.exd2, L3.exd3, L3.exd4, L3.min_int, L3.min_str, L3.len_str, L3.len_lst, L3.len_tup, sl_len, Nat.sub_self, List.drop_zero]
      exact rtE q)
theorem sl_get {xs : List Str} {j : Nat} (h : j < xs.length) : atI ((sl xs).map U.d) (j : Int) = some (.d (.str xs[j])) := by
  rw [L3.at_n (by rw [List.length_map, sl_len]; exact h)]
  simp [sl]
theorem bl_get {xs : List Bool} {j : Nat} (h : j < xs.length) : atI ((bl xs).map U.d) (j : Int) = some (.d (.bool (lk xs j))) := by
  rw [L3.at_n (by rw [List.length_map, bl_len]; exact h)]
  simp [bl, lk, h]
theorem gd_T : ∀ t : T, gd t.d
  | .lit b => by unfold T.d gd; trivial
  | .nd s a b => by
    have h1 := gd_T a
    have h2 := gd_T b
    unfold T.d gd
    refine ⟨by simp, ?_⟩
    unfold gds gds gds gds
    exact ⟨by unfold gd; trivial, h1, h2, trivial⟩
end
end K04

namespace K04
open PySem PySem.Spec PyProof.Rows L2 L3 Cn
section
variable {P : Program} {w : World} {K : Fg} {mg : Str → Option Value} {base : Heap}
structure Nm (k : Nat) (z : Str) : Prop where
  ex : ∃ (c : Nat) (mid : List Nat) (e : Nat), z.cps.toList = c :: (mid ++ [e]) ∧ (∀ x ∈ mid, x < 200) ∧ ((c = 109 ∧ e = 49 + k) ∨ (c = 101 ∧ e = 49 + k) ∨ (65 ≤ c ∧ c ≤ 90 ∧ e = 48 + k))
theorem Nm.inj {j k : Nat} {z : Str} (h : Nm j z) (h' : Nm k z) : j = k := by
  obtain ⟨c, mid, e, h1, _, h3⟩ := h.ex
  obtain ⟨c', mid', e', h1', _, h3'⟩ := h'.ex
  rw [h1] at h1'
  have h4 := List.cons.inj h1'
  have h5 := List.append_inj' h4.2 rfl
  have h6 : e = e' := by simpa using h5.2
  have h7 := h4.1
  omega
theorem Nm.ok {k : Nat} {z : Str} (h : Nm k z) (hk : k ≤ 5) : PyData.strOk z = true := by
  obtain ⟨c, mid, e, h1, h2, h3⟩ := h.ex
  unfold PyData.strOk
  rw [← Array.all_toList, List.all_eq_true, h1]
  intro x hx
  refine decide_eq_true ?_
  rcases List.mem_cons.mp hx with rfl | hx
  · omega
  · rcases List.mem_append.mp hx with hx | hx
    · have := h2 x hx
      omega
    · have : x = e := by simpa using hx
      omega
theorem Nm.q9 {k : Nat} {z : Str} (h : Nm k z) (hk : k ≤ 5) : z ≠ Str.ofString "Q9" := fun e => by
  obtain ⟨c, mid, e', h1, h2, h3⟩ := h.ex
  rw [e] at h1
  have h1 : [81, 57] = c :: (mid ++ [e']) := h1
  have h4 := List.cons.inj h1
  have h5 : ([] : List Nat) ++ [57] = mid ++ [e'] := h4.2
  have h6 := List.append_inj' h5 rfl
  have h7 : 57 = e' := by simpa using h6.2
  have h8 := h4.1
  omega
theorem dig : ∀ k : Nat, k < 6 → (Str.ofString (toString ((k : Int) + 1))).cps.toList = [49 + k] := by decide +kernel
theorem dig0 : ∀ k : Nat, k < 6 → (Str.ofString (toString (k : Int))).cps.toList = [48 + k] := by decide +kernel
theorem digl : ∀ k : Nat, k < 6 → ((k : Int) + 1).natAbs.log2 < 1920 ∧ k.log2 < 1920 ∧ (Str.ofString (toString ((k : Int) + 1))).length = 1 ∧ (Str.ofString (toString (k : Int))).length = 1 := by decide +kernel
theorem low : ∀ n : Nat, n < 26 → atI (Str.ofString "abcdefghijklmnopqrstuvwxyz").cps.toList (n : Int) = some (97 + n) := by decide +kernel
theorem upp : ∀ n : Nat, n < 26 → atI (Str.ofString "ABCDEFGHIJKLMNOPQRSTUVWXYZ").cps.toList (n : Int) = some (65 + n) := by decide +kernel
theorem app_cps (a b : Str) : (a ++ b).cps.toList = a.cps.toList ++ b.cps.toList := by
  show (a.cps ++ b.cps).toList = _
  exact Array.toList_append
theorem str_len (a : Str) : a.length = a.cps.toList.length := Array.length_toList.symm
def one (c : Nat) : Str := ⟨#[c]⟩
theorem joinL_ones : ∀ cs : List Nat, TL.joinL [] (cs.map fun c => [c]) = cs
  | [] => rfl
  | [c] => rfl
  | c :: c' :: cs => congrArg (c :: ·) (joinL_ones (c' :: cs))
theorem join_ones (cs : List Nat) : (Txt.join (Str.ofString "") (cs.map one)).cps.toList = cs := by
  have h := SX.join_S [] (cs.map fun c => [c])
  rw [joinL_ones, List.map_map] at h
  exact congrArg (fun x : Str => x.cps.toList) h
theorem srt_of {ys : List Str} (so : sortedS ys = true) (nd : ys.Nodup) : Srt ys := by
  have go : ∀ (r : List Str) (p : Str), risingS p r = true → (p :: r).Nodup → (p :: r).Pairwise fun a b => L3M.ltS a b = true := by
    intro r
    induction r with
    | nil => intro p _ _; exact List.pairwise_singleton _ _
    | cons x r ih =>
      intro p h n
      have h : (!ltCps x.cps.toList p.cps.toList && risingS x r) = true := h
      rw [Bool.and_eq_true] at h
      have n' := List.nodup_cons.mp n
      have t := ih x h.2 n'.2
      have px : L3M.ltS p x = true := by
        have h1 : ltCps x.cps.toList p.cps.toList = false := by simpa using h.1
        rw [ltCps_eq] at h1
        rcases L3M.ltS_le (a := p) (b := x) h1 with k | k
        · exact k
        · exact absurd (by rw [k]; exact List.mem_cons_self ..) n'.1
      refine List.pairwise_cons.mpr ⟨fun y hy => ?_, t⟩
      rcases List.mem_cons.mp hy with rfl | hy
      · exact px
      · exact L3M.ltS_trans px ((List.pairwise_cons.mp t).1 y hy)
  cases ys with
  | nil => exact List.Pairwise.nil
  | cons p r => exact go r p so nd
theorem nf_nodup {zs : List Str} (h : ∀ i x, zs[i]? = some x → Nm i x) : zs.Nodup := by
  refine List.pairwise_iff_getElem.mpr fun i j hi hj hij e => ?_
  have h1 := h i _ (List.getElem?_eq_getElem hi)
  have h2 := h j _ (List.getElem?_eq_getElem hj)
  rw [← e] at h2
  have := h1.inj h2
  omega
def S_nm : WF := fun us μ Q => ∃ (h : Addr) (m : Nat), us = [.r h, .d (.int (m : Int))] ∧ μ h = some .hand ∧ m ≤ 5 ∧ ∀ ys : List Str, ys.length = m → Srt ys → (∀ y ∈ ys, PyData.strOk y = true) → Str.ofString "Q9" ∉ ys → Q (.d (.list (sl ys))) μ
theorem names_ok (D : Dn K mg "_law_switch_names" s_l_switch_names) (D1 : Dn K mg "_law_take" s_l_take) (D2 : Dn K mg "_law_stirred" s_l_stirred) (m1 : mg "int" = none) (m2 : mg "len" = none) (m4 : mg "range" = none) (m5 : mg "str" = none) (m6 : mg "sorted" = none) : C8.Cal P w K mg base 3 "_law_switch_names" (sp3 K S_nm) [] :=
  cal_l_switch_names D (c_l_take := take_ok D1 D2 m1 m2) (h_l_take := Nat.le_refl _) (m_range := m4) (m_str := m5) (m_sorted := m6) (len := fun us μ Q ⟨_, _, e, _⟩ => by rw [e]; rfl) (h := fun us μ Q ⟨h, m, e, hh, hm, q⟩ => by
    subst e
    have big : 1000 < sizeLine := by decide
    simp [wSeq, wIfS, wRet, wRetN, wNext, wDrop, wAsg, wAug, wBreak, wCont, wV, wC, wB, L3.wTru, L3.wNot, wAnd, wOr, wAndV, wOrV, wNotV, L3.wIf, wNeg, wOp, wCall, wQ, wML, wNil, wCons, wTup, wLst, wLstM, wIsi, wSl, wPart, wNoPart, wMinD, wJoin, wFrz, gN, sIx, sIs, sIsN, sI, sI0, truU, tyOk, tyU, isTruth, L3.isNon, itemsU, listU, ixU, qInt, qAbs, qStr, L3.max_int, start3, L3.kk_nb, L3.kk_nt, L3.kk_ni, L3.kk_ns, L3.kk_nl, L3.kk_bb, L3.kk_bt, L3.kk_bi, L3.kk_bs, L3.kk_bl, L3.kk_ib, L3.kk_it, L3.kk_ii, L3.kk_is, L3.kk_il, L3.kk_sb, L3.kk_st, L3.kk_si, L3.kk_ss, L3.kk_sl, L3.kk_tb, L3.kk_tt, L3.kk_ti, L3.kk_ts, L3.kk_tl, L3.kk_lb, L3.kk_lt, L3.kk_li, L3.kk_ls, L3.kk_ll, L3.at_0, L3.at_1, L3.at_2, L3.at_3, L3.eqA_int, L3.eqA_str, L3.eqA_bl, L3.lt_int, L3.gt_int, L3.le_int, L3.ge_int, L3.lt_str, L3.gt_str, L3.le_str, L3.ge_str, L3.add_int, L3.add_str, L3.exd, L3.exd0, L3.exd1, L3.exd2, L3.exd3, L3.exd4, L3.min_int, L3.min_str, L3.len_str, L3.len_lst, L3.len_tup, W_l_switch_names, wFor, jRng1]
    refine fun p hp => ⟨by omega, ?_⟩
    have ph : h ≠ p := fun e => by rw [e, hp] at hh; cases hh
    refine forGo_inv (fun j ρ μ' => ∃ (x y z u : Option U) (zs : List Str), ρ = [some (.r h), some (.d (.int (m : Int))), some (.r p), x, y, z, u] ∧ μ' = put μ p (.lst ((sl zs).map U.d)) ∧ zs.length = j ∧ ∀ i x, zs[i]? = some x → Nm i x) ?_ (fun _ _ μ' _ => trivial) (fun j hj ρ μ' N h' hN => ?_) (fun ρ μ' h' => ?_)
    · exact ⟨none, none, none, none, [], rfl, rfl, rfl, fun i x h => by simp at h⟩
    · obtain ⟨x, y, z, u, zs, h1, h2, h3, h4⟩ := h'
      subst h1 h2
      have hj : j < m := by simpa using hj
      rw [rng_get (n := m) (by rw [rng_len]; exact hj)]
      have nx : ∀ (t : Str) (y z u : Option U), Nm j t → mAppend (.r p) [.d (.str t)] (put μ p (.lst ((sl zs).map U.d))) fun _ μ1 => N [some (.r h), some (.d (.int (m : Int))), some (.r p), some (.d (.int (j : Int))), y, z, u] μ1 := fun t y z u ht => by
        refine append_r put_same (by rw [List.length_map, sl_len]; omega) ?_
        rw [put_put]
        refine hN _ _ ⟨_, _, _, _, zs ++ [t], rfl, by simp [sl], by simp [h3], fun i x hx => ?_⟩
        by_cases hi : i < zs.length
        · rw [List.getElem?_append_left hi] at hx
          exact h4 i x hx
        · rw [List.getElem?_append_right (by omega)] at hx
          have hx : [t][i - zs.length]? = some x := hx
          have e : i - zs.length = 0 := by
            have := (List.getElem?_eq_some_iff.mp hx).1
            simp at this
            omega
          rw [e] at hx
          cases hx
          have : i = j := by omega
          subst this
          exact ht
      obtain ⟨l1, l2, l3, l4⟩ := digl j (by omega)
      have d1 := dig j (by omega)
      have d2 := dig0 j (by omega)
      have hh' : put μ p (.lst ((sl zs).map U.d)) h = some .hand := by rw [put_ne ph]; exact hh
      simp [wSeq, wIfS, wRet, wRetN, wNext, wDrop, wAsg, wAug, wBreak, wCont, wV, wC, wB, L3.wTru, L3.wNot, wAnd, wOr, wAndV, wOrV, wNotV, L3.wIf, wNeg, wOp, wCall, wQ, wML, wNil, wCons, wTup, wLst, wLstM, wIsi, wSl, wPart, wNoPart, wMinD, wJoin, wFrz, gN, sIx, sIs, sIsN, sI, sI0, truU, tyOk, tyU, isTruth, L3.isNon, itemsU, listU, ixU, qInt, qAbs, qStr, L3.max_int, start3, L3.kk_nb, L3.kk_nt, L3.kk_ni, L3.kk_ns, L3.kk_nl, L3.kk_bb, L3.kk_bt, L3.kk_bi, L3.kk_bs, L3.kk_bl, L3.kk_ib, L3.kk_it, L3.kk_ii, L3.kk_is, L3.kk_il, L3.kk_sb, L3.kk_st, L3.kk_si, L3.kk_ss, L3.kk_sl, L3.kk_tb, L3.kk_tt, L3.kk_ti, L3.kk_ts, L3.kk_tl, L3.kk_lb, L3.kk_lt, L3.kk_li, L3.kk_ls, L3.kk_ll, L3.at_0, L3.at_1, L3.at_2, L3.at_3, L3.eqA_int, L3.eqA_str, L3.eqA_bl, L3.lt_int, L3.gt_int, L3.le_int, L3.ge_int, L3.lt_str, L3.gt_str, L3.le_str, L3.ge_str, L3.add_int, L3.add_str, L3.exd, L3.exd0, L3.exd1, L3.exd2, L3.exd3, L3.exd4, L3.min_int, L3.min_str, L3.len_str, L3.len_lst, L3.len_tup, wLc, jRng1, qStr]
      refine ⟨h, 4, rfl, hh', by omega, by omega, fun t t1 t2 => ?_⟩
      simp [wSeq, wIfS, wRet, wRetN, wNext, wDrop, wAsg, wAug, wBreak, wCont, wV, wC, wB, L3.wTru, L3.wNot, wAnd, wOr, wAndV, wOrV, wNotV, L3.wIf, wNeg, wOp, wCall, wQ, wML, wNil, wCons, wTup, wLst, wLstM, wIsi, wSl, wPart, wNoPart, wMinD, wJoin, wFrz, gN, sIx, sIs, sIsN, sI, sI0, truU, tyOk, tyU, isTruth, L3.isNon, itemsU, listU, ixU, qInt, qAbs, qStr, L3.max_int, start3, L3.kk_nb, L3.kk_nt, L3.kk_ni, L3.kk_ns, L3.kk_nl, L3.kk_bb, L3.kk_bt, L3.kk_bi, L3.kk_bs, L3.kk_bl, L3.kk_ib, L3.kk_it, L3.kk_ii, L3.kk_is, L3.kk_il, L3.kk_sb, L3.kk_st, L3.kk_si, L3.kk_ss, L3.kk_sl, L3.kk_tb, L3.kk_tt, L3.kk_ti, L3.kk_ts, L3.kk_tl, L3.kk_lb, L3.kk_lt, L3.kk_li, L3.kk_ls, L3.kk_ll, L3.at_0, L3.at_1, L3.at_2, L3.at_3, L3.eqA_int, L3.eqA_str, L3.eqA_bl, L3.lt_int, L3.gt_int, L3.le_int, L3.ge_int, L3.lt_str, L3.gt_str, L3.le_str, L3.ge_str, L3.add_int, L3.add_str, L3.exd, L3.exd0, L3.exd1, L3.exd2, L3.exd3, L3.exd4, L3.min_int, L3.min_str, L3.len_str, L3.len_lst, L3.len_tup]
      by_cases c0 : t = 0
      · refine .inr ⟨c0, isL_r put_same, l1, ?_, nx _ _ _ _ ⟨109, [], 49 + j, ?_, fun x hx => (nomatch hx), by omega⟩⟩
        · show (Str.ofString "m").length + (Str.ofString (toString ((j : Int) + 1))).length ≤ sizeLine
          rw [l3]
          decide
        · rw [app_cps]
          show [109] ++ (Str.ofString (toString ((j : Int) + 1))).cps.toList = _
          rw [d1]
          rfl
      · refine .inl ⟨c0, ?_⟩
        by_cases c1 : t = 1
        · refine .inr ⟨c1, isL_r put_same, l1, ?_, nx _ _ _ _ ⟨101, [], 49 + j, ?_, fun x hx => (nomatch hx), by omega⟩⟩
          · show (Str.ofString "e").length + (Str.ofString (toString ((j : Int) + 1))).length ≤ sizeLine
            rw [l3]
            decide
          · rw [app_cps]
            show [101] ++ (Str.ofString (toString ((j : Int) + 1))).cps.toList = _
            rw [d1]
            rfl
        · refine .inl ⟨c1, h, 7, rfl, hh', by omega, by omega, fun n n1 n2 => ⟨n, rfl, by omega, by omega, ?_⟩⟩
          obtain ⟨n, rfl⟩ := Int.eq_ofNat_of_zero_le n1
          refine lcGo_inv (fun i acc μ' => ∃ cs : List Nat, acc = (sl (cs.map one)).map U.d ∧ cs.length = i ∧ (∀ x ∈ cs, x < 200) ∧ μ' = put μ p (.lst ((sl zs).map U.d))) ⟨[], rfl, rfl, fun x hx => (nomatch hx), rfl⟩ (fun _ _ _ _ => trivial) (fun i hi acc μ' N' h' hN' => ?_) (fun acc μ' h' => ?_)
          · obtain ⟨cs, k1, k2, k3, k4⟩ := h'
            subst k1 k4
            have hi : i < n := by simpa using hi
            simp [wSeq, wIfS, wRet, wRetN, wNext, wDrop, wAsg, wAug, wBreak, wCont, wV, wC, wB, L3.wTru, L3.wNot, wAnd, wOr, wAndV, wOrV, wNotV, L3.wIf, wNeg, wOp, wCall, wQ, wML, wNil, wCons, wTup, wLst, wLstM, wIsi, wSl, wPart, wNoPart, wMinD, wJoin, wFrz, gN, sIx, sIs, sIsN, sI, sI0, truU, tyOk, tyU, isTruth, L3.isNon, itemsU, listU, ixU, qInt, qAbs, qStr, L3.max_int, start3, L3.kk_nb, L3.kk_nt, L3.kk_ni, L3.kk_ns, L3.kk_nl, L3.kk_bb, L3.kk_bt, L3.kk_bi, L3.kk_bs, L3.kk_bl, L3.kk_ib, L3.kk_it, L3.kk_ii, L3.kk_is, L3.kk_il, L3.kk_sb, L3.kk_st, L3.kk_si, L3.kk_ss, L3.kk_sl, L3.kk_tb, L3.kk_tt, L3.kk_ti, L3.kk_ts, L3.kk_tl, L3.kk_lb, L3.kk_lt, L3.kk_li, L3.kk_ls, L3.kk_ll, L3.at_0, L3.at_1, L3.at_2, L3.at_3, L3.eqA_int, L3.eqA_str, L3.eqA_bl, L3.lt_int, L3.gt_int, L3.le_int, L3.ge_int, L3.lt_str, L3.gt_str, L3.le_str, L3.ge_str, L3.add_int, L3.add_str, L3.exd, L3.exd0, L3.exd1, L3.exd2, L3.exd3, L3.exd4, L3.min_int, L3.min_str, L3.len_str, L3.len_lst, L3.len_tup, wipeR, wYes]
            refine ⟨h, 26, rfl, hh', by omega, by omega, fun v v1 v2 => ?_⟩
            obtain ⟨v, rfl⟩ := Int.eq_ofNat_of_zero_le v1
            have lo := low v (by omega)
            refine ⟨v, rfl, _, ⟨by decide, _, lo, rfl⟩, by rw [sl_len, List.length_map]; omega, hN' _ _ ⟨cs ++ [97 + v], by simp [sl, one], by simp [k2], fun x hx => ?_, rfl⟩⟩
            rcases List.mem_append.mp hx with hx | hx
            · exact k3 x hx
            · have : x = 97 + v := by simpa using hx
              omega
          · obtain ⟨cs, k1, k2, k3, k4⟩ := h'
            subst k1 k4
            rw [show (List.map (fun i : Nat => U.d (PyData.int (i : Int))) (List.range ((n : Int)).toNat)).length = n from rng_len] at k2
            have jl := join_ones cs
            have jn : (Txt.join (Str.ofString "") (cs.map one)).length = cs.length := by rw [str_len, jl]
            refine ⟨_, rfl, isL_r put_same, h, 26, rfl, hh', by omega, by omega, fun v v1 v2 => ?_⟩
            obtain ⟨v, rfl⟩ := Int.eq_ofNat_of_zero_le v1
            have up := upp v (by omega)
            refine ⟨v, rfl, _, ⟨by decide, _, up, rfl⟩, cs.map one, by simp [sl], ?_, ?_⟩
            · have e1 : ((cs.map one).map (·.length)).sum = cs.length := by
                clear k3 jl jn k2
                induction cs with
                | nil => rfl
                | cons c cs ih => 
                  simp only [List.map_cons, List.sum_cons, List.length_cons, ih]
                  show 1 + _ = _
                  omega
              have e2 : (Str.ofString "").length = 0 := rfl
              rw [e1, e2]
              omega
            · simp [wSeq, wIfS, wRet, wRetN, wNext, wDrop, wAsg, wAug, wBreak, wCont, wV, wC, wB, L3.wTru, L3.wNot, wAnd, wOr, wAndV, wOrV, wNotV, L3.wIf, wNeg, wOp, wCall, wQ, wML, wNil, wCons, wTup, wLst, wLstM, wIsi, wSl, wPart, wNoPart, wMinD, wJoin, wFrz, gN, sIx, sIs, sIsN, sI, sI0, truU, tyOk, tyU, isTruth, L3.isNon, itemsU, listU, ixU, qInt, qAbs, qStr, L3.max_int, start3, L3.kk_nb, L3.kk_nt, L3.kk_ni, L3.kk_ns, L3.kk_nl, L3.kk_bb, L3.kk_bt, L3.kk_bi, L3.kk_bs, L3.kk_bl, L3.kk_ib, L3.kk_it, L3.kk_ii, L3.kk_is, L3.kk_il, L3.kk_sb, L3.kk_st, L3.kk_si, L3.kk_ss, L3.kk_sl, L3.kk_tb, L3.kk_tt, L3.kk_ti, L3.kk_ts, L3.kk_tl, L3.kk_lb, L3.kk_lt, L3.kk_li, L3.kk_ls, L3.kk_ll, L3.at_0, L3.at_1, L3.at_2, L3.at_3, L3.eqA_int, L3.eqA_str, L3.eqA_bl, L3.lt_int, L3.gt_int, L3.le_int, L3.ge_int, L3.lt_str, L3.gt_str, L3.le_str, L3.ge_str, L3.add_int, L3.add_str, L3.exd, L3.exd0, L3.exd1, L3.exd2, L3.exd3, L3.exd4, L3.min_int, L3.min_str, L3.len_str, L3.len_lst, L3.len_tup]
              refine ⟨?_, l2, ?_, nx _ _ _ _ ⟨65 + v, cs, 48 + j, ?_, k3, by omega⟩⟩
              · rw [jn]
                show 1 + cs.length ≤ sizeLine
                omega
              · rw [str_len, app_cps, jl]
                show ([65 + v] ++ cs).length + (Str.ofString (toString (j : Int))).length ≤ sizeLine
                rw [l4, List.length_append]
                show 1 + cs.length + 1 ≤ sizeLine
                omega
              · rw [app_cps, app_cps, jl]
                show ([65 + v] ++ cs) ++ (Str.ofString (toString (j : Int))).cps.toList = _
                rw [d2]
                rfl
    · obtain ⟨x, y, z, u, zs, h1, h2, h3, h4⟩ := h'
      subst h1 h2
      rw [rng_len] at h3
      simp [wSeq, wIfS, wRet, wRetN, wNext, wDrop, wAsg, wAug, wBreak, wCont, wV, wC, wB, L3.wTru, L3.wNot, wAnd, wOr, wAndV, wOrV, wNotV, L3.wIf, wNeg, wOp, wCall, wQ, wML, wNil, wCons, wTup, wLst, wLstM, wIsi, wSl, wPart, wNoPart, wMinD, wJoin, wFrz, gN, sIx, sIs, sIsN, sI, sI0, truU, tyOk, tyU, isTruth, L3.isNon, itemsU, listU, ixU, qInt, qAbs, qStr, L3.max_int, start3, L3.kk_nb, L3.kk_nt, L3.kk_ni, L3.kk_ns, L3.kk_nl, L3.kk_bb, L3.kk_bt, L3.kk_bi, L3.kk_bs, L3.kk_bl, L3.kk_ib, L3.kk_it, L3.kk_ii, L3.kk_is, L3.kk_il, L3.kk_sb, L3.kk_st, L3.kk_si, L3.kk_ss, L3.kk_sl, L3.kk_tb, L3.kk_tt, L3.kk_ti, L3.kk_ts, L3.kk_tl, L3.kk_lb, L3.kk_lt, L3.kk_li, L3.kk_ls, L3.kk_ll, L3.at_0, L3.at_1, L3.at_2, L3.at_3, L3.eqA_int, L3.eqA_str, L3.eqA_bl, L3.lt_int, L3.gt_int, L3.le_int, L3.ge_int, L3.lt_str, L3.gt_str, L3.le_str, L3.ge_str, L3.add_int, L3.add_str, L3.exd, L3.exd0, L3.exd1, L3.exd2, L3.exd3, L3.exd4, L3.min_int, L3.min_str, L3.len_str, L3.len_lst, L3.len_tup]
      have e : isDct (put μ p (.lst ((sl zs).map U.d))) (U.r p) = false := by
        show (match put μ p (.lst ((sl zs).map U.d)) p with
          | some (.dct _) => true
          | _ => false) = false
        rw [put_same]
      unfold qSortA
      simp only [e, Bool.false_eq_true, if_false]
      refine ⟨U.r p, zs, rfl, by simp [listU, put_same, sl], by omega, fun ys pm so => rtD p (rtE ?_)⟩
      rw [del_put hp]
      have key : ∀ y ∈ ys, ∃ i, i ≤ 5 ∧ Nm i y := fun y hy => by
        obtain ⟨i, hi⟩ := List.getElem?_of_mem (pm.mem_iff.mp hy)
        have := (List.getElem?_eq_some_iff.mp hi).1
        exact ⟨i, by omega, h4 i y hi⟩
      refine q ys (by rw [pm.length_eq, h3]) (srt_of so (pm.nodup_iff.mpr (nf_nodup h4))) (fun y hy => ?_) fun hq => ?_
      · obtain ⟨i, hi, hn⟩ := key y hy
        exact hn.ok hi
      · obtain ⟨i, hi, hn⟩ := key _ hq
        exact hn.q9 hi rfl)
end
end K04

namespace K04
open PySem PySem.Spec PyProof.Rows L2 L3 Cn
section
variable {P : Program} {w : World} {K : Fg} {mg : Str → Option Value} {base : Heap}
/-! ### part_condition, _is_cause -/
def pe (e : Str × Bool) : PyData := .tuple [.str e.1, .bool e.2]
def pd (p : Part) : List PyData := p.map pe
theorem pd_len {p : Part} : (pd p).length = p.length := List.length_map _
def S_pc : WF := fun us μ Q => ∃ p : Part, us = [.d (.tuple (pd p))] ∧ p.length ≤ 5 ∧ (∀ e ∈ p, PyData.strOk e.1 = true) ∧ ∀ r : T, r.ok → r.nm → r.h ≤ p.length → (∀ σ, r.ev σ = true ↔ Hold p σ) → Q (.d r.d) μ
theorem one_ok {x : Str} {v : Bool} (h : PyData.strOk x = true) : (T.nd x (.lit v) (.lit (!v))).ok ∧ (T.nd x (.lit v) (.lit (!v))).nm ∧ ∀ σ, (T.nd x (.lit v) (.lit (!v))).ev σ = true ↔ σ x = v := by
  refine ⟨⟨trivial, trivial, trivial, trivial, fun e => ?_⟩, ⟨h, trivial, trivial⟩, fun σ => ?_⟩
  · cases v <;> cases e
  · show (if σ x = true then v else !v) = true ↔ _
    cases v <;> cases σ x <;> decide
theorem hold_take {p : Part} {j : Nat} (h : j < p.length) {σ : Str → Bool} : Hold (p.take (j + 1)) σ ↔ Hold (p.take j) σ ∧ σ p[j].1 = p[j].2 := by
  rw [List.take_succ_eq_append_getElem h]
  constructor
  · exact fun k => ⟨fun e he => k e (List.mem_append_left _ he), k _ (List.mem_append_right _ (List.mem_singleton.mpr rfl))⟩
  · rintro ⟨k1, k2⟩ e he
    rcases List.mem_append.mp he with he | he
    · exact k1 e he
    · rw [List.mem_singleton.mp he]; exact k2
theorem pc_ok (D : Dn K mg "part_condition" s_p_part_condition) (D0 : Dn K mg "both" s_p_both) (D1 : Dn K mg "_side" s_p__side) (D2 : Dn K mg "_node" s_p__node) (m1 : mg "isinstance" = none) (m2 : mg "tuple" = none) (m3 : mg "min" = none) : C8.Cal P w K mg base 9 "part_condition" (sp3 K S_pc) [] :=
  cal_p_part_condition D (c_p_both := both_ok D0 D1 D2 m1 m2 m3 6) (h_p_both := Nat.le_refl _) (len := fun us μ Q ⟨_, e, _⟩ => by rw [e]; rfl) (h := fun us μ Q ⟨p, e, hl, hs, q⟩ => by
    subst e
    simp [wSeq, wIfS, wRet, wRetN, wNext, wDrop, wAsg, wAug, wBreak, wCont, wV, wC, wB, L3.wTru, L3.wNot, wAnd, wOr, wAndV, wOrV, wNotV, L3.wIf, wNeg, wOp, wCall, wQ, wML, wNil, wCons, wTup, wLst, wLstM, wIsi, wSl, wPart, wNoPart, wMinD, wJoin, wFrz, gN, sIx, sIs, sIsN, sI, sI0, truU, tyOk, tyU, isTruth, L3.isNon, itemsU, listU, ixU, qInt, qAbs, qStr, L3.max_int, start3, L3.kk_nb, L3.kk_nt, L3.kk_ni, L3.kk_ns, L3.kk_nl, L3.kk_bb, L3.kk_bt, L3.kk_bi, L3.kk_bs, L3.kk_bl, L3.kk_ib, L3.kk_it, L3.kk_ii, L3.kk_is, L3.kk_il, L3.kk_sb, L3.kk_st, L3.kk_si, L3.kk_ss, L3.kk_sl, L3.kk_tb, L3.kk_tt, L3.kk_ti, L3.kk_ts, L3.kk_tl, L3.kk_lb, L3.kk_lt, L3.kk_li, L3.kk_ls, L3.kk_ll, L3.at_0, L3.at_1, L3.at_2, L3.at_3, L3.eqA_int, L3.eqA_str, L3.eqA_bl, L3.lt_int, L3.gt_int, L3.le_int, L3.ge_int, L3.lt_str, L3.gt_str, L3.le_str, L3.ge_str, L3.add_int, L3.add_str, L3.exd, L3.exd0, L3.exd1, L3.exd2, L3.exd3, L3.exd4, L3.min_int, L3.min_str, L3.len_str, L3.len_lst, L3.len_tup, W_p_part_condition, wFor, jSeq]
    refine forGo_inv (fun j ρ μ' => ∃ (x y : Option U) (r : T), ρ = [some (.d (.tuple (pd p))), some (.d r.d), x, y] ∧ μ' = μ ∧ r.ok ∧ r.nm ∧ r.h ≤ j ∧ ∀ σ, r.ev σ = true ↔ Hold (p.take j) σ) ⟨none, none, .lit true, rfl, rfl, trivial, trivial, Nat.le_refl _, fun σ => ⟨fun _ e he => (nomatch he), fun _ => rfl⟩⟩ (fun _ _ _ _ => trivial) (fun j hj ρ μ' N ⟨x, y, r, h1, h2, h3, h4, h5, h6⟩ hN => ?_) (fun ρ μ' ⟨x, y, r, h1, h2, h3, h4, h5, h6⟩ => ?_)
    · subst h1 h2
      have hj : j < p.length := by simpa [pd_len] using hj
      have hx : (List.map U.d (pd p))[j] = .d (pe p[j]) := by simp [pd]
      rw [hx]
      have ht := fun σ => hold_take hj (σ := σ)
      have so := hs _ (List.getElem_mem hj)
      generalize p[j] = e at ht so ⊢
      obtain ⟨z, b⟩ := e
      have ok1 := one_ok (v := true) so
      have ok0 := one_ok (v := false) so
      have st : ∀ v, b = v → S_ap and 6 [.d r.d, .d (T.nd z (.lit v) (.lit (!v))).d] μ' fun u μ1 => N [some (U.d (PyData.tuple (pd p))), some u, some (.d (.str z)), some (.d (.bool b))] μ1 := fun v e => by
        subst e
        have ok := one_ok (v := b) so
        refine ⟨r, _, rfl, h3, ok.1, h4, ok.2.1, ?_, ?_, fun r' k => hN _ _ ⟨_, _, r', rfl, rfl, k.ok, k.nm, ?_, fun σ => ?_⟩⟩
        · simp only [T.h]; omega
        · simp only [T.h]; omega
        · have := k.h
          simp only [T.h] at this
          omega
        · rw [k.ev, Bool.and_eq_true, h6, ok.2.2, ht]
      simp [wSeq, wIfS, wRet, wRetN, wNext, wDrop, wAsg, wAug, wBreak, wCont, wV, wC, wB, L3.wTru, L3.wNot, wAnd, wOr, wAndV, wOrV, wNotV, L3.wIf, wNeg, wOp, wCall, wQ, wML, wNil, wCons, wTup, wLst, wLstM, wIsi, wSl, wPart, wNoPart, wMinD, wJoin, wFrz, gN, sIx, sIs, sIsN, sI, sI0, truU, tyOk, tyU, isTruth, L3.isNon, itemsU, listU, ixU, qInt, qAbs, qStr, L3.max_int, start3, L3.kk_nb, L3.kk_nt, L3.kk_ni, L3.kk_ns, L3.kk_nl, L3.kk_bb, L3.kk_bt, L3.kk_bi, L3.kk_bs, L3.kk_bl, L3.kk_ib, L3.kk_it, L3.kk_ii, L3.kk_is, L3.kk_il, L3.kk_sb, L3.kk_st, L3.kk_si, L3.kk_ss, L3.kk_sl, L3.kk_tb, L3.kk_tt, L3.kk_ti, L3.kk_ts, L3.kk_tl, L3.kk_lb, L3.kk_lt, L3.kk_li, L3.kk_ls, L3.kk_ll, L3.at_0, L3.at_1, L3.at_2, L3.at_3, L3.eqA_int, L3.eqA_str, L3.eqA_bl, L3.lt_int, L3.gt_int, L3.le_int, L3.ge_int, L3.lt_str, L3.gt_str, L3.le_str, L3.ge_str, L3.add_int, L3.add_str, L3.exd, L3.exd0, L3.exd1, L3.exd2, L3.exd3, L3.exd4, L3.min_int, L3.min_str, L3.len_str, L3.len_lst, L3.len_tup, pe]
      refine ⟨_, rfl, rfl, _, _, rfl, _, _, rfl, ?_⟩
      simp [wSeq, wIfS, wRet, wRetN, wNext, wDrop, wAsg, wAug, wBreak, wCont, wV, wC, wB, L3.wTru, L3.wNot, wAnd, wOr, wAndV, wOrV, wNotV, L3.wIf, wNeg, wOp, wCall, wQ, wML, wNil, wCons, wTup, wLst, wLstM, wIsi, wSl, wPart, wNoPart, wMinD, wJoin, wFrz, gN, sIx, sIs, sIsN, sI, sI0, truU, tyOk, tyU, isTruth, L3.isNon, itemsU, listU, ixU, qInt, qAbs, qStr, L3.max_int, start3, L3.kk_nb, L3.kk_nt, L3.kk_ni, L3.kk_ns, L3.kk_nl, L3.kk_bb, L3.kk_bt, L3.kk_bi, L3.kk_bs, L3.kk_bl, L3.kk_ib, L3.kk_it, L3.kk_ii, L3.kk_is, L3.kk_il, L3.kk_sb, L3.kk_st, L3.kk_si, L3.kk_ss, L3.kk_sl, L3.kk_tb, L3.kk_tt, L3.kk_ti, L3.kk_ts, L3.kk_tl, L3.kk_lb, L3.kk_lt, L3.kk_li, L3.kk_ls, L3.kk_ll, L3.at_0, L3.at_1, L3.at_2, L3.at_3, L3.eqA_int, L3.eqA_str, L3.eqA_bl, L3.lt_int, L3.gt_int, L3.le_int, L3.ge_int, L3.lt_str, L3.gt_str, L3.le_str, L3.ge_str, L3.add_int, L3.add_str, L3.exd, L3.exd0, L3.exd1, L3.exd2, L3.exd3, L3.exd4, L3.min_int, L3.min_str, L3.len_str, L3.len_lst, L3.len_tup, gT.gGo]
      have st := st b rfl
      cases b with
      | false =>
        simp [wSeq, wIfS, wRet, wRetN, wNext, wDrop, wAsg, wAug, wBreak, wCont, wV, wC, wB, L3.wTru, L3.wNot, wAnd, wOr, wAndV, wOrV, wNotV, L3.wIf, wNeg, wOp, wCall, wQ, wML, wNil, wCons, wTup, wLst, wLstM, wIsi, wSl, wPart, wNoPart, wMinD, wJoin, wFrz, gN, sIx, sIs, sIsN, sI, sI0, truU, tyOk, tyU, isTruth, L3.isNon, itemsU, listU, ixU, qInt, qAbs, qStr, L3.max_int, start3, L3.kk_nb, L3.kk_nt, L3.kk_ni, L3.kk_ns, L3.kk_nl, L3.kk_bb, L3.kk_bt, L3.kk_bi, L3.kk_bs, L3.kk_bl, L3.kk_ib, L3.kk_it, L3.kk_ii, L3.kk_is, L3.kk_il, L3.kk_sb, L3.kk_st, L3.kk_si, L3.kk_ss, L3.kk_sl, L3.kk_tb, L3.kk_tt, L3.kk_ti, L3.kk_ts, L3.kk_tl, L3.kk_lb, L3.kk_lt, L3.kk_li, L3.kk_ls, L3.kk_ll, L3.at_0, L3.at_1, L3.at_2, L3.at_3, L3.eqA_int, L3.eqA_str, L3.eqA_bl, L3.lt_int, L3.gt_int, L3.le_int, L3.ge_int, L3.lt_str, L3.gt_str, L3.le_str, L3.ge_str, L3.add_int, L3.add_str, L3.exd, L3.exd0, L3.exd1, L3.exd2, L3.exd3, L3.exd4, L3.min_int, L3.min_str, L3.len_str, L3.len_lst, L3.len_tup]
        exact ⟨L3.sl0 (by decide), st⟩
      | true =>
        simp [wSeq, wIfS, wRet, wRetN, wNext, wDrop, wAsg, wAug, wBreak, wCont, wV, wC, wB, L3.wTru, L3.wNot, wAnd, wOr, wAndV, wOrV, wNotV, L3.wIf, wNeg, wOp, wCall, wQ, wML, wNil, wCons, wTup, wLst, wLstM, wIsi, wSl, wPart, wNoPart, wMinD, wJoin, wFrz, gN, sIx, sIs, sIsN, sI, sI0, truU, tyOk, tyU, isTruth, L3.isNon, itemsU, listU, ixU, qInt, qAbs, qStr, L3.max_int, start3, L3.kk_nb, L3.kk_nt, L3.kk_ni, L3.kk_ns, L3.kk_nl, L3.kk_bb, L3.kk_bt, L3.kk_bi, L3.kk_bs, L3.kk_bl, L3.kk_ib, L3.kk_it, L3.kk_ii, L3.kk_is, L3.kk_il, L3.kk_sb, L3.kk_st, L3.kk_si, L3.kk_ss, L3.kk_sl, L3.kk_tb, L3.kk_tt, L3.kk_ti, L3.kk_ts, L3.kk_tl, L3.kk_lb, L3.kk_lt, L3.kk_li, L3.kk_ls, L3.kk_ll, L3.at_0, L3.at_1, L3.at_2, L3.at_3, L3.eqA_int, L3.eqA_str, L3.eqA_bl, L3.lt_int, L3.gt_int, L3.le_int, L3.ge_int, L3.lt_str, L3.gt_str, L3.le_str, L3.ge_str, L3.add_int, L3.add_str, L3.exd, L3.exd0, L3.exd1, L3.exd2, L3.exd3, L3.exd4, L3.min_int, L3.min_str, L3.len_str, L3.len_lst, L3.len_tup]
        exact ⟨L3.sl0 (by decide), st⟩
    · subst h1 h2
      have e : (List.map U.d (pd p)).length = p.length := by simp [pd_len]
      rw [e] at h5 h6
      rw [List.take_length] at h6
      simp [wSeq, wIfS, wRet, wRetN, wNext, wDrop, wAsg, wAug, wBreak, wCont, wV, wC, wB, L3.wTru, L3.wNot, wAnd, wOr, wAndV, wOrV, wNotV, L3.wIf, wNeg, wOp, wCall, wQ, wML, wNil, wCons, wTup, wLst, wLstM, wIsi, wSl, wPart, wNoPart, wMinD, wJoin, wFrz, gN, sIx, sIs, sIsN, sI, sI0, truU, tyOk, tyU, isTruth, L3.isNon, itemsU, listU, ixU, qInt, qAbs, qStr, L3.max_int, start3, L3.kk_nb, L3.kk_nt, L3.kk_ni, L3.kk_ns, L3.kk_nl, L3.kk_bb, L3.kk_bt, L3.kk_bi, L3.kk_bs, L3.kk_bl, L3.kk_ib, L3.kk_it, L3.kk_ii, L3.kk_is, L3.kk_il, L3.kk_sb, L3.kk_st, L3.kk_si, L3.kk_ss, L3.kk_sl, L3.kk_tb, L3.kk_tt, L3.kk_ti, L3.kk_ts, L3.kk_tl, L3.kk_lb, L3.kk_lt, L3.kk_li, L3.kk_ls, L3.kk_ll, L3.at_0, L3.at_1, L3.at_2, L3.at_3, L3.eqA_int, L3.eqA_str, L3.eqA_bl, L3.lt_int, L3.gt_int, L3.le_int, L3.ge_int, L3.lt_str, L3.gt_str, L3.le_str, L3.ge_str, L3.add_int, L3.add_str, L3.exd, L3.exd0, L3.exd1, L3.exd2, L3.exd3, L3.exd4, L3.min_int, L3.min_str, L3.len_str, L3.len_lst, L3.len_tup]
      exact rtE (q r h3 h4 h5 h6))
def S_ic : WF := fun us μ Q => ∃ (p : Part) (c : T), us = [.d (.tuple (pd p)), .d c.d] ∧ p.length ≤ 5 ∧ (∀ e ∈ p, PyData.strOk e.1 = true) ∧ c.ok ∧ c.nm ∧ c.h ≤ 5 ∧ ∀ b : Bool, (b = true ↔ Imp p c) → Q (.d (.bool b)) μ
theorem ic_ok (D : Dn K mg "_is_cause" s_p__is_cause) (E0 : Dn K mg "part_condition" s_p_part_condition) (E1 : Dn K mg "implies" s_p_implies) (D0 : Dn K mg "both" s_p_both) (D1 : Dn K mg "_side" s_p__side) (D2 : Dn K mg "_node" s_p__node) (m1 : mg "isinstance" = none) (m2 : mg "tuple" = none) (m3 : mg "min" = none) : C8.Cal P w K mg base 13 "_is_cause" (sp3 K S_ic) [] :=
  cal_p__is_cause D (c_p_implies := implies_ok E1 D1 m1 m2 m3 10) (h_p_implies := Nat.le_refl _) (c_p_part_condition := pc_ok E0 D0 D1 D2 m1 m2 m3) (h_p_part_condition := by omega) (len := fun us μ Q ⟨_, _, e, _⟩ => by rw [e]; rfl) (h := fun us μ Q ⟨p, c, e, hl, hs, h1, h2, h3, q⟩ => by
    subst e
    simp [wSeq, wIfS, wRet, wRetN, wNext, wDrop, wAsg, wAug, wBreak, wCont, wV, wC, wB, L3.wTru, L3.wNot, wAnd, wOr, wAndV, wOrV, wNotV, L3.wIf, wNeg, wOp, wCall, wQ, wML, wNil, wCons, wTup, wLst, wLstM, wIsi, wSl, wPart, wNoPart, wMinD, wJoin, wFrz, gN, sIx, sIs, sIsN, sI, sI0, truU, tyOk, tyU, isTruth, L3.isNon, itemsU, listU, ixU, qInt, qAbs, qStr, L3.max_int, start3, L3.kk_nb, L3.kk_nt, L3.kk_ni, L3.kk_ns, L3.kk_nl, L3.kk_bb, L3.kk_bt, L3.kk_bi, L3.kk_bs, L3.kk_bl, L3.kk_ib, L3.kk_it, L3.kk_ii, L3.kk_is, L3.kk_il, L3.kk_sb, L3.kk_st, L3.kk_si, L3.kk_ss, L3.kk_sl, L3.kk_tb, L3.kk_tt, L3.kk_ti, L3.kk_ts, L3.kk_tl, L3.kk_lb, L3.kk_lt, L3.kk_li, L3.kk_ls, L3.kk_ll, L3.at_0, L3.at_1, L3.at_2, L3.at_3, L3.eqA_int, L3.eqA_str, L3.eqA_bl, L3.lt_int, L3.gt_int, L3.le_int, L3.ge_int, L3.lt_str, L3.gt_str, L3.le_str, L3.ge_str, L3.add_int, L3.add_str, L3.exd, L3.exd0, L3.exd1, L3.exd2, L3.exd3, L3.exd4, L3.min_int, L3.min_str, L3.len_str, L3.len_lst, L3.len_tup, W_p__is_cause]
    refine ⟨p, rfl, hl, hs, fun r k1 k2 k3 k4 => ?_⟩
    simp [wSeq, wIfS, wRet, wRetN, wNext, wDrop, wAsg, wAug, wBreak, wCont, wV, wC, wB, L3.wTru, L3.wNot, wAnd, wOr, wAndV, wOrV, wNotV, L3.wIf, wNeg, wOp, wCall, wQ, wML, wNil, wCons, wTup, wLst, wLstM, wIsi, wSl, wPart, wNoPart, wMinD, wJoin, wFrz, gN, sIx, sIs, sIsN, sI, sI0, truU, tyOk, tyU, isTruth, L3.isNon, itemsU, listU, ixU, qInt, qAbs, qStr, L3.max_int, start3, L3.kk_nb, L3.kk_nt, L3.kk_ni, L3.kk_ns, L3.kk_nl, L3.kk_bb, L3.kk_bt, L3.kk_bi, L3.kk_bs, L3.kk_bl, L3.kk_ib, L3.kk_it, L3.kk_ii, L3.kk_is, L3.kk_il, L3.kk_sb, L3.kk_st, L3.kk_si, L3.kk_ss, L3.kk_sl, L3.kk_tb, L3.kk_tt, L3.kk_ti, L3.kk_ts, L3.kk_tl, L3.kk_lb, L3.kk_lt, L3.kk_li, L3.kk_ls, L3.kk_ll, L3.at_0, L3.at_1, L3.at_2, L3.at_3, L3.eqA_int, L3.eqA_str, L3.eqA_bl, L3.lt_int, L3.gt_int, L3.le_int, L3.ge_int, L3.lt_str, L3.gt_str, L3.le_str, L3.ge_str, L3.add_int, L3.add_str, L3.exd, L3.exd0, L3.exd1, L3.exd2, L3.exd3, L3.exd4, L3.min_int, L3.min_str, L3.len_str, L3.len_lst, L3.len_tup]
    refine ⟨r, c, rfl, k1, h1, k2, h2, by omega, fun b hb => rtE (q b (hb.trans ⟨fun h σ k => h σ ((k4 σ).mpr k), fun h σ k => h σ ((k4 σ).mp k)⟩))⟩)
/-! ### _causes -/
def cz (ps : List Part) : List U := ps.map fun p => .d (.tuple (pd p))
theorem cz_len {ps : List Part} : (cz ps).length = ps.length := List.length_map _
def S_cz (n : Nat) : WF := fun us μ Q => ∃ (names : List Str) (row : List Bool), us = [.d (form names row).d] ∧ names.length ≤ n ∧ Srt names ∧ (∀ x ∈ names, PyData.strOk x = true) ∧ row.length = 2 ^ names.length ∧ ∀ ps p, Cs n (form names row) ps → μ p = none → Q (.r p) (put μ p (.lst (cz ps)))
theorem len_cz {n : Nat} : ∀ us μ Q, S_cz n us μ Q → us.length = 1 := fun us μ Q ⟨_, _, e, _⟩ => by rw [e]; rfl
theorem csUp_take {s : Str} {v : Bool} {b : T} {A : List Part} {j : Nat} (h : j < A.length) : (Imp A[j] b → csUp s v b (A.take (j + 1)) = csUp s v b (A.take j)) ∧ (¬ Imp A[j] b → csUp s v b (A.take (j + 1)) = csUp s v b (A.take j) ++ [(s, v) :: A[j]]) := by
  unfold csUp keep
  rw [List.take_succ_eq_append_getElem h, List.filter_append, List.map_append]
  constructor
  · intro k
    rw [List.filter_cons_of_neg (by simpa using k)]
    simp
  · intro k
    rw [List.filter_cons_of_pos (by simpa using k)]
    simp
theorem up_on {n : Nat} {s : Str} {c d : T} {names : List Str} {row : List Bool} {x0 x1 : Option U} {μ : Mu} {R : XP} (hc : c = form names row) (hn : names.length ≤ n) (n5 : n ≤ 5) (hs : Srt names) (hk : ∀ x ∈ names, PyData.strOk x = true) (hl : row.length = 2 ^ names.length)
    (dok : d.ok) (dnm : d.nm) (dh : d.h ≤ 5)
    (q : ∀ A p2 p3, Cs n c A → μ p2 = none → put μ p2 (.lst (cz A)) p3 = none → R (.r p3) (put (put μ p2 (.lst (cz A))) p3 (.lst (cz (csUp s true d A))))) :
    wLcM (jSeq (wCall (S_cz n) (wCons (wV 3) wNil))) [5] (gN 5)
            (L3.wNot (L3.wTru (wCall S_ic (wCons (wV 5) (wCons (wV 4) wNil)))))
            (wTup (wCons (wTup (wCons (wV 2) (wCons (wC (PyData.bool true)) wNil))) (wStar (wV 5) wNil)))
            [x0, x1, some (.d (.str s)), some (.d c.d), some (.d d.d), none] μ R := by
  simp [wSeq, wIfS, wRet, wRetN, wNext, wDrop, wAsg, wAug, wBreak, wCont, wV, wC, wB, L3.wTru, L3.wNot, wAnd, wOr, wAndV, wOrV, wNotV, L3.wIf, wNeg, wOp, wCall, wQ, wML, wNil, wCons, wTup, wLst, wLstM, wIsi, wSl, wPart, wNoPart, wMinD, wJoin, wFrz, gN, sIx, sIs, sIsN, sI, sI0, truU, tyOk, tyU, isTruth, L3.isNon, itemsU, listU, ixU, qInt, qAbs, qStr, L3.max_int, start3, L3.kk_nb, L3.kk_nt, L3.kk_ni, L3.kk_ns, L3.kk_nl, L3.kk_bb, L3.kk_bt, L3.kk_bi, L3.kk_bs, L3.kk_bl, L3.kk_ib, L3.kk_it, L3.kk_ii, L3.kk_is, L3.kk_il, L3.kk_sb, L3.kk_st, L3.kk_si, L3.kk_ss, L3.kk_sl, L3.kk_tb, L3.kk_tt, L3.kk_ti, L3.kk_ts, L3.kk_tl, L3.kk_lb, L3.kk_lt, L3.kk_li, L3.kk_ls, L3.kk_ll, L3.at_0, L3.at_1, L3.at_2, L3.at_3, L3.eqA_int, L3.eqA_str, L3.eqA_bl, L3.lt_int, L3.gt_int, L3.le_int, L3.ge_int, L3.lt_str, L3.gt_str, L3.le_str, L3.ge_str, L3.add_int, L3.add_str, L3.exd, L3.exd0, L3.exd1, L3.exd2, L3.exd3, L3.exd4, L3.min_int, L3.min_str, L3.len_str, L3.len_lst, L3.len_tup, wLcM, jSeq]
  refine ⟨names, row, by rw [hc], hn, hs, hk, hl, fun A p2 hA hp2 => ?_⟩
  rw [← hc] at hA
  have i0 : itemsU (put μ p2 (.lst (cz A))) (.r p2) = some (cz A) := by simp only [itemsU, put_same]
  have la := hA.len
  have p35 : 3 ^ n ≤ 3 ^ 5 := Nat.pow_le_pow_right (by decide) n5
  have big : 1000 < sizeLine := by decide
  refine ⟨_, i0, ?_⟩
  refine lcGo_inv (fun j acc μ' => acc = cz (csUp s true d (A.take j)) ∧ μ' = put μ p2 (.lst (cz A))) ⟨rfl, rfl⟩ (fun j acc μ' ⟨_, e⟩ => by rw [e]; exact i0) (fun j hj acc μ' N ⟨h1, h2⟩ hN => ?_) (fun acc μ' ⟨h1, h2⟩ => ?_)
  · subst h1 h2
    have hj : j < A.length := by simpa [cz_len] using hj
    have hx : (cz A)[j] = .d (.tuple (pd A[j])) := by simp [cz]
    rw [hx]
    have tk := csUp_take (s := s) (v := true) (b := d) hj
    have sz := hA.sz _ (List.getElem_mem hj)
    have lu := csUp_len (s := s) (v := true) (b := d) (ps := A.take j)
    rw [List.length_take] at lu
    generalize A[j] = p at tk sz ⊢
    simp [wSeq, wIfS, wRet, wRetN, wNext, wDrop, wAsg, wAug, wBreak, wCont, wV, wC, wB, L3.wTru, L3.wNot, wAnd, wOr, wAndV, wOrV, wNotV, L3.wIf, wNeg, wOp, wCall, wQ, wML, wNil, wCons, wTup, wLst, wLstM, wIsi, wSl, wPart, wNoPart, wMinD, wJoin, wFrz, gN, sIx, sIs, sIsN, sI, sI0, truU, tyOk, tyU, isTruth, L3.isNon, itemsU, listU, ixU, qInt, qAbs, qStr, L3.max_int, start3, L3.kk_nb, L3.kk_nt, L3.kk_ni, L3.kk_ns, L3.kk_nl, L3.kk_bb, L3.kk_bt, L3.kk_bi, L3.kk_bs, L3.kk_bl, L3.kk_ib, L3.kk_it, L3.kk_ii, L3.kk_is, L3.kk_il, L3.kk_sb, L3.kk_st, L3.kk_si, L3.kk_ss, L3.kk_sl, L3.kk_tb, L3.kk_tt, L3.kk_ti, L3.kk_ts, L3.kk_tl, L3.kk_lb, L3.kk_lt, L3.kk_li, L3.kk_ls, L3.kk_ll, L3.at_0, L3.at_1, L3.at_2, L3.at_3, L3.eqA_int, L3.eqA_str, L3.eqA_bl, L3.lt_int, L3.gt_int, L3.le_int, L3.ge_int, L3.lt_str, L3.gt_str, L3.le_str, L3.ge_str, L3.add_int, L3.add_str, L3.exd, L3.exd0, L3.exd1, L3.exd2, L3.exd3, L3.exd4, L3.min_int, L3.min_str, L3.len_str, L3.len_lst, L3.len_tup, wipeR]
    refine ⟨p, d, rfl, by omega, sz.2, dok, dnm, dh, fun b hb => ?_⟩
    cases b with
    | true =>
      simp [wSeq, wIfS, wRet, wRetN, wNext, wDrop, wAsg, wAug, wBreak, wCont, wV, wC, wB, L3.wTru, L3.wNot, wAnd, wOr, wAndV, wOrV, wNotV, L3.wIf, wNeg, wOp, wCall, wQ, wML, wNil, wCons, wTup, wLst, wLstM, wIsi, wSl, wPart, wNoPart, wMinD, wJoin, wFrz, gN, sIx, sIs, sIsN, sI, sI0, truU, tyOk, tyU, isTruth, L3.isNon, itemsU, listU, ixU, qInt, qAbs, qStr, L3.max_int, start3, L3.kk_nb, L3.kk_nt, L3.kk_ni, L3.kk_ns, L3.kk_nl, L3.kk_bb, L3.kk_bt, L3.kk_bi, L3.kk_bs, L3.kk_bl, L3.kk_ib, L3.kk_it, L3.kk_ii, L3.kk_is, L3.kk_il, L3.kk_sb, L3.kk_st, L3.kk_si, L3.kk_ss, L3.kk_sl, L3.kk_tb, L3.kk_tt, L3.kk_ti, L3.kk_ts, L3.kk_tl, L3.kk_lb, L3.kk_lt, L3.kk_li, L3.kk_ls, L3.kk_ll, L3.at_0, L3.at_1, L3.at_2, L3.at_3, L3.eqA_int, L3.eqA_str, L3.eqA_bl, L3.lt_int, L3.gt_int, L3.le_int, L3.ge_int, L3.lt_str, L3.gt_str, L3.le_str, L3.ge_str, L3.add_int, L3.add_str, L3.exd, L3.exd0, L3.exd1, L3.exd2, L3.exd3, L3.exd4, L3.min_int, L3.min_str, L3.len_str, L3.len_lst, L3.len_tup]
      refine hN _ _ ⟨?_, rfl⟩
      rw [tk.1 (hb.mp rfl)]
    | false =>
      simp [wSeq, wIfS, wRet, wRetN, wNext, wDrop, wAsg, wAug, wBreak, wCont, wV, wC, wB, L3.wTru, L3.wNot, wAnd, wOr, wAndV, wOrV, wNotV, L3.wIf, wNeg, wOp, wCall, wQ, wML, wNil, wCons, wTup, wLst, wLstM, wIsi, wSl, wPart, wNoPart, wMinD, wJoin, wFrz, gN, sIx, sIs, sIsN, sI, sI0, truU, tyOk, tyU, isTruth, L3.isNon, itemsU, listU, ixU, qInt, qAbs, qStr, L3.max_int, start3, L3.kk_nb, L3.kk_nt, L3.kk_ni, L3.kk_ns, L3.kk_nl, L3.kk_bb, L3.kk_bt, L3.kk_bi, L3.kk_bs, L3.kk_bl, L3.kk_ib, L3.kk_it, L3.kk_ii, L3.kk_is, L3.kk_il, L3.kk_sb, L3.kk_st, L3.kk_si, L3.kk_ss, L3.kk_sl, L3.kk_tb, L3.kk_tt, L3.kk_ti, L3.kk_ts, L3.kk_tl, L3.kk_lb, L3.kk_lt, L3.kk_li, L3.kk_ls, L3.kk_ll, L3.at_0, L3.at_1, L3.at_2, L3.at_3, L3.eqA_int, L3.eqA_str, L3.eqA_bl, L3.lt_int, L3.gt_int, L3.le_int, L3.ge_int, L3.lt_str, L3.gt_str, L3.le_str, L3.ge_str, L3.add_int, L3.add_str, L3.exd, L3.exd0, L3.exd1, L3.exd2, L3.exd3, L3.exd4, L3.min_int, L3.min_str, L3.len_str, L3.len_lst, L3.len_tup, wStar]
      refine ⟨by decide, pe (s, true) :: pd p, rfl, ?_, ?_, hN _ _ ⟨?_, rfl⟩⟩
      · rw [List.length_cons, pd_len]
        exact L3.sl0 (by omega)
      · rw [cz_len]
        omega
      · rw [tk.2 (fun h => by cases hb.mpr h)]
        simp [cz, pd]
  · subst h1 h2
    rw [cz_len, List.take_length]
    exact fun p hp => q A p2 p hA hp2 hp
theorem up_off {n : Nat} {s : Str} {c d : T} {names : List Str} {row : List Bool} {x0 x1 : Option U} {μ : Mu} {R : XP} (hc : c = form names row) (hn : names.length ≤ n) (n5 : n ≤ 5) (hs : Srt names) (hk : ∀ x ∈ names, PyData.strOk x = true) (hl : row.length = 2 ^ names.length)
    (dok : d.ok) (dnm : d.nm) (dh : d.h ≤ 5)
    (q : ∀ A p2 p3, Cs n c A → μ p2 = none → put μ p2 (.lst (cz A)) p3 = none → R (.r p3) (put (put μ p2 (.lst (cz A))) p3 (.lst (cz (csUp s false d A))))) :
    wLcM (jSeq (wCall (S_cz n) (wCons (wV 4) wNil))) [5] (gN 5)
            (L3.wNot (L3.wTru (wCall S_ic (wCons (wV 5) (wCons (wV 3) wNil)))))
            (wTup (wCons (wTup (wCons (wV 2) (wCons (wC (PyData.bool false)) wNil))) (wStar (wV 5) wNil)))
            [x0, x1, some (.d (.str s)), some (.d d.d), some (.d c.d), none] μ R := by
  simp [wSeq, wIfS, wRet, wRetN, wNext, wDrop, wAsg, wAug, wBreak, wCont, wV, wC, wB, L3.wTru, L3.wNot, wAnd, wOr, wAndV, wOrV, wNotV, L3.wIf, wNeg, wOp, wCall, wQ, wML, wNil, wCons, wTup, wLst, wLstM, wIsi, wSl, wPart, wNoPart, wMinD, wJoin, wFrz, gN, sIx, sIs, sIsN, sI, sI0, truU, tyOk, tyU, isTruth, L3.isNon, itemsU, listU, ixU, qInt, qAbs, qStr, L3.max_int, start3, L3.kk_nb, L3.kk_nt, L3.kk_ni, L3.kk_ns, L3.kk_nl, L3.kk_bb, L3.kk_bt, L3.kk_bi, L3.kk_bs, L3.kk_bl, L3.kk_ib, L3.kk_it, L3.kk_ii, L3.kk_is, L3.kk_il, L3.kk_sb, L3.kk_st, L3.kk_si, L3.kk_ss, L3.kk_sl, L3.kk_tb, L3.kk_tt, L3.kk_ti, L3.kk_ts, L3.kk_tl, L3.kk_lb, L3.kk_lt, L3.kk_li, L3.kk_ls, L3.kk_ll, L3.at_0, L3.at_1, L3.at_2, L3.at_3, L3.eqA_int, L3.eqA_str, L3.eqA_bl, L3.lt_int, L3.gt_int, L3.le_int, L3.ge_int, L3.lt_str, L3.gt_str, L3.le_str, L3.ge_str, L3.add_int, L3.add_str, L3.exd, L3.exd0, L3.exd1, L3.exd2, L3.exd3, L3.exd4, L3.min_int, L3.min_str, L3.len_str, L3.len_lst, L3.len_tup, wLcM, jSeq]
  refine ⟨names, row, by rw [hc], hn, hs, hk, hl, fun A p2 hA hp2 => ?_⟩
  rw [← hc] at hA
  have i0 : itemsU (put μ p2 (.lst (cz A))) (.r p2) = some (cz A) := by simp only [itemsU, put_same]
  have la := hA.len
  have p35 : 3 ^ n ≤ 3 ^ 5 := Nat.pow_le_pow_right (by decide) n5
  have big : 1000 < sizeLine := by decide
  refine ⟨_, i0, ?_⟩
  refine lcGo_inv (fun j acc μ' => acc = cz (csUp s false d (A.take j)) ∧ μ' = put μ p2 (.lst (cz A))) ⟨rfl, rfl⟩ (fun j acc μ' ⟨_, e⟩ => by rw [e]; exact i0) (fun j hj acc μ' N ⟨h1, h2⟩ hN => ?_) (fun acc μ' ⟨h1, h2⟩ => ?_)
  · subst h1 h2
    have hj : j < A.length := by simpa [cz_len] using hj
    have hx : (cz A)[j] = .d (.tuple (pd A[j])) := by simp [cz]
    rw [hx]
    have tk := csUp_take (s := s) (v := false) (b := d) hj
    have sz := hA.sz _ (List.getElem_mem hj)
    have lu := csUp_len (s := s) (v := false) (b := d) (ps := A.take j)
    rw [List.length_take] at lu
    generalize A[j] = p at tk sz ⊢
    simp [wSeq, wIfS, wRet, wRetN, wNext, wDrop, wAsg, wAug, wBreak, wCont, wV, wC, wB, L3.wTru, L3.wNot, wAnd, wOr, wAndV, wOrV, wNotV, L3.wIf, wNeg, wOp, wCall, wQ, wML, wNil, wCons, wTup, wLst, wLstM, wIsi, wSl, wPart, wNoPart, wMinD, wJoin, wFrz, gN, sIx, sIs, sIsN, sI, sI0, truU, tyOk, tyU, isTruth, L3.isNon, itemsU, listU, ixU, qInt, qAbs, qStr, L3.max_int, start3, L3.kk_nb, L3.kk_nt, L3.kk_ni, L3.kk_ns, L3.kk_nl, L3.kk_bb, L3.kk_bt, L3.kk_bi, L3.kk_bs, L3.kk_bl, L3.kk_ib, L3.kk_it, L3.kk_ii, L3.kk_is, L3.kk_il, L3.kk_sb, L3.kk_st, L3.kk_si, L3.kk_ss, L3.kk_sl, L3.kk_tb, L3.kk_tt, L3.kk_ti, L3.kk_ts, L3.kk_tl, L3.kk_lb, L3.kk_lt, L3.kk_li, L3.kk_ls, L3.kk_ll, L3.at_0, L3.at_1, L3.at_2, L3.at_3, L3.eqA_int, L3.eqA_str, L3.eqA_bl, L3.lt_int, L3.gt_int, L3.le_int, L3.ge_int, L3.lt_str, L3.gt_str, L3.le_str, L3.ge_str, L3.add_int, L3.add_str, L3.exd, L3.exd0, L3.exd1, L3.exd2, L3.exd3, L3.exd4, L3.min_int, L3.min_str, L3.len_str, L3.len_lst, L3.len_tup, wipeR]
    refine ⟨p, d, rfl, by omega, sz.2, dok, dnm, dh, fun b hb => ?_⟩
    cases b with
    | true =>
      simp [wSeq, wIfS, wRet, wRetN, wNext, wDrop, wAsg, wAug, wBreak, wCont, wV, wC, wB, L3.wTru, L3.wNot, wAnd, wOr, wAndV, wOrV, wNotV, L3.wIf, wNeg, wOp, wCall, wQ, wML, wNil, wCons, wTup, wLst, wLstM, wIsi, wSl, wPart, wNoPart, wMinD, wJoin, wFrz, gN, sIx, sIs, sIsN, sI, sI0, truU, tyOk, tyU, isTruth, L3.isNon, itemsU, listU, ixU, qInt, qAbs, qStr, L3.max_int, start3, L3.kk_nb, L3.kk_nt, L3.kk_ni, L3.kk_ns, L3.kk_nl, L3.kk_bb, L3.kk_bt, L3.kk_bi, L3.kk_bs, L3.kk_bl, L3.kk_ib, L3.kk_it, L3.kk_ii, L3.kk_is, L3.kk_il, L3.kk_sb, L3.kk_st, L3.kk_si, L3.kk_ss, L3.kk_sl, L3.kk_tb, L3.kk_tt, L3.kk_ti, L3.kk_ts, L3.kk_tl, L3.kk_lb, L3.kk_lt, L3.kk_li, L3.kk_ls, L3.kk_ll, L3.at_0, L3.at_1, L3.at_2, L3.at_3, L3.eqA_int, L3.eqA_str, L3.eqA_bl, L3.lt_int, L3.gt_int, L3.le_int, L3.ge_int, L3.lt_str, L3.gt_str, L3.le_str, L3.ge_str, L3.add_int, L3.add_str, L3.exd, L3.exd0, L3.exd1, L3.exd2, L3.exd3, L3.exd4, L3.min_int, L3.min_str, L3.len_str, L3.len_lst, L3.len_tup]
      refine hN _ _ ⟨?_, rfl⟩
      rw [tk.1 (hb.mp rfl)]
    | false =>
      simp [wSeq, wIfS, wRet, wRetN, wNext, wDrop, wAsg, wAug, wBreak, wCont, wV, wC, wB, L3.wTru, L3.wNot, wAnd, wOr, wAndV, wOrV, wNotV, L3.wIf, wNeg, wOp, wCall, wQ, wML, wNil, wCons, wTup, wLst, wLstM, wIsi, wSl, wPart, wNoPart, wMinD, wJoin, wFrz, gN, sIx, sIs, sIsN, sI, sI0, truU, tyOk, tyU, isTruth, L3.isNon, itemsU, listU, ixU, qInt, qAbs, qStr, L3.max_int, start3, L3.kk_nb, L3.kk_nt, L3.kk_ni, L3.kk_ns, L3.kk_nl, L3.kk_bb, L3.kk_bt, L3.kk_bi, L3.kk_bs, L3.kk_bl, L3.kk_ib, L3.kk_it, L3.kk_ii, L3.kk_is, L3.kk_il, L3.kk_sb, L3.kk_st, L3.kk_si, L3.kk_ss, L3.kk_sl, L3.kk_tb, L3.kk_tt, L3.kk_ti, L3.kk_ts, L3.kk_tl, L3.kk_lb, L3.kk_lt, L3.kk_li, L3.kk_ls, L3.kk_ll, L3.at_0, L3.at_1, L3.at_2, L3.at_3, L3.eqA_int, L3.eqA_str, L3.eqA_bl, L3.lt_int, L3.gt_int, L3.le_int, L3.ge_int, L3.lt_str, L3.gt_str, L3.le_str, L3.ge_str, L3.add_int, L3.add_str, L3.exd, L3.exd0, L3.exd1, L3.exd2, L3.exd3, L3.exd4, L3.min_int, L3.min_str, L3.len_str, L3.len_lst, L3.len_tup, wStar]
      refine ⟨by decide, pe (s, false) :: pd p, rfl, ?_, ?_, hN _ _ ⟨?_, rfl⟩⟩
      · rw [List.length_cons, pd_len]
        exact L3.sl0 (by omega)
      · rw [cz_len]
        omega
      · rw [tk.2 (fun h => by cases hb.mpr h)]
        simp [cz, pd]
  · subst h1 h2
    rw [cz_len, List.take_length]
    exact fun p hp => q A p2 p hA hp2 hp
theorem causes_ok (D : Dn K mg "_causes" s_p__causes) (D3 : Dn K mg "_is_cause" s_p__is_cause) (E0 : Dn K mg "part_condition" s_p_part_condition) (E1 : Dn K mg "implies" s_p_implies) (D0 : Dn K mg "both" s_p_both) (D1 : Dn K mg "_side" s_p__side) (D2 : Dn K mg "_node" s_p__node) (m1 : mg "isinstance" = none) (m2 : mg "tuple" = none) (m3 : mg "min" = none) : ∀ n, n ≤ 5 → C8.Cal P w K mg base (n + 14) "_causes" (sp3 K (S_cz n)) []
  | 0, _ => cal_p__causes D (c_p__causes := z_p__causes D) (h_p__causes := Nat.zero_le _) (c_p_both := both_ok D0 D1 D2 m1 m2 m3 10) (h_p_both := by omega) (c_p__is_cause := ic_ok D3 E0 E1 D0 D1 D2 m1 m2 m3) (h_p__is_cause := Nat.le_refl _) (m_isinstance := m1) (m_tuple := m2) (len := len_cz) (h := fun us μ Q ⟨names, row, e, hn, hs, hk, hl, q⟩ => by
    subst e
    have hn := List.length_eq_zero_iff.mp (Nat.le_zero.mp hn)
    subst hn
    have e : form [] row = .lit (row.headD false) := rfl
    rw [e] at q ⊢
    generalize row.headD false = b at q ⊢
    simp [wSeq, wIfS, wRet, wRetN, wNext, wDrop, wAsg, wAug, wBreak, wCont, wV, wC, wB, L3.wTru, L3.wNot, wAnd, wOr, wAndV, wOrV, wNotV, L3.wIf, wNeg, wOp, wCall, wQ, wML, wNil, wCons, wTup, wLst, wLstM, wIsi, wSl, wPart, wNoPart, wMinD, wJoin, wFrz, gN, sIx, sIs, sIsN, sI, sI0, truU, tyOk, tyU, isTruth, L3.isNon, itemsU, listU, ixU, qInt, qAbs, qStr, L3.max_int, start3, L3.kk_nb, L3.kk_nt, L3.kk_ni, L3.kk_ns, L3.kk_nl, L3.kk_bb, L3.kk_bt, L3.kk_bi, L3.kk_bs, L3.kk_bl, L3.kk_ib, L3.kk_it, L3.kk_ii, L3.kk_is, L3.kk_il, L3.kk_sb, L3.kk_st, L3.kk_si, L3.kk_ss, L3.kk_sl, L3.kk_tb, L3.kk_tt, L3.kk_ti, L3.kk_ts, L3.kk_tl, L3.kk_lb, L3.kk_lt, L3.kk_li, L3.kk_ls, L3.kk_ll, L3.at_0, L3.at_1, L3.at_2, L3.at_3, L3.eqA_int, L3.eqA_str, L3.eqA_bl, L3.lt_int, L3.gt_int, L3.le_int, L3.ge_int, L3.lt_str, L3.gt_str, L3.le_str, L3.ge_str, L3.add_int, L3.add_str, L3.exd, L3.exd0, L3.exd1, L3.exd2, L3.exd3, L3.exd4, L3.min_int, L3.min_str, L3.len_str, L3.len_lst, L3.len_tup, W_p__causes, T.d]
    cases b with
    | true =>
      simp [wSeq, wIfS, wRet, wRetN, wNext, wDrop, wAsg, wAug, wBreak, wCont, wV, wC, wB, L3.wTru, L3.wNot, wAnd, wOr, wAndV, wOrV, wNotV, L3.wIf, wNeg, wOp, wCall, wQ, wML, wNil, wCons, wTup, wLst, wLstM, wIsi, wSl, wPart, wNoPart, wMinD, wJoin, wFrz, gN, sIx, sIs, sIsN, sI, sI0, truU, tyOk, tyU, isTruth, L3.isNon, itemsU, listU, ixU, qInt, qAbs, qStr, L3.max_int, start3, L3.kk_nb, L3.kk_nt, L3.kk_ni, L3.kk_ns, L3.kk_nl, L3.kk_bb, L3.kk_bt, L3.kk_bi, L3.kk_bs, L3.kk_bl, L3.kk_ib, L3.kk_it, L3.kk_ii, L3.kk_is, L3.kk_il, L3.kk_sb, L3.kk_st, L3.kk_si, L3.kk_ss, L3.kk_sl, L3.kk_tb, L3.kk_tt, L3.kk_ti, L3.kk_ts, L3.kk_tl, L3.kk_lb, L3.kk_lt, L3.kk_li, L3.kk_ls, L3.kk_ll, L3.at_0, L3.at_1, L3.at_2, L3.at_3, L3.eqA_int, L3.eqA_str, L3.eqA_bl, L3.lt_int, L3.gt_int, L3.le_int, L3.ge_int, L3.lt_str, L3.gt_str, L3.le_str, L3.ge_str, L3.add_int, L3.add_str, L3.exd, L3.exd0, L3.exd1, L3.exd2, L3.exd3, L3.exd4, L3.min_int, L3.min_str, L3.len_str, L3.len_lst, L3.len_tup]
      exact ⟨by decide, fun p hp => rtE (q _ p cs_true hp)⟩
    | false =>
      simp [wSeq, wIfS, wRet, wRetN, wNext, wDrop, wAsg, wAug, wBreak, wCont, wV, wC, wB, L3.wTru, L3.wNot, wAnd, wOr, wAndV, wOrV, wNotV, L3.wIf, wNeg, wOp, wCall, wQ, wML, wNil, wCons, wTup, wLst, wLstM, wIsi, wSl, wPart, wNoPart, wMinD, wJoin, wFrz, gN, sIx, sIs, sIsN, sI, sI0, truU, tyOk, tyU, isTruth, L3.isNon, itemsU, listU, ixU, qInt, qAbs, qStr, L3.max_int, start3, L3.kk_nb, L3.kk_nt, L3.kk_ni, L3.kk_ns, L3.kk_nl, L3.kk_bb, L3.kk_bt, L3.kk_bi, L3.kk_bs, L3.kk_bl, L3.kk_ib, L3.kk_it, L3.kk_ii, L3.kk_is, L3.kk_il, L3.kk_sb, L3.kk_st, L3.kk_si, L3.kk_ss, L3.kk_sl, L3.kk_tb, L3.kk_tt, L3.kk_ti, L3.kk_ts, L3.kk_tl, L3.kk_lb, L3.kk_lt, L3.kk_li, L3.kk_ls, L3.kk_ll, L3.at_0, L3.at_1, L3.at_2, L3.at_3, L3.eqA_int, L3.eqA_str, L3.eqA_bl, L3.lt_int, L3.gt_int, L3.le_int, L3.ge_int, L3.lt_str, L3.gt_str, L3.le_str, L3.ge_str, L3.add_int, L3.add_str, L3.exd, L3.exd0, L3.exd1, L3.exd2, L3.exd3, L3.exd4, L3.min_int, L3.min_str, L3.len_str, L3.len_lst, L3.len_tup]
      exact fun p hp => rtE (q _ p cs_false hp))
  | n + 1, h5 => cal_p__causes D (c_p__causes := causes_ok D D3 E0 E1 D0 D1 D2 m1 m2 m3 n (by omega)) (h_p__causes := by omega) (c_p_both := both_ok D0 D1 D2 m1 m2 m3 10) (h_p_both := by omega) (c_p__is_cause := ic_ok D3 E0 E1 D0 D1 D2 m1 m2 m3) (h_p__is_cause := by omega) (m_isinstance := m1) (m_tuple := m2) (len := len_cz) (h := fun us μ Q ⟨names, row, e, hn, hs, hk, hl, q⟩ => by
    subst e
    have nm := form_nm (row := row) hk
    have ok := (form_ab (row := row) hs).1
    have hh := form_h (names := names) (row := row)
    cases hc : form names row with
    | lit b =>
      rw [hc] at q
      simp [wSeq, wIfS, wRet, wRetN, wNext, wDrop, wAsg, wAug, wBreak, wCont, wV, wC, wB, L3.wTru, L3.wNot, wAnd, wOr, wAndV, wOrV, wNotV, L3.wIf, wNeg, wOp, wCall, wQ, wML, wNil, wCons, wTup, wLst, wLstM, wIsi, wSl, wPart, wNoPart, wMinD, wJoin, wFrz, gN, sIx, sIs, sIsN, sI, sI0, truU, tyOk, tyU, isTruth, L3.isNon, itemsU, listU, ixU, qInt, qAbs, qStr, L3.max_int, start3, L3.kk_nb, L3.kk_nt, L3.kk_ni, L3.kk_ns, L3.kk_nl, L3.kk_bb, L3.kk_bt, L3.kk_bi, L3.kk_bs, L3.kk_bl, L3.kk_ib, L3.kk_it, L3.kk_ii, L3.kk_is, L3.kk_il, L3.kk_sb, L3.kk_st, L3.kk_si, L3.kk_ss, L3.kk_sl, L3.kk_tb, L3.kk_tt, L3.kk_ti, L3.kk_ts, L3.kk_tl, L3.kk_lb, L3.kk_lt, L3.kk_li, L3.kk_ls, L3.kk_ll, L3.at_0, L3.at_1, L3.at_2, L3.at_3, L3.eqA_int, L3.eqA_str, L3.eqA_bl, L3.lt_int, L3.gt_int, L3.le_int, L3.ge_int, L3.lt_str, L3.gt_str, L3.le_str, L3.ge_str, L3.add_int, L3.add_str, L3.exd, L3.exd0, L3.exd1, L3.exd2, L3.exd3, L3.exd4, L3.min_int, L3.min_str, L3.len_str, L3.len_lst, L3.len_tup, W_p__causes, T.d]
      cases b with
      | true =>
        simp [wSeq, wIfS, wRet, wRetN, wNext, wDrop, wAsg, wAug, wBreak, wCont, wV, wC, wB, L3.wTru, L3.wNot, wAnd, wOr, wAndV, wOrV, wNotV, L3.wIf, wNeg, wOp, wCall, wQ, wML, wNil, wCons, wTup, wLst, wLstM, wIsi, wSl, wPart, wNoPart, wMinD, wJoin, wFrz, gN, sIx, sIs, sIsN, sI, sI0, truU, tyOk, tyU, isTruth, L3.isNon, itemsU, listU, ixU, qInt, qAbs, qStr, L3.max_int, start3, L3.kk_nb, L3.kk_nt, L3.kk_ni, L3.kk_ns, L3.kk_nl, L3.kk_bb, L3.kk_bt, L3.kk_bi, L3.kk_bs, L3.kk_bl, L3.kk_ib, L3.kk_it, L3.kk_ii, L3.kk_is, L3.kk_il, L3.kk_sb, L3.kk_st, L3.kk_si, L3.kk_ss, L3.kk_sl, L3.kk_tb, L3.kk_tt, L3.kk_ti, L3.kk_ts, L3.kk_tl, L3.kk_lb, L3.kk_lt, L3.kk_li, L3.kk_ls, L3.kk_ll, L3.at_0, L3.at_1, L3.at_2, L3.at_3, L3.eqA_int, L3.eqA_str, L3.eqA_bl, L3.lt_int, L3.gt_int, L3.le_int, L3.ge_int, L3.lt_str, L3.gt_str, L3.le_str, L3.ge_str, L3.add_int, L3.add_str, L3.exd, L3.exd0, L3.exd1, L3.exd2, L3.exd3, L3.exd4, L3.min_int, L3.min_str, L3.len_str, L3.len_lst, L3.len_tup]
        exact ⟨by decide, fun p hp => rtE (q _ p cs_true hp)⟩
      | false =>
        simp [wSeq, wIfS, wRet, wRetN, wNext, wDrop, wAsg, wAug, wBreak, wCont, wV, wC, wB, L3.wTru, L3.wNot, wAnd, wOr, wAndV, wOrV, wNotV, L3.wIf, wNeg, wOp, wCall, wQ, wML, wNil, wCons, wTup, wLst, wLstM, wIsi, wSl, wPart, wNoPart, wMinD, wJoin, wFrz, gN, sIx, sIs, sIsN, sI, sI0, truU, tyOk, tyU, isTruth, L3.isNon, itemsU, listU, ixU, qInt, qAbs, qStr, L3.max_int, start3, L3.kk_nb, L3.kk_nt, L3.kk_ni, L3.kk_ns, L3.kk_nl, L3.kk_bb, L3.kk_bt, L3.kk_bi, L3.kk_bs, L3.kk_bl, L3.kk_ib, L3.kk_it, L3.kk_ii, L3.kk_is, L3.kk_il, L3.kk_sb, L3.kk_st, L3.kk_si, L3.kk_ss, L3.kk_sl, L3.kk_tb, L3.kk_tt, L3.kk_ti, L3.kk_ts, L3.kk_tl, L3.kk_lb, L3.kk_lt, L3.kk_li, L3.kk_ls, L3.kk_ll, L3.at_0, L3.at_1, L3.at_2, L3.at_3, L3.eqA_int, L3.eqA_str, L3.eqA_bl, L3.lt_int, L3.gt_int, L3.le_int, L3.ge_int, L3.lt_str, L3.gt_str, L3.le_str, L3.ge_str, L3.add_int, L3.add_str, L3.exd, L3.exd0, L3.exd1, L3.exd2, L3.exd3, L3.exd4, L3.min_int, L3.min_str, L3.len_str, L3.len_lst, L3.len_tup]
        exact fun p hp => rtE (q _ p cs_false hp)
    | nd s a b =>
      obtain ⟨xs, r1, r0, g1, g2, g3, g4, g5, rfl, rfl, g8⟩ := Cn.form_nd hs hl hc
      rw [hc] at q nm ok hh
      have ha := form_h (names := xs) (row := r1)
      have hb := form_h (names := xs) (row := r0)
      simp [wSeq, wIfS, wRet, wRetN, wNext, wDrop, wAsg, wAug, wBreak, wCont, wV, wC, wB, L3.wTru, L3.wNot, wAnd, wOr, wAndV, wOrV, wNotV, L3.wIf, wNeg, wOp, wCall, wQ, wML, wNil, wCons, wTup, wLst, wLstM, wIsi, wSl, wPart, wNoPart, wMinD, wJoin, wFrz, gN, sIx, sIs, sIsN, sI, sI0, truU, tyOk, tyU, isTruth, L3.isNon, itemsU, listU, ixU, qInt, qAbs, qStr, L3.max_int, start3, L3.kk_nb, L3.kk_nt, L3.kk_ni, L3.kk_ns, L3.kk_nl, L3.kk_bb, L3.kk_bt, L3.kk_bi, L3.kk_bs, L3.kk_bl, L3.kk_ib, L3.kk_it, L3.kk_ii, L3.kk_is, L3.kk_il, L3.kk_sb, L3.kk_st, L3.kk_si, L3.kk_ss, L3.kk_sl, L3.kk_tb, L3.kk_tt, L3.kk_ti, L3.kk_ts, L3.kk_tl, L3.kk_lb, L3.kk_lt, L3.kk_li, L3.kk_ls, L3.kk_ll, L3.at_0, L3.at_1, L3.at_2, L3.at_3, L3.eqA_int, L3.eqA_str, L3.eqA_bl, L3.lt_int, L3.gt_int, L3.le_int, L3.ge_int, L3.lt_str, L3.gt_str, L3.le_str, L3.ge_str, L3.add_int, L3.add_str, L3.exd, L3.exd0, L3.exd1, L3.exd2, L3.exd3, L3.exd4, L3.min_int, L3.min_str, L3.len_str, L3.len_lst, L3.len_tup, W_p__causes, T.d]
      refine ⟨_, rfl, rfl, _, _, rfl, _, _, rfl, _, _, rfl, ?_⟩
      simp [wSeq, wIfS, wRet, wRetN, wNext, wDrop, wAsg, wAug, wBreak, wCont, wV, wC, wB, L3.wTru, L3.wNot, wAnd, wOr, wAndV, wOrV, wNotV, L3.wIf, wNeg, wOp, wCall, wQ, wML, wNil, wCons, wTup, wLst, wLstM, wIsi, wSl, wPart, wNoPart, wMinD, wJoin, wFrz, gN, sIx, sIs, sIsN, sI, sI0, truU, tyOk, tyU, isTruth, L3.isNon, itemsU, listU, ixU, qInt, qAbs, qStr, L3.max_int, start3, L3.kk_nb, L3.kk_nt, L3.kk_ni, L3.kk_ns, L3.kk_nl, L3.kk_bb, L3.kk_bt, L3.kk_bi, L3.kk_bs, L3.kk_bl, L3.kk_ib, L3.kk_it, L3.kk_ii, L3.kk_is, L3.kk_il, L3.kk_sb, L3.kk_st, L3.kk_si, L3.kk_ss, L3.kk_sl, L3.kk_tb, L3.kk_tt, L3.kk_ti, L3.kk_ts, L3.kk_tl, L3.kk_lb, L3.kk_lt, L3.kk_li, L3.kk_ls, L3.kk_ll, L3.at_0, L3.at_1, L3.at_2, L3.at_3, L3.eqA_int, L3.eqA_str, L3.eqA_bl, L3.lt_int, L3.gt_int, L3.le_int, L3.ge_int, L3.lt_str, L3.gt_str, L3.le_str, L3.ge_str, L3.add_int, L3.add_str, L3.exd, L3.exd0, L3.exd1, L3.exd2, L3.exd3, L3.exd4, L3.min_int, L3.min_str, L3.len_str, L3.len_lst, L3.len_tup, gT.gGo]
      refine ⟨_, _, rfl, ok.1, ok.2.1, nm.2.1, nm.2.2, by omega, by omega, fun r k => ?_⟩
      obtain ⟨rr, rl, rfl⟩ : ∃ rr : List Bool, rr.length = 2 ^ xs.length ∧ r = form xs rr := by
        obtain ⟨rr, l, e⟩ := Cn.form_and g2 g4 g5 k.ok fun σ => k.ev σ
        exact ⟨rr, l, e⟩
      have gk : ∀ x ∈ xs, PyData.strOk x = true := fun x hx => hk x (g3 x hx)
      refine ⟨xs, rr, rfl, by omega, g2, gk, rl, fun R p1 hR hp1 => ⟨isL_r put_same, ?_⟩⟩
      have big : 1000 < sizeLine := by decide
      have p35 : 3 ^ n ≤ 3 ^ 4 := Nat.pow_le_pow_right (by decide) (by omega)
      have lR := hR.len
      refine up_on rfl (by omega) (by omega) g2 gk g4 ok.2.1 nm.2.2 (by omega) fun A p2 p3 hA hp2 hp3 => ?_
      have lA := Nat.le_trans (csUp_len (s := s) (v := true) (b := form xs r0) (ps := A)) hA.len
      have n12 : p1 ≠ p2 := fun e => by rw [← e, put_same] at hp2; cases hp2
      have n13 : p1 ≠ p3 := fun e => by rw [← e, put_ne n12, put_same] at hp3; cases hp3
      refine ⟨p1, p3, cz R, cz (csUp s true (form xs r0) A), rfl, rfl, by rw [put_ne n13, put_ne n12, put_same], put_same, by rw [cz_len, cz_len]; omega, ?_⟩
      refine ⟨isL_r put_same, ?_⟩
      refine up_off rfl (by omega) (by omega) g2 gk g5 ok.1 nm.2.1 (by omega) fun B p4 p5 hB hp4 hp5 => ?_
      have lB := Nat.le_trans (csUp_len (s := s) (v := false) (b := form xs r1) (ps := B)) hB.len
      have n14 : p1 ≠ p4 := fun e => by rw [← e, put_same] at hp4; cases hp4
      have n15 : p1 ≠ p5 := fun e => by rw [← e, put_ne n14, put_same] at hp5; cases hp5
      refine ⟨p1, p5, cz R ++ cz (csUp s true (form xs r0) A), cz (csUp s false (form xs r1) B), rfl, rfl, by rw [put_ne n15, put_ne n14, put_same], put_same, by rw [List.length_append, cz_len, cz_len, cz_len]; omega, ?_⟩
      refine rtD p5 (rtD p4 (rtD p3 (rtD p2 (rtE ?_))))
      have hs' : PyData.strOk s = true := nm.1
      have fin := cs_nd hs' ok k.ok (k.ab s ok.2.2.1 ok.2.2.2.1) k.ev hR hA hB
      have q := q _ p1 fin hp1
      have e : del (del (del (del (put (put (put (put (put (put (put μ p1 (.lst (cz R))) p2 (.lst (cz A))) p3 (.lst (cz (csUp s true (form xs r0) A)))) p1 (.lst (cz R ++ cz (csUp s true (form xs r0) A)))) p4 (.lst (cz B))) p5 (.lst (cz (csUp s false (form xs r1) B)))) p1 (.lst (cz R ++ cz (csUp s true (form xs r0) A) ++ cz (csUp s false (form xs r1) B)))) p5) p4) p3) p2 = put μ p1 (.lst (cz (R ++ csUp s true (form xs r0) A ++ csUp s false (form xs r1) B))) := by
        have f2 : μ p2 = none := by rw [put_ne n12.symm] at hp2; exact hp2
        have f3 : μ p3 = none ∧ p2 ≠ p3 := by
          have ne : p2 ≠ p3 := fun e => by rw [← e, put_same] at hp3; cases hp3
          rw [put_ne ne.symm, put_ne n13.symm] at hp3; exact ⟨hp3, ne⟩
        have f4 : μ p4 = none ∧ p2 ≠ p4 ∧ p3 ≠ p4 := by
          rw [put_ne n14.symm] at hp4
          have ne3 : p3 ≠ p4 := fun e => by rw [← e, put_same] at hp4; cases hp4
          rw [put_ne ne3.symm] at hp4
          have ne2 : p2 ≠ p4 := fun e => by rw [← e, put_same] at hp4; cases hp4
          rw [put_ne ne2.symm, put_ne n14.symm] at hp4
          exact ⟨hp4, ne2, ne3⟩
        have f5 : μ p5 = none ∧ p2 ≠ p5 ∧ p3 ≠ p5 ∧ p4 ≠ p5 := by
          have ne4 : p4 ≠ p5 := fun e => by rw [← e, put_same] at hp5; cases hp5
          rw [put_ne ne4.symm, put_ne n15.symm] at hp5
          have ne3 : p3 ≠ p5 := fun e => by rw [← e, put_same] at hp5; cases hp5
          rw [put_ne ne3.symm] at hp5
          have ne2 : p2 ≠ p5 := fun e => by rw [← e, put_same] at hp5; cases hp5
          rw [put_ne ne2.symm, put_ne n15.symm] at hp5
          exact ⟨hp5, ne2, ne3, ne4⟩
        funext z
        by_cases z1 : z = p1
        · subst z1
          simp [del, put, n12, n13, n14, n15, cz]
        · by_cases z2 : z = p2
          · subst z2
            simp [del, put, z1, f2]
          · by_cases z3 : z = p3
            · subst z3
              simp [del, put, z1, z2, f3.1]
            · by_cases z4 : z = p4
              · subst z4
                simp [del, put, z1, z2, z3, f4.1]
              · by_cases z5 : z = p5
                · subst z5
                  simp [del, put, z1, z2, z3, z4, f5.1]
                · simp [del, put, z1, z2, z3, z4, z5]
      rw [e]
      exact q)
/-! ### least_causes -/
def S_lc : WF := fun us μ Q => ∃ (names : List Str) (row : List Bool), us = [.d (form names row).d] ∧ names.length ≤ 5 ∧ Srt names ∧ (∀ x ∈ names, PyData.strOk x = true) ∧ row.length = 2 ^ names.length ∧ ∀ ps, Cs 5 (form names row) ps → Q (.d (.tuple (sortD (ps.map fun p => .tuple (pd p))))) μ
theorem alike_pd : ∀ p q : Part, PySem.W.alikeAll (pd p) (pd q) = true
  | [], _ => by simp [pd, PySem.W.alikeAll]
  | _ :: _, [] => by simp [pd, PySem.W.alikeAll]
  | e :: p, f :: q => by
    have := alike_pd p q
    simp only [pd] at this
    simp [pd, pe, PySem.W.alikeAll, PySem.W.alike, this]
theorem alike_parts (ps : List Part) : PySem.W.AllAlike (ps.map fun p => PyData.tuple (pd p)) := fun d hd d' hd' => by
  obtain ⟨p, _, rfl⟩ := List.mem_map.mp hd
  obtain ⟨q, _, rfl⟩ := List.mem_map.mp hd'
  simp only [PySem.W.alike]
  exact alike_pd p q
theorem depth_pd : ∀ p : Part, PyData.depthAll (pd p) ≤ 1
  | [] => by simp [pd, PyData.depthAll]
  | e :: p => by
    have := depth_pd p
    simp only [pd] at this
    simp only [pd, pe, List.map_cons, PyData.depthAll, PyData.depth]
    omega
theorem parts_sort {n : Nat} {c : T} {ps : List Part} (h : Cs n c ps) : ((ps.map fun p => PyData.tuple (pd p)).length ≤ 1 ∨ PySem.W.AllAlike (ps.map fun p => PyData.tuple (pd p)) ∧ PySem.W.Sortable (ps.map fun p => PyData.tuple (pd p))) ∧ ∀ d ∈ ps.map fun p => PyData.tuple (pd p), d.depth ≤ 8 := by
  constructor
  · by_cases hn : [] ∈ ps
    · left
      have k := (h.mem _).mp hn
      have all : ∀ p ∈ ps, p = [] := fun p hp => (((h.mem _).mp hp).mn [] (List.nil_sublist _) k.im).symm
      rw [List.length_map]
      match ps, h.nd, all with
      | [], _, _ => exact Nat.zero_le _
      | [_], _, _ => exact Nat.le_refl _
      | a :: b :: _, nd, all =>
        have e1 := all a (by simp)
        have e2 := all b (by simp)
        subst e1 e2
        simp at nd
    · right
      refine ⟨alike_parts ps, .inl fun d hd => ?_⟩
      obtain ⟨p, hp, rfl⟩ := List.mem_map.mp hd
      cases p with
      | nil => exact absurd hp hn
      | cons e q => exact ⟨_, _, rfl⟩
  · intro d hd
    obtain ⟨p, hp, rfl⟩ := List.mem_map.mp hd
    have := depth_pd p
    simp only [PyData.depth]
    omega
theorem lc_ok (D4 : Dn K mg "least_causes" s_p_least_causes) (D : Dn K mg "_causes" s_p__causes) (D3 : Dn K mg "_is_cause" s_p__is_cause) (E0 : Dn K mg "part_condition" s_p_part_condition) (E1 : Dn K mg "implies" s_p_implies) (D0 : Dn K mg "both" s_p_both) (D1 : Dn K mg "_side" s_p__side) (D2 : Dn K mg "_node" s_p__node) (m1 : mg "isinstance" = none) (m2 : mg "tuple" = none) (m3 : mg "min" = none) (m4 : mg "sorted" = none) : C8.Cal P w K mg base 20 "least_causes" (sp3 K S_lc) [] :=
  cal_p_least_causes D4 (c_p__causes := causes_ok D D3 E0 E1 D0 D1 D2 m1 m2 m3 5 (Nat.le_refl _)) (h_p__causes := Nat.le_refl _) (m_sorted := m4) (m_tuple := m2) (len := fun us μ Q ⟨_, _, e, _⟩ => by rw [e]; rfl) (h := fun us μ Q ⟨names, row, e, hn, hs, hk, hl, q⟩ => by
    subst e
    simp [wSeq, wIfS, wRet, wRetN, wNext, wDrop, wAsg, wAug, wBreak, wCont, wV, wC, wB, L3.wTru, L3.wNot, wAnd, wOr, wAndV, wOrV, wNotV, L3.wIf, wNeg, wOp, wCall, wQ, wML, wNil, wCons, wTup, wLst, wLstM, wIsi, wSl, wPart, wNoPart, wMinD, wJoin, wFrz, gN, sIx, sIs, sIsN, sI, sI0, truU, tyOk, tyU, isTruth, L3.isNon, itemsU, listU, ixU, qInt, qAbs, qStr, L3.max_int, start3, L3.kk_nb, L3.kk_nt, L3.kk_ni, L3.kk_ns, L3.kk_nl, L3.kk_bb, L3.kk_bt, L3.kk_bi, L3.kk_bs, L3.kk_bl, L3.kk_ib, L3.kk_it, L3.kk_ii, L3.kk_is, L3.kk_il, L3.kk_sb, L3.kk_st, L3.kk_si, L3.kk_ss, L3.kk_sl, L3.kk_tb, L3.kk_tt, L3.kk_ti, L3.kk_ts, L3.kk_tl, L3.kk_lb, L3.kk_lt, L3.kk_li, L3.kk_ls, L3.kk_ll, L3.at_0, L3.at_1, L3.at_2, L3.at_3, L3.eqA_int, L3.eqA_str, L3.eqA_bl, L3.lt_int, L3.gt_int, L3.le_int, L3.ge_int, L3.lt_str, L3.gt_str, L3.le_str, L3.ge_str, L3.add_int, L3.add_str, L3.exd, L3.exd0, L3.exd1, L3.exd2, L3.exd3, L3.exd4, L3.min_int, L3.min_str, L3.len_str, L3.len_lst, L3.len_tup, W_p_least_causes]
    refine ⟨names, row, rfl, hn, hs, hk, hl, fun ps p hps hp => ?_⟩
    have so := parts_sort hps
    refine ⟨.r p, ps.map fun p => .tuple (pd p), rfl, by simp [listU, put_same, cz, List.map_map], so.1, so.2, ?_⟩
    refine ⟨_, _, rfl, rfl, rtD p (rtE ?_)⟩
    rw [del_put hp]
    exact q ps hps)
end
end K04

namespace K04
open PySem PySem.Spec PyProof.Rows L2 L3 Cn
section
variable {P : Program} {w : World} {K : Fg} {mg : Str → Option Value} {base : Heap}
theorem all_succ {a b : List Bool} {k : Nat} : (∀ m, m < k + 1 → lk a m = true → lk b m = true) ↔ (∀ m, m < k → lk a m = true → lk b m = true) ∧ (lk a k = true → lk b k = true) :=
  ⟨fun h => ⟨fun m hm => h m (by omega), h k (by omega)⟩, fun ⟨h1, h2⟩ m hm => by
    rcases Nat.lt_succ_iff_lt_or_eq.mp hm with q | q
    · exact h1 m q
    · subst q; exact h2⟩
/-! ### openings -/
def oc : Option Bool → Int
  | some false => 0
  | some true => 1
  | none => 2
def oi (o : Op) : List PyData := o.map fun v => .int (oc v)
def od (l : List Op) : List PyData := l.map fun o => .list (oi o)
theorem oi_len {o : Op} : (oi o).length = o.length := List.length_map _
theorem od_len {l : List Op} : (od l).length = l.length := List.length_map _
theorem lc_app {v : Option Bool} {z : Int} {L : List Op} {Al : Mu → Prop} {a b c d : Option U} {μ : Mu} {R : List U → Mu → Prop} (hz : oc v = z) (hL : L.length ≤ 1000) (hl : ∀ o ∈ L, o.length ≤ 10) (al : Al μ) (fin : R ((od (L.map (· ++ [v]))).map U.d) μ) :
    lcGo (gN 3) wYes (wOp sAdd (wV 3) (wLst (wCons (wC (.int z)) wNil))) Al ((od L).map U.d) [] [a, b, c, d] μ R := by
  have big : 1000 < sizeLine := by decide
  refine lc_map (fun j => (od (L.map (· ++ [v]))).getD j .none) (by rw [List.length_map, od_len]; omega) al (fun i hi N hN => ?_) ?_
  · have hi : i < L.length := by simpa [od_len] using hi
    have e3 : ((od L).map U.d)[i] = .d (.list (oi L[i])) := by simp [od]
    have e4 : (od (L.map (· ++ [v]))).getD i .none = .list (oi L[i] ++ [.int z]) := by simp [od, hi, oi, hz]
    rw [e3]
    rw [e4] at hN
    simp [wSeq, wIfS, wRet, wRetN, wNext, wDrop, wAsg, wAug, wBreak, wCont, wV, wC, wB, L3.wTru, L3.wNot, wAnd, wOr, wAndV, wOrV, wNotV, L3.wIf, wNeg, wOp, wCall, wQ, wML, wNil, wCons, wTup, wLst, wLstM, wIsi, wSl, wPart, wNoPart, wMinD, wJoin, wFrz, gN, sIx, sIs, sIsN, sI, sI0, truU, tyOk, tyU, isTruth, L3.isNon, itemsU, listU, ixU, qInt, qAbs, qStr, L3.max_int, start3, L3.kk_nb, L3.kk_nt, L3.kk_ni, L3.kk_ns, L3.kk_nl, L3.kk_bb, L3.kk_bt, L3.kk_bi, L3.kk_bs, L3.kk_bl, L3.kk_ib, L3.kk_it, L3.kk_ii, L3.kk_is, L3.kk_il, L3.kk_sb, L3.kk_st, L3.kk_si, L3.kk_ss, L3.kk_sl, L3.kk_tb, L3.kk_tt, L3.kk_ti, L3.kk_ts, L3.kk_tl, L3.kk_lb, L3.kk_lt, L3.kk_li, L3.kk_ls, L3.kk_ll, L3.at_0, L3.at_1, L3.at_2, L3.at_3, L3.eqA_int, L3.eqA_str, L3.eqA_bl, L3.lt_int, L3.gt_int, L3.le_int, L3.ge_int, L3.lt_str, L3.gt_str, L3.le_str, L3.ge_str, L3.add_int, L3.add_str, L3.exd, L3.exd0, L3.exd1, L3.exd2, L3.exd3, L3.exd4, L3.min_int, L3.min_str, L3.len_str, L3.len_lst, L3.len_tup]
    refine ⟨by decide, add_lst ?_ hN⟩
    have := hl L[i] (List.getElem_mem hi)
    rw [oi_len]
    simp
    omega
  · rw [List.length_map, od_len, show L.length = (od (L.map (· ++ [v]))).length by simp [od], range_getD]
    exact fin
def S_op : WF := fun us μ Q => ∃ n : Nat, us = [.d (.int (n : Int))] ∧ n ≤ 5 ∧ Q (.d (.list (od (ops n)))) μ
theorem openings_ok (D : Dn K mg "_law_openings" s_l_openings) (m1 : mg "range" = none) : C8.Cal P w K mg base 1 "_law_openings" (sp3 K S_op) [] :=
  cal_l_openings D (m_range := m1) (len := fun us μ Q ⟨_, e, _⟩ => by rw [e]; rfl) (h := fun us μ Q ⟨n, e, hn, q⟩ => by
    subst e
    have big : 1000 < sizeLine := by decide
    simp [wSeq, wIfS, wRet, wRetN, wNext, wDrop, wAsg, wAug, wBreak, wCont, wV, wC, wB, L3.wTru, L3.wNot, wAnd, wOr, wAndV, wOrV, wNotV, L3.wIf, wNeg, wOp, wCall, wQ, wML, wNil, wCons, wTup, wLst, wLstM, wIsi, wSl, wPart, wNoPart, wMinD, wJoin, wFrz, gN, sIx, sIs, sIsN, sI, sI0, truU, tyOk, tyU, isTruth, L3.isNon, itemsU, listU, ixU, qInt, qAbs, qStr, L3.max_int, start3, L3.kk_nb, L3.kk_nt, L3.kk_ni, L3.kk_ns, L3.kk_nl, L3.kk_bb, L3.kk_bt, L3.kk_bi, L3.kk_bs, L3.kk_bl, L3.kk_ib, L3.kk_it, L3.kk_ii, L3.kk_is, L3.kk_il, L3.kk_sb, L3.kk_st, L3.kk_si, L3.kk_ss, L3.kk_sl, L3.kk_tb, L3.kk_tt, L3.kk_ti, L3.kk_ts, L3.kk_tl, L3.kk_lb, L3.kk_lt, L3.kk_li, L3.kk_ls, L3.kk_ll, L3.at_0, L3.at_1, L3.at_2, L3.at_3, L3.eqA_int, L3.eqA_str, L3.eqA_bl, L3.lt_int, L3.gt_int, L3.le_int, L3.ge_int, L3.lt_str, L3.gt_str, L3.le_str, L3.ge_str, L3.add_int, L3.add_str, L3.exd, L3.exd0, L3.exd1, L3.exd2, L3.exd3, L3.exd4, L3.min_int, L3.min_str, L3.len_str, L3.len_lst, L3.len_tup, W_l_openings, wFor, jRng1]
    refine ⟨by decide, by omega, ?_⟩
    refine forGo_inv (fun j ρ μ' => ∃ x : Option U, ρ = [some (.d (.int (n : Int))), some (.d (.list (od (ops j)))), x, none] ∧ μ' = μ) ⟨none, rfl, rfl⟩ (fun _ _ _ _ => trivial) (fun j hj ρ μ' N ⟨x, h1, h2⟩ hN => ?_) (fun ρ μ' ⟨x, h1, h2⟩ => ?_)
    · subst h1 h2
      have hj : j < n := by simpa using hj
      have lo := ops_len j
      have p3 : 3 ^ j ≤ 3 ^ 4 := Nat.pow_le_pow_right (by decide) (by omega)
      have lm : ∀ o ∈ ops j, o.length ≤ 10 := fun o ho => by rw [mem_ops.mp ho]; omega
      simp [wSeq, wIfS, wRet, wRetN, wNext, wDrop, wAsg, wAug, wBreak, wCont, wV, wC, wB, L3.wTru, L3.wNot, wAnd, wOr, wAndV, wOrV, wNotV, L3.wIf, wNeg, wOp, wCall, wQ, wML, wNil, wCons, wTup, wLst, wLstM, wIsi, wSl, wPart, wNoPart, wMinD, wJoin, wFrz, gN, sIx, sIs, sIsN, sI, sI0, truU, tyOk, tyU, isTruth, L3.isNon, itemsU, listU, ixU, qInt, qAbs, qStr, L3.max_int, start3, L3.kk_nb, L3.kk_nt, L3.kk_ni, L3.kk_ns, L3.kk_nl, L3.kk_bb, L3.kk_bt, L3.kk_bi, L3.kk_bs, L3.kk_bl, L3.kk_ib, L3.kk_it, L3.kk_ii, L3.kk_is, L3.kk_il, L3.kk_sb, L3.kk_st, L3.kk_si, L3.kk_ss, L3.kk_sl, L3.kk_tb, L3.kk_tt, L3.kk_ti, L3.kk_ts, L3.kk_tl, L3.kk_lb, L3.kk_lt, L3.kk_li, L3.kk_ls, L3.kk_ll, L3.at_0, L3.at_1, L3.at_2, L3.at_3, L3.eqA_int, L3.eqA_str, L3.eqA_bl, L3.lt_int, L3.gt_int, L3.le_int, L3.ge_int, L3.lt_str, L3.gt_str, L3.le_str, L3.ge_str, L3.add_int, L3.add_str, L3.exd, L3.exd0, L3.exd1, L3.exd2, L3.exd3, L3.exd4, L3.min_int, L3.min_str, L3.len_str, L3.len_lst, L3.len_tup, wLc, jSeq, wipeR]
      refine lc_app (v := some false) rfl (by omega) lm trivial ⟨_, rfl, ?_⟩
      refine lc_app (v := some true) rfl (by omega) lm trivial ⟨_, rfl, add_lst (by simp [od]; omega) ?_⟩
      refine lc_app (v := none) rfl (by omega) lm trivial ⟨_, rfl, add_lst (by simp [od]; omega) ?_⟩
      refine hN _ _ ⟨some (.d (.int (j : Int))), ?_, rfl⟩
      simp [od, ops]
    · subst h1 h2
      simp [wSeq, wIfS, wRet, wRetN, wNext, wDrop, wAsg, wAug, wBreak, wCont, wV, wC, wB, L3.wTru, L3.wNot, wAnd, wOr, wAndV, wOrV, wNotV, L3.wIf, wNeg, wOp, wCall, wQ, wML, wNil, wCons, wTup, wLst, wLstM, wIsi, wSl, wPart, wNoPart, wMinD, wJoin, wFrz, gN, sIx, sIs, sIsN, sI, sI0, truU, tyOk, tyU, isTruth, L3.isNon, itemsU, listU, ixU, qInt, qAbs, qStr, L3.max_int, start3, L3.kk_nb, L3.kk_nt, L3.kk_ni, L3.kk_ns, L3.kk_nl, L3.kk_bb, L3.kk_bt, L3.kk_bi, L3.kk_bs, L3.kk_bl, L3.kk_ib, L3.kk_it, L3.kk_ii, L3.kk_is, L3.kk_il, L3.kk_sb, L3.kk_st, L3.kk_si, L3.kk_ss, L3.kk_sl, L3.kk_tb, L3.kk_tt, L3.kk_ti, L3.kk_ts, L3.kk_tl, L3.kk_lb, L3.kk_lt, L3.kk_li, L3.kk_ls, L3.kk_ll, L3.at_0, L3.at_1, L3.at_2, L3.at_3, L3.eqA_int, L3.eqA_str, L3.eqA_bl, L3.lt_int, L3.gt_int, L3.le_int, L3.ge_int, L3.lt_str, L3.gt_str, L3.le_str, L3.ge_str, L3.add_int, L3.add_str, L3.exd, L3.exd0, L3.exd1, L3.exd2, L3.exd3, L3.exd4, L3.min_int, L3.min_str, L3.len_str, L3.len_lst, L3.len_tup]
      exact rtE q)
/-! ### inside -/
theorem lc_and {v : Option Bool} {z : Int} {w : Option Bool} {T : List Bool} {Al : Mu → Prop} {a b d : Option U} {μ : Mu} {R : List U → Mu → Prop} (hz : (oc v = z) ↔ v = w) (hL : T.length ≤ 1000) (al : Al μ) (fin : R ((bl (T.map fun t => t && decide (v ≠ w))).map U.d) μ) :
    lcGo (gN 3) wYes (wAndV (wV 3) (wOp (sEqA not) (wV 2) (wC (.int z)))) Al ((bl T).map U.d) [] [a, b, some (.d (.int (oc v))), d] μ R := by
  have big : 1000 < sizeLine := by decide
  refine lc_map (fun j => (bl (T.map fun t => t && decide (v ≠ w))).getD j .none) (by rw [List.length_map, bl_len]; omega) al (fun i hi N hN => ?_) ?_
  · have hi : i < T.length := by simpa [bl_len] using hi
    have e3 : ((bl T).map U.d)[i] = .d (.bool T[i]) := by simp [bl]
    have e4 : (bl (T.map fun t => t && decide (v ≠ w))).getD i .none = .bool (T[i] && decide (v ≠ w)) := by simp [bl, hi]
    rw [e3]
    rw [e4] at hN
    generalize T[i] = t at hN ⊢
    have e5 : decide (v ≠ w) = !decide (oc v = z) := by
      by_cases h : oc v = z
      · rw [decide_eq_true h, decide_eq_false (by rw [ne_eq, Classical.not_not]; exact hz.mp h)]; rfl
      · rw [decide_eq_false h, decide_eq_true (show v ≠ w from fun e => h (hz.mpr e))]; rfl
    rw [e5] at hN
    cases t with
    | true =>
      simp [wSeq, wIfS, wRet, wRetN, wNext, wDrop, wAsg, wAug, wBreak, wCont, wV, wC, wB, L3.wTru, L3.wNot, wAnd, wOr, wAndV, wOrV, wNotV, L3.wIf, wNeg, wOp, wCall, wQ, wML, wNil, wCons, wTup, wLst, wLstM, wIsi, wSl, wPart, wNoPart, wMinD, wJoin, wFrz, gN, sIx, sIs, sIsN, sI, sI0, truU, tyOk, tyU, isTruth, L3.isNon, itemsU, listU, ixU, qInt, qAbs, qStr, L3.max_int, start3, L3.kk_nb, L3.kk_nt, L3.kk_ni, L3.kk_ns, L3.kk_nl, L3.kk_bb, L3.kk_bt, L3.kk_bi, L3.kk_bs, L3.kk_bl, L3.kk_ib, L3.kk_it, L3.kk_ii, L3.kk_is, L3.kk_il, L3.kk_sb, L3.kk_st, L3.kk_si, L3.kk_ss, L3.kk_sl, L3.kk_tb, L3.kk_tt, L3.kk_ti, L3.kk_ts, L3.kk_tl, L3.kk_lb, L3.kk_lt, L3.kk_li, L3.kk_ls, L3.kk_ll, L3.at_0, L3.at_1, L3.at_2, L3.at_3, L3.eqA_int, L3.eqA_str, L3.eqA_bl, L3.lt_int, L3.gt_int, L3.le_int, L3.ge_int, L3.lt_str, L3.gt_str, L3.le_str, L3.ge_str, L3.add_int, L3.add_str, L3.exd, L3.exd0, L3.exd1, L3.exd2, L3.exd3, L3.exd4, L3.min_int, L3.min_str, L3.len_str, L3.len_lst, L3.len_tup]
      simpa using hN
    | false =>
      simp [wSeq, wIfS, wRet, wRetN, wNext, wDrop, wAsg, wAug, wBreak, wCont, wV, wC, wB, L3.wTru, L3.wNot, wAnd, wOr, wAndV, wOrV, wNotV, L3.wIf, wNeg, wOp, wCall, wQ, wML, wNil, wCons, wTup, wLst, wLstM, wIsi, wSl, wPart, wNoPart, wMinD, wJoin, wFrz, gN, sIx, sIs, sIsN, sI, sI0, truU, tyOk, tyU, isTruth, L3.isNon, itemsU, listU, ixU, qInt, qAbs, qStr, L3.max_int, start3, L3.kk_nb, L3.kk_nt, L3.kk_ni, L3.kk_ns, L3.kk_nl, L3.kk_bb, L3.kk_bt, L3.kk_bi, L3.kk_bs, L3.kk_bl, L3.kk_ib, L3.kk_it, L3.kk_ii, L3.kk_is, L3.kk_il, L3.kk_sb, L3.kk_st, L3.kk_si, L3.kk_ss, L3.kk_sl, L3.kk_tb, L3.kk_tt, L3.kk_ti, L3.kk_ts, L3.kk_tl, L3.kk_lb, L3.kk_lt, L3.kk_li, L3.kk_ls, L3.kk_ll, L3.at_0, L3.at_1, L3.at_2, L3.at_3, L3.eqA_int, L3.eqA_str, L3.eqA_bl, L3.lt_int, L3.gt_int, L3.le_int, L3.ge_int, L3.lt_str, L3.gt_str, L3.le_str, L3.ge_str, L3.add_int, L3.add_str, L3.exd, L3.exd0, L3.exd1, L3.exd2, L3.exd3, L3.exd4, L3.min_int, L3.min_str, L3.len_str, L3.len_lst, L3.len_tup]
      simpa using hN
  · rw [List.length_map, bl_len, show T.length = (bl (T.map fun t => t && decide (v ≠ w))).length by simp [bl], range_getD]
    exact fin
theorem oc1 {v : Option Bool} : oc v = 1 ↔ v = some true := by
  cases v with
  | none => simp [oc]
  | some b => cases b <;> simp [oc]
theorem oc0 {v : Option Bool} : oc v = 0 ↔ v = some false := by
  cases v with
  | none => simp [oc]
  | some b => cases b <;> simp [oc]
theorem oc2 {v : Option Bool} : oc v = 2 ↔ v = none := by
  cases v with
  | none => simp [oc]
  | some b => cases b <;> simp [oc]
def S_in : WF := fun us μ Q => ∃ o : Op, us = [.d (.list (oi o))] ∧ o.length ≤ 5 ∧ Q (.d (.list (bl (ins o)))) μ
theorem inside_ok (D : Dn K mg "_law_inside" s_l_inside) (m1 : mg "reversed" = none) : C8.Cal P w K mg base 1 "_law_inside" (sp3 K S_in) [] :=
  cal_l_inside D (m_reversed := m1) (len := fun us μ Q ⟨_, e, _⟩ => by rw [e]; rfl) (h := fun us μ Q ⟨o, e, hn, q⟩ => by
    subst e
    have big : 1000 < sizeLine := by decide
    simp [wSeq, wIfS, wRet, wRetN, wNext, wDrop, wAsg, wAug, wBreak, wCont, wV, wC, wB, L3.wTru, L3.wNot, wAnd, wOr, wAndV, wOrV, wNotV, L3.wIf, wNeg, wOp, wCall, wQ, wML, wNil, wCons, wTup, wLst, wLstM, wIsi, wSl, wPart, wNoPart, wMinD, wJoin, wFrz, gN, sIx, sIs, sIsN, sI, sI0, truU, tyOk, tyU, isTruth, L3.isNon, itemsU, listU, ixU, qInt, qAbs, qStr, L3.max_int, start3, L3.kk_nb, L3.kk_nt, L3.kk_ni, L3.kk_ns, L3.kk_nl, L3.kk_bb, L3.kk_bt, L3.kk_bi, L3.kk_bs, L3.kk_bl, L3.kk_ib, L3.kk_it, L3.kk_ii, L3.kk_is, L3.kk_il, L3.kk_sb, L3.kk_st, L3.kk_si, L3.kk_ss, L3.kk_sl, L3.kk_tb, L3.kk_tt, L3.kk_ti, L3.kk_ts, L3.kk_tl, L3.kk_lb, L3.kk_lt, L3.kk_li, L3.kk_ls, L3.kk_ll, L3.at_0, L3.at_1, L3.at_2, L3.at_3, L3.eqA_int, L3.eqA_str, L3.eqA_bl, L3.lt_int, L3.gt_int, L3.le_int, L3.ge_int, L3.lt_str, L3.gt_str, L3.le_str, L3.ge_str, L3.add_int, L3.add_str, L3.exd, L3.exd0, L3.exd1, L3.exd2, L3.exd3, L3.exd4, L3.min_int, L3.min_str, L3.len_str, L3.len_lst, L3.len_tup, W_l_inside, wFor, jRev, listU]
    refine ⟨by decide, ?_⟩
    refine forGo_inv (fun j ρ μ' => ∃ x : Option U, ρ = [some (.d (.list (oi o))), some (.d (.list (bl (ins (o.drop (o.length - j)))))), x, none] ∧ μ' = μ) ⟨none, by simp [bl, ins], rfl⟩ (fun _ _ _ _ => trivial) (fun j hj ρ μ' N ⟨x, h1, h2⟩ hN => ?_) (fun ρ μ' ⟨x, h1, h2⟩ => ?_)
    · subst h1 h2
      have hj : j < o.length := by simpa [oi_len] using hj
      have hi : o.length - 1 - j < o.length := by omega
      have hx : ((oi o).map U.d).reverse[j] = .d (.int (oc o[o.length - 1 - j])) := by simp [oi]
      have hd : o.drop (o.length - (j + 1)) = o[o.length - 1 - j] :: o.drop (o.length - j) := by
        rw [show o.length - (j + 1) = o.length - 1 - j by omega, List.drop_eq_getElem_cons hi]
        congr 2
        omega
      rw [hx]
      have hs : (ins (o.drop (o.length - j))).length ≤ 64 := by
        rw [ins_len, List.length_drop]
        exact Nat.le_trans (Nat.pow_le_pow_right (by decide) (show o.length - (o.length - j) ≤ 6 by omega)) (by decide)
      have hd' : ins (o.drop (o.length - (j + 1))) = (ins (o.drop (o.length - j))).map (fun t => t && decide (o[o.length - 1 - j] ≠ some true)) ++ (ins (o.drop (o.length - j))).map fun t => t && decide (o[o.length - 1 - j] ≠ some false) := by rw [hd]; rfl
      generalize ins (o.drop (o.length - j)) = S at *
      generalize o[o.length - 1 - j] = z at *
      simp [wSeq, wIfS, wRet, wRetN, wNext, wDrop, wAsg, wAug, wBreak, wCont, wV, wC, wB, L3.wTru, L3.wNot, wAnd, wOr, wAndV, wOrV, wNotV, L3.wIf, wNeg, wOp, wCall, wQ, wML, wNil, wCons, wTup, wLst, wLstM, wIsi, wSl, wPart, wNoPart, wMinD, wJoin, wFrz, gN, sIx, sIs, sIsN, sI, sI0, truU, tyOk, tyU, isTruth, L3.isNon, itemsU, listU, ixU, qInt, qAbs, qStr, L3.max_int, start3, L3.kk_nb, L3.kk_nt, L3.kk_ni, L3.kk_ns, L3.kk_nl, L3.kk_bb, L3.kk_bt, L3.kk_bi, L3.kk_bs, L3.kk_bl, L3.kk_ib, L3.kk_it, L3.kk_ii, L3.kk_is, L3.kk_il, L3.kk_sb, L3.kk_st, L3.kk_si, L3.kk_ss, L3.kk_sl, L3.kk_tb, L3.kk_tt, L3.kk_ti, L3.kk_ts, L3.kk_tl, L3.kk_lb, L3.kk_lt, L3.kk_li, L3.kk_ls, L3.kk_ll, L3.at_0, L3.at_1, L3.at_2, L3.at_3, L3.eqA_int, L3.eqA_str, L3.eqA_bl, L3.lt_int, L3.gt_int, L3.le_int, L3.ge_int, L3.lt_str, L3.gt_str, L3.le_str, L3.ge_str, L3.add_int, L3.add_str, L3.exd, L3.exd0, L3.exd1, L3.exd2, L3.exd3, L3.exd4, L3.min_int, L3.min_str, L3.len_str, L3.len_lst, L3.len_tup, wLc, jSeq, wipeR]
      refine lc_and oc1 (by omega) trivial ⟨_, rfl, ?_⟩
      refine lc_and oc0 (by omega) trivial ⟨_, rfl, add_lst (by simp [bl]; omega) ?_⟩
      refine hN _ _ ⟨some (.d (.int (oc z))), ?_, rfl⟩
      rw [hd']
      simp [bl]
    · subst h1 h2
      simp [wSeq, wIfS, wRet, wRetN, wNext, wDrop, wAsg, wAug, wBreak, wCont, wV, wC, wB, L3.wTru, L3.wNot, wAnd, wOr, wAndV, wOrV, wNotV, L3.wIf, wNeg, wOp, wCall, wQ, wML, wNil, wCons, wTup, wLst, wLstM, wIsi, wSl, wPart, wNoPart, wMinD, wJoin, wFrz, gN, sIx, sIs, sIsN, sI, sI0, truU, tyOk, tyU, isTruth, L3.isNon, itemsU, listU, ixU, qInt, qAbs, qStr, L3.max_int, start3, L3.kk_nb, L3.kk_nt, L3.kk_ni, L3.kk_ns, L3.kk_nl, L3.kk_bb, L3.kk_bt, L3.kk_bi, L3.kk_bs, L3.kk_bl, L3.kk_ib, L3.kk_it, L3.kk_ii, L3.kk_is, L3.kk_il, L3.kk_sb, L3.kk_st, L3.kk_si, L3.kk_ss, L3.kk_sl, L3.kk_tb, L3.kk_tt, L3.kk_ti, L3.kk_ts, L3.kk_tl, L3.kk_lb, L3.kk_lt, L3.kk_li, L3.kk_ls, L3.kk_ll, L3.at_0, L3.at_1, L3.at_2, L3.at_3, L3.eqA_int, L3.eqA_str, L3.eqA_bl, L3.lt_int, L3.gt_int, L3.le_int, L3.ge_int, L3.lt_str, L3.gt_str, L3.le_str, L3.ge_str, L3.add_int, L3.add_str, L3.exd, L3.exd0, L3.exd1, L3.exd2, L3.exd3, L3.exd4, L3.min_int, L3.min_str, L3.len_str, L3.len_lst, L3.len_tup, oi_len, Nat.sub_self, List.drop_zero]
      exact rtE q)
/-! ### always, is_least -/
def S_aw : WF := fun us μ Q => ∃ (o : Op) (row : List Bool), us = [.d (.list (oi o)), .d (.list (bl row))] ∧ o.length ≤ 5 ∧ row.length = 2 ^ o.length ∧ ∀ b : Bool, (b = true ↔ Alw o row) → Q (.d (.bool b)) μ
theorem always_ok (D : Dn K mg "_law_always" s_l_always) (D1 : Dn K mg "_law_inside" s_l_inside) (m1 : mg "reversed" = none) (m2 : mg "len" = none) (m3 : mg "range" = none) : C8.Cal P w K mg base 2 "_law_always" (sp3 K S_aw) [] :=
  cal_l_always D (c_l_inside := inside_ok D1 m1) (h_l_inside := Nat.le_refl _) (m_len := m2) (m_range := m3) (len := fun us μ Q ⟨_, _, e, _⟩ => by rw [e]; rfl) (h := fun us μ Q ⟨o, row, e, hn, hl, q⟩ => by
    subst e
    have big : 1000 < sizeLine := by decide
    have p5 : 2 ^ o.length ≤ 2 ^ 5 := Nat.pow_le_pow_right (by decide) hn
    simp [wSeq, wIfS, wRet, wRetN, wNext, wDrop, wAsg, wAug, wBreak, wCont, wV, wC, wB, L3.wTru, L3.wNot, wAnd, wOr, wAndV, wOrV, wNotV, L3.wIf, wNeg, wOp, wCall, wQ, wML, wNil, wCons, wTup, wLst, wLstM, wIsi, wSl, wPart, wNoPart, wMinD, wJoin, wFrz, gN, sIx, sIs, sIsN, sI, sI0, truU, tyOk, tyU, isTruth, L3.isNon, itemsU, listU, ixU, qInt, qAbs, qStr, L3.max_int, start3, L3.kk_nb, L3.kk_nt, L3.kk_ni, L3.kk_ns, L3.kk_nl, L3.kk_bb, L3.kk_bt, L3.kk_bi, L3.kk_bs, L3.kk_bl, L3.kk_ib, L3.kk_it, L3.kk_ii, L3.kk_is, L3.kk_il, L3.kk_sb, L3.kk_st, L3.kk_si, L3.kk_ss, L3.kk_sl, L3.kk_tb, L3.kk_tt, L3.kk_ti, L3.kk_ts, L3.kk_tl, L3.kk_lb, L3.kk_lt, L3.kk_li, L3.kk_ls, L3.kk_ll, L3.at_0, L3.at_1, L3.at_2, L3.at_3, L3.eqA_int, L3.eqA_str, L3.eqA_bl, L3.lt_int, L3.gt_int, L3.le_int, L3.ge_int, L3.lt_str, L3.gt_str, L3.le_str, L3.ge_str, L3.add_int, L3.add_str, L3.exd, L3.exd0, L3.exd1, L3.exd2, L3.exd3, L3.exd4, L3.min_int, L3.min_str, L3.len_str, L3.len_lst, L3.len_tup, W_l_always, wLc, jRng1, bl_len]
    refine ⟨o, rfl, hn, by omega, lcGo_inv (fun k acc μ' => ∃ ks : List Int, acc = (il ks).map U.d ∧ μ' = μ ∧ ks.length ≤ k ∧ (ks = [] ↔ ∀ m, m < k → lk (ins o) m = true → lk row m = true)) ?_ (fun _ _ _ _ => trivial) (fun k hk acc μ' N' h' hN' => ?_) (fun acc μ' h' => ?_)⟩
    · exact ⟨[], rfl, rfl, Nat.le_refl _, by simp⟩
    · obtain ⟨ks, k1, k2, k3, k4⟩ := h'
      subst k1 k2
      have hk : k < row.length := by simpa using hk
      rw [rng_get (n := row.length) (by rw [rng_len]; exact hk)]
      have g1 := bl_get (xs := ins o) (j := k) (by rw [ins_len, ← hl]; exact hk)
      have g2 := bl_get (xs := row) (j := k) hk
      simp [wSeq, wIfS, wRet, wRetN, wNext, wDrop, wAsg, wAug, wBreak, wCont, wV, wC, wB, L3.wTru, L3.wNot, wAnd, wOr, wAndV, wOrV, wNotV, L3.wIf, wNeg, wOp, wCall, wQ, wML, wNil, wCons, wTup, wLst, wLstM, wIsi, wSl, wPart, wNoPart, wMinD, wJoin, wFrz, gN, sIx, sIs, sIsN, sI, sI0, truU, tyOk, tyU, isTruth, L3.isNon, itemsU, listU, ixU, qInt, qAbs, qStr, L3.max_int, start3, L3.kk_nb, L3.kk_nt, L3.kk_ni, L3.kk_ns, L3.kk_nl, L3.kk_bb, L3.kk_bt, L3.kk_bi, L3.kk_bs, L3.kk_bl, L3.kk_ib, L3.kk_it, L3.kk_ii, L3.kk_is, L3.kk_il, L3.kk_sb, L3.kk_st, L3.kk_si, L3.kk_ss, L3.kk_sl, L3.kk_tb, L3.kk_tt, L3.kk_ti, L3.kk_ts, L3.kk_tl, L3.kk_lb, L3.kk_lt, L3.kk_li, L3.kk_ls, L3.kk_ll, L3.at_0, L3.at_1, L3.at_2, L3.at_3, L3.eqA_int, L3.eqA_str, L3.eqA_bl, L3.lt_int, L3.gt_int, L3.le_int, L3.ge_int, L3.lt_str, L3.gt_str, L3.le_str, L3.ge_str, L3.add_int, L3.add_str, L3.exd, L3.exd0, L3.exd1, L3.exd2, L3.exd3, L3.exd4, L3.min_int, L3.min_str, L3.len_str, L3.len_lst, L3.len_tup, wipeR, g1, g2]
      have as := all_succ (a := ins o) (b := row) (k := k)
      cases e1 : lk (ins o) k with
      | false => exact .inl ⟨rfl, hN' _ _ ⟨ks, rfl, rfl, by omega, by rw [as, k4, e1]; simp⟩⟩
      | true =>
        refine .inr ⟨rfl, ?_⟩
        cases e2 : lk row k with
        | true => exact .inr ⟨rfl, hN' _ _ ⟨ks, rfl, rfl, by omega, by rw [as, k4, e2]; simp⟩⟩
        | false => exact .inl ⟨rfl, by simp [il]; omega, hN' _ _ ⟨ks ++ [(k : Int)], by simp [il], rfl, by simp; omega, by rw [as, e1, e2]; simp⟩⟩
    · obtain ⟨ks, k1, k2, k3, k4⟩ := h'
      subst k1 k2
      rw [rng_len] at k4
      refine ⟨_, rfl, ?_⟩
      refine rtE (q _ ?_)
      rw [decide_eq_true_iff, show il ks = [] ↔ ks = [] by simp [il]]
      exact k4)
def S_il : WF := fun us μ Q => ∃ (o : Op) (row : List Bool), us = [.d (.list (oi o)), .d (.list (bl row))] ∧ o.length ≤ 5 ∧ row.length = 2 ^ o.length ∧ ∀ b : Bool, (b = true ↔ Lst o row) → Q (.d (.bool b)) μ
theorem oi_get {o : Op} {j : Nat} (h : j < o.length) : atI ((oi o).map U.d) (j : Int) = some (.d (.int (oc o[j]))) := by
  rw [L3.at_n (by rw [List.length_map, oi_len]; exact h)]
  simp [oi]
theorem oi_set {o : Op} {j : Nat} (h : j < o.length) : (oi o).take j ++ [.int 2] ++ (oi o).drop (j + 1) = oi (o.set j none) := by
  have e : o.set j none = o.take j ++ [none] ++ o.drop (j + 1) := by
    rw [List.set_eq_take_append_cons_drop, if_pos h]
    simp
  rw [e]
  simp [oi, oc]
theorem least_ok (D : Dn K mg "_law_is_least" s_l_is_least) (D0 : Dn K mg "_law_always" s_l_always) (D1 : Dn K mg "_law_inside" s_l_inside) (m1 : mg "reversed" = none) (m2 : mg "len" = none) (m3 : mg "range" = none) : C8.Cal P w K mg base 3 "_law_is_least" (sp3 K S_il) [] :=
  cal_l_is_least D (c_l_always := always_ok D0 D1 m1 m2 m3) (h_l_always := Nat.le_refl _) (m_len := m2) (m_range := m3) (len := fun us μ Q ⟨_, _, e, _⟩ => by rw [e]; rfl) (h := fun us μ Q ⟨o, row, e, hn, hl, q⟩ => by
    subst e
    have big : 1000 < sizeLine := by decide
    simp [wSeq, wIfS, wRet, wRetN, wNext, wDrop, wAsg, wAug, wBreak, wCont, wV, wC, wB, L3.wTru, L3.wNot, wAnd, wOr, wAndV, wOrV, wNotV, L3.wIf, wNeg, wOp, wCall, wQ, wML, wNil, wCons, wTup, wLst, wLstM, wIsi, wSl, wPart, wNoPart, wMinD, wJoin, wFrz, gN, sIx, sIs, sIsN, sI, sI0, truU, tyOk, tyU, isTruth, L3.isNon, itemsU, listU, ixU, qInt, qAbs, qStr, L3.max_int, start3, L3.kk_nb, L3.kk_nt, L3.kk_ni, L3.kk_ns, L3.kk_nl, L3.kk_bb, L3.kk_bt, L3.kk_bi, L3.kk_bs, L3.kk_bl, L3.kk_ib, L3.kk_it, L3.kk_ii, L3.kk_is, L3.kk_il, L3.kk_sb, L3.kk_st, L3.kk_si, L3.kk_ss, L3.kk_sl, L3.kk_tb, L3.kk_tt, L3.kk_ti, L3.kk_ts, L3.kk_tl, L3.kk_lb, L3.kk_lt, L3.kk_li, L3.kk_ls, L3.kk_ll, L3.at_0, L3.at_1, L3.at_2, L3.at_3, L3.eqA_int, L3.eqA_str, L3.eqA_bl, L3.lt_int, L3.gt_int, L3.le_int, L3.ge_int, L3.lt_str, L3.gt_str, L3.le_str, L3.ge_str, L3.add_int, L3.add_str, L3.exd, L3.exd0, L3.exd1, L3.exd2, L3.exd3, L3.exd4, L3.min_int, L3.min_str, L3.len_str, L3.len_lst, L3.len_tup, W_l_is_least, wFor, jRng1, oi_len]
    refine ⟨o, row, rfl, hn, hl, fun b hb => ?_⟩
    cases b with
    | false =>
      simp [wSeq, wIfS, wRet, wRetN, wNext, wDrop, wAsg, wAug, wBreak, wCont, wV, wC, wB, L3.wTru, L3.wNot, wAnd, wOr, wAndV, wOrV, wNotV, L3.wIf, wNeg, wOp, wCall, wQ, wML, wNil, wCons, wTup, wLst, wLstM, wIsi, wSl, wPart, wNoPart, wMinD, wJoin, wFrz, gN, sIx, sIs, sIsN, sI, sI0, truU, tyOk, tyU, isTruth, L3.isNon, itemsU, listU, ixU, qInt, qAbs, qStr, L3.max_int, start3, L3.kk_nb, L3.kk_nt, L3.kk_ni, L3.kk_ns, L3.kk_nl, L3.kk_bb, L3.kk_bt, L3.kk_bi, L3.kk_bs, L3.kk_bl, L3.kk_ib, L3.kk_it, L3.kk_ii, L3.kk_is, L3.kk_il, L3.kk_sb, L3.kk_st, L3.kk_si, L3.kk_ss, L3.kk_sl, L3.kk_tb, L3.kk_tt, L3.kk_ti, L3.kk_ts, L3.kk_tl, L3.kk_lb, L3.kk_lt, L3.kk_li, L3.kk_ls, L3.kk_ll, L3.at_0, L3.at_1, L3.at_2, L3.at_3, L3.eqA_int, L3.eqA_str, L3.eqA_bl, L3.lt_int, L3.gt_int, L3.le_int, L3.ge_int, L3.lt_str, L3.gt_str, L3.le_str, L3.ge_str, L3.add_int, L3.add_str, L3.exd, L3.exd0, L3.exd1, L3.exd2, L3.exd3, L3.exd4, L3.min_int, L3.min_str, L3.len_str, L3.len_lst, L3.len_tup]
      exact rtE (q false ⟨fun h => (by cases h), fun h => (by cases hb.mpr h.al)⟩)
    | true =>
      simp [wSeq, wIfS, wRet, wRetN, wNext, wDrop, wAsg, wAug, wBreak, wCont, wV, wC, wB, L3.wTru, L3.wNot, wAnd, wOr, wAndV, wOrV, wNotV, L3.wIf, wNeg, wOp, wCall, wQ, wML, wNil, wCons, wTup, wLst, wLstM, wIsi, wSl, wPart, wNoPart, wMinD, wJoin, wFrz, gN, sIx, sIs, sIsN, sI, sI0, truU, tyOk, tyU, isTruth, L3.isNon, itemsU, listU, ixU, qInt, qAbs, qStr, L3.max_int, start3, L3.kk_nb, L3.kk_nt, L3.kk_ni, L3.kk_ns, L3.kk_nl, L3.kk_bb, L3.kk_bt, L3.kk_bi, L3.kk_bs, L3.kk_bl, L3.kk_ib, L3.kk_it, L3.kk_ii, L3.kk_is, L3.kk_il, L3.kk_sb, L3.kk_st, L3.kk_si, L3.kk_ss, L3.kk_sl, L3.kk_tb, L3.kk_tt, L3.kk_ti, L3.kk_ts, L3.kk_tl, L3.kk_lb, L3.kk_lt, L3.kk_li, L3.kk_ls, L3.kk_ll, L3.at_0, L3.at_1, L3.at_2, L3.at_3, L3.eqA_int, L3.eqA_str, L3.eqA_bl, L3.lt_int, L3.gt_int, L3.le_int, L3.ge_int, L3.lt_str, L3.gt_str, L3.le_str, L3.ge_str, L3.add_int, L3.add_str, L3.exd, L3.exd0, L3.exd1, L3.exd2, L3.exd3, L3.exd4, L3.min_int, L3.min_str, L3.len_str, L3.len_lst, L3.len_tup]
      refine ⟨by omega, ?_⟩
      refine forGo_inv (fun j ρ μ' => ∃ x : Option U, ρ = [some (.d (.list (oi o))), some (.d (.list (bl row))), x] ∧ μ' = μ ∧ ∀ (i : Nat) (b : Bool), i < j → o[i]? = some (some b) → ¬ Alw (o.set i none) row) ⟨none, rfl, rfl, fun i b h => by omega⟩ (fun _ _ _ _ => trivial) (fun j hj ρ μ' N ⟨x, h1, h2, h3⟩ hN => ?_) (fun ρ μ' ⟨x, h1, h2, h3⟩ => ?_)
      · subst h1 h2
        have hj : j < o.length := by simpa using hj
        rw [rng_get (n := o.length) (by rw [rng_len]; exact hj)]
        have og := oi_get hj
        have oj : o[j]? = some o[j] := List.getElem?_eq_getElem hj
        have os := oi_set hj
        have c1 : cutL (oi o) none (some (j : Int)) = (oi o).take j := cut_take (by rw [oi_len]; omega)
        have c2 : cutL (oi o) (some ((j : Int) + 1)) none = (oi o).drop (j + 1) := cut_drop (xs := oi o) (k := j + 1) (by rw [oi_len]; omega)
        generalize o[j] = v at og oj
        simp [wSeq, wIfS, wRet, wRetN, wNext, wDrop, wAsg, wAug, wBreak, wCont, wV, wC, wB, L3.wTru, L3.wNot, wAnd, wOr, wAndV, wOrV, wNotV, L3.wIf, wNeg, wOp, wCall, wQ, wML, wNil, wCons, wTup, wLst, wLstM, wIsi, wSl, wPart, wNoPart, wMinD, wJoin, wFrz, gN, sIx, sIs, sIsN, sI, sI0, truU, tyOk, tyU, isTruth, L3.isNon, itemsU, listU, ixU, qInt, qAbs, qStr, L3.max_int, start3, L3.kk_nb, L3.kk_nt, L3.kk_ni, L3.kk_ns, L3.kk_nl, L3.kk_bb, L3.kk_bt, L3.kk_bi, L3.kk_bs, L3.kk_bl, L3.kk_ib, L3.kk_it, L3.kk_ii, L3.kk_is, L3.kk_il, L3.kk_sb, L3.kk_st, L3.kk_si, L3.kk_ss, L3.kk_sl, L3.kk_tb, L3.kk_tt, L3.kk_ti, L3.kk_ts, L3.kk_tl, L3.kk_lb, L3.kk_lt, L3.kk_li, L3.kk_ls, L3.kk_ll, L3.at_0, L3.at_1, L3.at_2, L3.at_3, L3.eqA_int, L3.eqA_str, L3.eqA_bl, L3.lt_int, L3.gt_int, L3.le_int, L3.ge_int, L3.lt_str, L3.gt_str, L3.le_str, L3.ge_str, L3.add_int, L3.add_str, L3.exd, L3.exd0, L3.exd1, L3.exd2, L3.exd3, L3.exd4, L3.min_int, L3.min_str, L3.len_str, L3.len_lst, L3.len_tup, og, c1, c2]
        have nx : (∀ b, v = some b → ¬ Alw (o.set j none) row) → ∀ (i : Nat) (b : Bool), i < j + 1 → o[i]? = some (some b) → ¬ Alw (o.set i none) row := fun k i b hi ho => by
          rcases Nat.lt_succ_iff_lt_or_eq.mp hi with a | a
          · exact h3 i b a ho
          · subst a
            rw [oj] at ho
            exact k b (Option.some.inj ho)
        by_cases hv : v = none
        · subst hv
          exact .inl ⟨rfl, hN _ _ ⟨_, rfl, rfl, nx fun b e => (by cases e)⟩⟩
        · refine .inr ⟨fun e => hv (oc2.mp e), L3.sl0 (by decide), add_lst (by simp [oi_len]; omega) (add_lst (by simp [oi_len]; omega) ?_)⟩
          rw [os]
          refine ⟨o.set j none, row, rfl, by rw [List.length_set]; omega, by rw [List.length_set]; exact hl, fun b hb' => ?_⟩
          cases b with
          | false =>
            simp [wSeq, wIfS, wRet, wRetN, wNext, wDrop, wAsg, wAug, wBreak, wCont, wV, wC, wB, L3.wTru, L3.wNot, wAnd, wOr, wAndV, wOrV, wNotV, L3.wIf, wNeg, wOp, wCall, wQ, wML, wNil, wCons, wTup, wLst, wLstM, wIsi, wSl, wPart, wNoPart, wMinD, wJoin, wFrz, gN, sIx, sIs, sIsN, sI, sI0, truU, tyOk, tyU, isTruth, L3.isNon, itemsU, listU, ixU, qInt, qAbs, qStr, L3.max_int, start3, L3.kk_nb, L3.kk_nt, L3.kk_ni, L3.kk_ns, L3.kk_nl, L3.kk_bb, L3.kk_bt, L3.kk_bi, L3.kk_bs, L3.kk_bl, L3.kk_ib, L3.kk_it, L3.kk_ii, L3.kk_is, L3.kk_il, L3.kk_sb, L3.kk_st, L3.kk_si, L3.kk_ss, L3.kk_sl, L3.kk_tb, L3.kk_tt, L3.kk_ti, L3.kk_ts, L3.kk_tl, L3.kk_lb, L3.kk_lt, L3.kk_li, L3.kk_ls, L3.kk_ll, L3.at_0, L3.at_1, L3.at_2, L3.at_3, L3.eqA_int, L3.eqA_str, L3.eqA_bl, L3.lt_int, L3.gt_int, L3.le_int, L3.ge_int, L3.lt_str, L3.gt_str, L3.le_str, L3.ge_str, L3.add_int, L3.add_str, L3.exd, L3.exd0, L3.exd1, L3.exd2, L3.exd3, L3.exd4, L3.min_int, L3.min_str, L3.len_str, L3.len_lst, L3.len_tup]
            exact hN _ _ ⟨_, rfl, rfl, nx fun b _ k => (by cases hb'.mpr k)⟩
          | true =>
            simp [wSeq, wIfS, wRet, wRetN, wNext, wDrop, wAsg, wAug, wBreak, wCont, wV, wC, wB, L3.wTru, L3.wNot, wAnd, wOr, wAndV, wOrV, wNotV, L3.wIf, wNeg, wOp, wCall, wQ, wML, wNil, wCons, wTup, wLst, wLstM, wIsi, wSl, wPart, wNoPart, wMinD, wJoin, wFrz, gN, sIx, sIs, sIsN, sI, sI0, truU, tyOk, tyU, isTruth, L3.isNon, itemsU, listU, ixU, qInt, qAbs, qStr, L3.max_int, start3, L3.kk_nb, L3.kk_nt, L3.kk_ni, L3.kk_ns, L3.kk_nl, L3.kk_bb, L3.kk_bt, L3.kk_bi, L3.kk_bs, L3.kk_bl, L3.kk_ib, L3.kk_it, L3.kk_ii, L3.kk_is, L3.kk_il, L3.kk_sb, L3.kk_st, L3.kk_si, L3.kk_ss, L3.kk_sl, L3.kk_tb, L3.kk_tt, L3.kk_ti, L3.kk_ts, L3.kk_tl, L3.kk_lb, L3.kk_lt, L3.kk_li, L3.kk_ls, L3.kk_ll, L3.at_0, L3.at_1, L3.at_2, L3.at_3, L3.eqA_int, L3.eqA_str, L3.eqA_bl, L3.lt_int, L3.gt_int, L3.le_int, L3.ge_int, L3.lt_str, L3.gt_str, L3.le_str, L3.ge_str, L3.add_int, L3.add_str, L3.exd, L3.exd0, L3.exd1, L3.exd2, L3.exd3, L3.exd4, L3.min_int, L3.min_str, L3.len_str, L3.len_lst, L3.len_tup]
            obtain ⟨b, rfl⟩ := Option.ne_none_iff_exists'.mp hv
            exact rtE (q false ⟨fun h => (by cases h), fun h => absurd (hb'.mp rfl) (h.mn j b oj)⟩)
      · subst h1 h2
        simp [wSeq, wIfS, wRet, wRetN, wNext, wDrop, wAsg, wAug, wBreak, wCont, wV, wC, wB, L3.wTru, L3.wNot, wAnd, wOr, wAndV, wOrV, wNotV, L3.wIf, wNeg, wOp, wCall, wQ, wML, wNil, wCons, wTup, wLst, wLstM, wIsi, wSl, wPart, wNoPart, wMinD, wJoin, wFrz, gN, sIx, sIs, sIsN, sI, sI0, truU, tyOk, tyU, isTruth, L3.isNon, itemsU, listU, ixU, qInt, qAbs, qStr, L3.max_int, start3, L3.kk_nb, L3.kk_nt, L3.kk_ni, L3.kk_ns, L3.kk_nl, L3.kk_bb, L3.kk_bt, L3.kk_bi, L3.kk_bs, L3.kk_bl, L3.kk_ib, L3.kk_it, L3.kk_ii, L3.kk_is, L3.kk_il, L3.kk_sb, L3.kk_st, L3.kk_si, L3.kk_ss, L3.kk_sl, L3.kk_tb, L3.kk_tt, L3.kk_ti, L3.kk_ts, L3.kk_tl, L3.kk_lb, L3.kk_lt, L3.kk_li, L3.kk_ls, L3.kk_ll, L3.at_0, L3.at_1, L3.at_2, L3.at_3, L3.eqA_int, L3.eqA_str, L3.eqA_bl, L3.lt_int, L3.gt_int, L3.le_int, L3.ge_int, L3.lt_str, L3.gt_str, L3.le_str, L3.ge_str, L3.add_int, L3.add_str, L3.exd, L3.exd0, L3.exd1, L3.exd2, L3.exd3, L3.exd4, L3.min_int, L3.min_str, L3.len_str, L3.len_lst, L3.len_tup]
        refine rtE (q true ⟨fun _ => ⟨hb.mp rfl, fun i b hi => h3 i b ?_ hi⟩, fun _ => rfl⟩)
        have := (List.getElem?_eq_some_iff.mp hi).1
        rw [rng_len]
        exact this)
/-! ### the law -/
structure Env0 (K : Fg) (mg : Str → Option Value) : Prop where
  len : mg "len" = none
  int : mg "int" = none
  rng : mg "range" = none
  mn : mg "min" = none
  srt : mg "sorted" = none
  tup : mg "tuple" = none
  str : mg "str" = none
  bool : mg "bool" = none
  abs : mg "abs" = none
  isi : mg "isinstance" = none
  rev : mg "reversed" = none
  d_both : Dn K mg "both" s_p_both
  d_imp : Dn K mg "implies" s_p_implies
  d_side : Dn K mg "_side" s_p__side
  d_node : Dn K mg "_node" s_p__node
  d_pc : Dn K mg "part_condition" s_p_part_condition
  d_lc : Dn K mg "least_causes" s_p_least_causes
  d_ca : Dn K mg "_causes" s_p__causes
  d_ic : Dn K mg "_is_cause" s_p__is_cause
  l_hand : Dn K mg "_law_hand" s_l_hand
  l_st : Dn K mg "_law_stirred" s_l_stirred
  l_take : Dn K mg "_law_take" s_l_take
  l_nm : Dn K mg "_law_switch_names" s_l_switch_names
  l_sets : Dn K mg "_law_settings" s_l_settings
  l_bits : Dn K mg "_law_bits" s_l_bits
  l_form : Dn K mg "_law_form" s_l_form
  l_op : Dn K mg "_law_openings" s_l_openings
  l_in : Dn K mg "_law_inside" s_l_inside
  l_aw : Dn K mg "_law_always" s_l_always
  l_il : Dn K mg "_law_is_least" s_l_is_least
  l_wh : Dn K mg "_law_whole" s_l_whole
  l_al : Dn K mg "_law_alike" s_l_alike
  l_law : Dn K mg "law" s_p_law
def S_law : WF := fun us μ Q => ∃ ns : List Int, us = [.d (.list (il ns))] ∧ ns.length ≤ 63 ∧ ∀ μ', Q (.d (.bool true)) μ'
def ones (x : Str) : Option Bool → Part
  | some b => [(x, b)]
  | none => []
theorem prt_at {names : List Str} {o : Op} {j : Nat} {v : Option Bool} {x : Str} (l : o.length = names.length) (h1 : names[j]? = some x) (h2 : o[j]? = some v) : prt (names.take (j + 1)) (o.take (j + 1)) = prt (names.take j) (o.take j) ++ ones x v := by
  induction j generalizing names o with
  | zero =>
    match names, o, h1, h2 with
    | y :: ys, u :: os, h1, h2 =>
      have h1 : y = x := by simpa using h1
      have h2 : u = v := by simpa using h2
      subst h1 h2
      cases u with
      | none => simp [prt, ones]
      | some b => simp [prt, ones]
  | succ j ih =>
    match names, o, l, h1, h2 with
    | y :: ys, u :: os, l, h1, h2 =>
      have ih := ih (names := ys) (o := os) (by simpa using l) (by simpa using h1) (by simpa using h2)
      cases u with
      | none => exact ih
      | some b =>
        show (y, b) :: prt (ys.take (j + 1)) (os.take (j + 1)) = (y, b) :: prt (ys.take j) (os.take j) ++ _
        rw [ih]
        rfl
theorem law_ok (E : Env0 K mg) {f : Addr} {fd : FuncData} (Fd : FunD K "law" "law" (defArgs s_p_law) (defBody s_p_law) (defScope s_p_law) [] [] f fd) : FnOk P w K mg base C8.CX0 45 f fd ["_law_script"] (sp3 K S_law) :=
  fok_p_law Fd (c_l_hand := hand_ok E.l_hand E.int E.len E.abs) (h_l_hand := by omega) (c_l_switch_names := names_ok E.l_nm E.l_take E.l_st E.int E.len E.rng E.str E.srt) (h_l_switch_names := by omega) (c_l_take := take_ok E.l_take E.l_st E.int E.len) (h_l_take := by omega)
    (c_l_settings := sets_ok E.l_sets E.rev) (h_l_settings := by omega) (c_l_bits := bits_ok E.l_bits E.l_take E.l_st E.int E.len E.rng) (h_l_bits := by omega) (c_l_form := form_ok E.l_form E.len 5) (h_l_form := by omega) (c_l_openings := openings_ok E.l_op E.rng) (h_l_openings := by omega)
    (c_l_is_least := least_ok E.l_il E.l_aw E.l_in E.rev E.len E.rng) (h_l_is_least := by omega) (c_l_alike := alike_ok E.l_al E.l_wh E.isi E.int E.bool E.tup E.len E.rng E.str 6) (h_l_alike := by omega) (c_l_inside := inside_ok E.l_in E.rev) (h_l_inside := by omega)
    (c_p_part_condition := pc_ok E.d_pc E.d_both E.d_side E.d_node E.isi E.tup E.mn) (h_p_part_condition := by omega) (c_p_least_causes := lc_ok E.d_lc E.d_ca E.d_ic E.d_pc E.d_imp E.d_both E.d_side E.d_node E.isi E.tup E.mn E.srt) (h_p_least_causes := by omega) (m_len := E.len) (m_range := E.rng) (m_tuple := E.tup) (m_sorted := E.srt) (len := fun us μ Q ⟨_, e, _⟩ => by rw [e]; rfl) (h := fun us μ Q ⟨ns, e, hn, q⟩ => by
    subst e
    have big : 1000 < sizeLine := by decide
    simp [wSeq, wIfS, wRet, wRetN, wNext, wDrop, wAsg, wAug, wBreak, wCont, wV, wC, wB, L3.wTru, L3.wNot, wAnd, wOr, wAndV, wOrV, wNotV, L3.wIf, wNeg, wOp, wCall, wQ, wML, wNil, wCons, wTup, wLst, wLstM, wIsi, wSl, wPart, wNoPart, wMinD, wJoin, wFrz, gN, sIx, sIs, sIsN, sI, sI0, truU, tyOk, tyU, isTruth, L3.isNon, itemsU, listU, ixU, qInt, qAbs, qStr, L3.max_int, start3, L3.kk_nb, L3.kk_nt, L3.kk_ni, L3.kk_ns, L3.kk_nl, L3.kk_bb, L3.kk_bt, L3.kk_bi, L3.kk_bs, L3.kk_bl, L3.kk_ib, L3.kk_it, L3.kk_ii, L3.kk_is, L3.kk_il, L3.kk_sb, L3.kk_st, L3.kk_si, L3.kk_ss, L3.kk_sl, L3.kk_tb, L3.kk_tt, L3.kk_ti, L3.kk_ts, L3.kk_tl, L3.kk_lb, L3.kk_lt, L3.kk_li, L3.kk_ls, L3.kk_ll, L3.at_0, L3.at_1, L3.at_2, L3.at_3, L3.eqA_int, L3.eqA_str, L3.eqA_bl, L3.lt_int, L3.gt_int, L3.le_int, L3.ge_int, L3.lt_str, L3.gt_str, L3.le_str, L3.ge_str, L3.add_int, L3.add_str, L3.exd, L3.exd0, L3.exd1, L3.exd2, L3.exd3, L3.exd4, L3.min_int, L3.min_str, L3.len_str, L3.len_lst, L3.len_tup, W_p_law]
    refine ⟨ns, rfl, hn, fun h hh => ?_⟩
    refine ⟨h, 6, rfl, put_same, by omega, by omega, fun z z1 z2 => ?_⟩
    obtain ⟨m, rfl⟩ := Int.eq_ofNat_of_zero_le z1
    refine ⟨h, m, rfl, put_same, by omega, fun names hl srt ok q9 => ⟨names, rfl, by omega, ?_⟩⟩
    have l2 : (sd2 (sets names)).length = 2 ^ names.length := by unfold sd2; rw [List.length_map, sets_len]
    have p5 : 2 ^ names.length ≤ 32 := Nat.le_trans (Nat.pow_le_pow_right (by decide) (show names.length ≤ 5 by omega)) (by decide)
    have n5 : names.length ≤ 5 := by omega
    simp [wSeq, wIfS, wRet, wRetN, wNext, wDrop, wAsg, wAug, wBreak, wCont, wV, wC, wB, L3.wTru, L3.wNot, wAnd, wOr, wAndV, wOrV, wNotV, L3.wIf, wNeg, wOp, wCall, wQ, wML, wNil, wCons, wTup, wLst, wLstM, wIsi, wSl, wPart, wNoPart, wMinD, wJoin, wFrz, gN, sIx, sIs, sIsN, sI, sI0, truU, tyOk, tyU, isTruth, L3.isNon, itemsU, listU, ixU, qInt, qAbs, qStr, L3.max_int, start3, L3.kk_nb, L3.kk_nt, L3.kk_ni, L3.kk_ns, L3.kk_nl, L3.kk_bb, L3.kk_bt, L3.kk_bi, L3.kk_bs, L3.kk_bl, L3.kk_ib, L3.kk_it, L3.kk_ii, L3.kk_is, L3.kk_il, L3.kk_sb, L3.kk_st, L3.kk_si, L3.kk_ss, L3.kk_sl, L3.kk_tb, L3.kk_tt, L3.kk_ti, L3.kk_ts, L3.kk_tl, L3.kk_lb, L3.kk_lt, L3.kk_li, L3.kk_ls, L3.kk_ll, L3.at_0, L3.at_1, L3.at_2, L3.at_3, L3.eqA_int, L3.eqA_str, L3.eqA_bl, L3.lt_int, L3.gt_int, L3.le_int, L3.ge_int, L3.lt_str, L3.gt_str, L3.le_str, L3.ge_str, L3.add_int, L3.add_str, L3.exd, L3.exd0, L3.exd1, L3.exd2, L3.exd3, L3.exd4, L3.min_int, L3.min_str, L3.len_str, L3.len_lst, L3.len_tup, l2]
    refine ⟨h, 2 ^ names.length, by simp, put_same, by omega, fun row hr => ?_⟩
    simp [wSeq, wIfS, wRet, wRetN, wNext, wDrop, wAsg, wAug, wBreak, wCont, wV, wC, wB, L3.wTru, L3.wNot, wAnd, wOr, wAndV, wOrV, wNotV, L3.wIf, wNeg, wOp, wCall, wQ, wML, wNil, wCons, wTup, wLst, wLstM, wIsi, wSl, wPart, wNoPart, wMinD, wJoin, wFrz, gN, sIx, sIs, sIsN, sI, sI0, truU, tyOk, tyU, isTruth, L3.isNon, itemsU, listU, ixU, qInt, qAbs, qStr, L3.max_int, start3, L3.kk_nb, L3.kk_nt, L3.kk_ni, L3.kk_ns, L3.kk_nl, L3.kk_bb, L3.kk_bt, L3.kk_bi, L3.kk_bs, L3.kk_bl, L3.kk_ib, L3.kk_it, L3.kk_ii, L3.kk_is, L3.kk_il, L3.kk_sb, L3.kk_st, L3.kk_si, L3.kk_ss, L3.kk_sl, L3.kk_tb, L3.kk_tt, L3.kk_ti, L3.kk_ts, L3.kk_tl, L3.kk_lb, L3.kk_lt, L3.kk_li, L3.kk_ls, L3.kk_ll, L3.at_0, L3.at_1, L3.at_2, L3.at_3, L3.eqA_int, L3.eqA_str, L3.eqA_bl, L3.lt_int, L3.gt_int, L3.le_int, L3.ge_int, L3.lt_str, L3.gt_str, L3.le_str, L3.ge_str, L3.add_int, L3.add_str, L3.exd, L3.exd0, L3.exd1, L3.exd2, L3.exd3, L3.exd4, L3.min_int, L3.min_str, L3.len_str, L3.len_lst, L3.len_tup]
    refine ⟨names, row, rfl, n5, hr, by omega, ok, ?_⟩
    simp [wSeq, wIfS, wRet, wRetN, wNext, wDrop, wAsg, wAug, wBreak, wCont, wV, wC, wB, L3.wTru, L3.wNot, wAnd, wOr, wAndV, wOrV, wNotV, L3.wIf, wNeg, wOp, wCall, wQ, wML, wNil, wCons, wTup, wLst, wLstM, wIsi, wSl, wPart, wNoPart, wMinD, wJoin, wFrz, gN, sIx, sIs, sIsN, sI, sI0, truU, tyOk, tyU, isTruth, L3.isNon, itemsU, listU, ixU, qInt, qAbs, qStr, L3.max_int, start3, L3.kk_nb, L3.kk_nt, L3.kk_ni, L3.kk_ns, L3.kk_nl, L3.kk_bb, L3.kk_bt, L3.kk_bi, L3.kk_bs, L3.kk_bl, L3.kk_ib, L3.kk_it, L3.kk_ii, L3.kk_is, L3.kk_il, L3.kk_sb, L3.kk_st, L3.kk_si, L3.kk_ss, L3.kk_sl, L3.kk_tb, L3.kk_tt, L3.kk_ti, L3.kk_ts, L3.kk_tl, L3.kk_lb, L3.kk_lt, L3.kk_li, L3.kk_ls, L3.kk_ll, L3.at_0, L3.at_1, L3.at_2, L3.at_3, L3.eqA_int, L3.eqA_str, L3.eqA_bl, L3.lt_int, L3.gt_int, L3.le_int, L3.ge_int, L3.lt_str, L3.gt_str, L3.le_str, L3.ge_str, L3.add_int, L3.add_str, L3.exd, L3.exd0, L3.exd1, L3.exd2, L3.exd3, L3.exd4, L3.min_int, L3.min_str, L3.len_str, L3.len_lst, L3.len_tup, wFor, jSeq, sl_len]
    intro p hp
    have ph : h ≠ p := fun e => by rw [← e, put_same] at hp; cases hp
    refine ⟨names.length, rfl, n5, _, rfl, ?_⟩
    have on : ∀ o ∈ ops names.length, o.length = names.length := fun o ho => mem_ops.mp ho
    have ol := ops_len names.length
    have p3 : 3 ^ names.length ≤ 3 ^ 5 := Nat.pow_le_pow_right (by decide) n5
    have dl : ∀ l : List Op, (dueL names row l).length ≤ l.length := fun l => by
      unfold dueL
      rw [List.length_map]
      exact List.length_filter_le _ _
    refine forGo_inv (fun j ρ μ' => ∃ (x7 x8 x9 : Option U), ρ = [some (.d (.list (il ns))), some (.r h), some (.d (.list (sl names))), some (.d (.int (2 ^ names.length))), some (.d (.list (bl row))), some (.d (form names row).d), some (.r p), x7, x8, x9] ∧ μ' = put (put μ h .hand) p (.lst (cz (dueL names row ((ops names.length).take j))))) ⟨none, none, none, rfl, rfl⟩ (fun _ _ _ _ => rfl) (fun j hj ρ μ' N ⟨x7, x8, x9, h1, h2⟩ hN => ?_) (fun ρ μ' ⟨x7, x8, x9, h1, h2⟩ => ?_)
    · subst h1 h2
      have hj : j < (ops names.length).length := by simpa [od_len] using hj
      have hx : (List.map U.d (od (ops names.length)))[j] = .d (.list (oi (ops names.length)[j])) := by simp [od]
      rw [hx]
      have tk : (Lst (ops names.length)[j] row → dueL names row ((ops names.length).take (j + 1)) = dueL names row ((ops names.length).take j) ++ [prt names (ops names.length)[j]]) ∧ (¬ Lst (ops names.length)[j] row → dueL names row ((ops names.length).take (j + 1)) = dueL names row ((ops names.length).take j)) := by
        unfold dueL
        rw [List.take_succ_eq_append_getElem hj, List.filter_append, List.map_append]
        constructor
        · intro k
          rw [List.filter_cons_of_pos (by simpa using k)]
          simp
        · intro k
          rw [List.filter_cons_of_neg (by simpa using k)]
          simp
      have lo := on _ (List.getElem_mem hj)
      have dj := dl ((ops names.length).take j)
      rw [List.length_take] at dj
      generalize (ops names.length)[j] = o at tk lo ⊢
      generalize dueL names row ((ops names.length).take j) = D at tk dj ⊢
      simp [wSeq, wIfS, wRet, wRetN, wNext, wDrop, wAsg, wAug, wBreak, wCont, wV, wC, wB, L3.wTru, L3.wNot, wAnd, wOr, wAndV, wOrV, wNotV, L3.wIf, wNeg, wOp, wCall, wQ, wML, wNil, wCons, wTup, wLst, wLstM, wIsi, wSl, wPart, wNoPart, wMinD, wJoin, wFrz, gN, sIx, sIs, sIsN, sI, sI0, truU, tyOk, tyU, isTruth, L3.isNon, itemsU, listU, ixU, qInt, qAbs, qStr, L3.max_int, start3, L3.kk_nb, L3.kk_nt, L3.kk_ni, L3.kk_ns, L3.kk_nl, L3.kk_bb, L3.kk_bt, L3.kk_bi, L3.kk_bs, L3.kk_bl, L3.kk_ib, L3.kk_it, L3.kk_ii, L3.kk_is, L3.kk_il, L3.kk_sb, L3.kk_st, L3.kk_si, L3.kk_ss, L3.kk_sl, L3.kk_tb, L3.kk_tt, L3.kk_ti, L3.kk_ts, L3.kk_tl, L3.kk_lb, L3.kk_lt, L3.kk_li, L3.kk_ls, L3.kk_ll, L3.at_0, L3.at_1, L3.at_2, L3.at_3, L3.eqA_int, L3.eqA_str, L3.eqA_bl, L3.lt_int, L3.gt_int, L3.le_int, L3.ge_int, L3.lt_str, L3.gt_str, L3.le_str, L3.ge_str, L3.add_int, L3.add_str, L3.exd, L3.exd0, L3.exd1, L3.exd2, L3.exd3, L3.exd4, L3.min_int, L3.min_str, L3.len_str, L3.len_lst, L3.len_tup]
      refine ⟨o, row, rfl, by omega, by rw [lo]; exact hr, fun b hb => ?_⟩
      cases b with
      | false =>
        simp [wSeq, wIfS, wRet, wRetN, wNext, wDrop, wAsg, wAug, wBreak, wCont, wV, wC, wB, L3.wTru, L3.wNot, wAnd, wOr, wAndV, wOrV, wNotV, L3.wIf, wNeg, wOp, wCall, wQ, wML, wNil, wCons, wTup, wLst, wLstM, wIsi, wSl, wPart, wNoPart, wMinD, wJoin, wFrz, gN, sIx, sIs, sIsN, sI, sI0, truU, tyOk, tyU, isTruth, L3.isNon, itemsU, listU, ixU, qInt, qAbs, qStr, L3.max_int, start3, L3.kk_nb, L3.kk_nt, L3.kk_ni, L3.kk_ns, L3.kk_nl, L3.kk_bb, L3.kk_bt, L3.kk_bi, L3.kk_bs, L3.kk_bl, L3.kk_ib, L3.kk_it, L3.kk_ii, L3.kk_is, L3.kk_il, L3.kk_sb, L3.kk_st, L3.kk_si, L3.kk_ss, L3.kk_sl, L3.kk_tb, L3.kk_tt, L3.kk_ti, L3.kk_ts, L3.kk_tl, L3.kk_lb, L3.kk_lt, L3.kk_li, L3.kk_ls, L3.kk_ll, L3.at_0, L3.at_1, L3.at_2, L3.at_3, L3.eqA_int, L3.eqA_str, L3.eqA_bl, L3.lt_int, L3.gt_int, L3.le_int, L3.ge_int, L3.lt_str, L3.gt_str, L3.le_str, L3.ge_str, L3.add_int, L3.add_str, L3.exd, L3.exd0, L3.exd1, L3.exd2, L3.exd3, L3.exd4, L3.min_int, L3.min_str, L3.len_str, L3.len_lst, L3.len_tup]
        refine hN _ _ ⟨_, _, _, rfl, ?_⟩
        rw [tk.2 fun k => by cases hb.mpr k]
      | true =>
        have tk := tk.1 (hb.mp rfl)
        simp [wSeq, wIfS, wRet, wRetN, wNext, wDrop, wAsg, wAug, wBreak, wCont, wV, wC, wB, L3.wTru, L3.wNot, wAnd, wOr, wAndV, wOrV, wNotV, L3.wIf, wNeg, wOp, wCall, wQ, wML, wNil, wCons, wTup, wLst, wLstM, wIsi, wSl, wPart, wNoPart, wMinD, wJoin, wFrz, gN, sIx, sIs, sIsN, sI, sI0, truU, tyOk, tyU, isTruth, L3.isNon, itemsU, listU, ixU, qInt, qAbs, qStr, L3.max_int, start3, L3.kk_nb, L3.kk_nt, L3.kk_ni, L3.kk_ns, L3.kk_nl, L3.kk_bb, L3.kk_bt, L3.kk_bi, L3.kk_bs, L3.kk_bl, L3.kk_ib, L3.kk_it, L3.kk_ii, L3.kk_is, L3.kk_il, L3.kk_sb, L3.kk_st, L3.kk_si, L3.kk_ss, L3.kk_sl, L3.kk_tb, L3.kk_tt, L3.kk_ti, L3.kk_ts, L3.kk_tl, L3.kk_lb, L3.kk_lt, L3.kk_li, L3.kk_ls, L3.kk_ll, L3.at_0, L3.at_1, L3.at_2, L3.at_3, L3.eqA_int, L3.eqA_str, L3.eqA_bl, L3.lt_int, L3.gt_int, L3.le_int, L3.ge_int, L3.lt_str, L3.gt_str, L3.le_str, L3.ge_str, L3.add_int, L3.add_str, L3.exd, L3.exd0, L3.exd1, L3.exd2, L3.exd3, L3.exd4, L3.min_int, L3.min_str, L3.len_str, L3.len_lst, L3.len_tup, wLc, jRng1, sl_len]
        refine ⟨by omega, lcGo_inv (fun k acc μ' => acc = (pd (prt (names.take k) (o.take k))).map U.d ∧ μ' = put (put μ h .hand) p (.lst (cz D))) ⟨rfl, rfl⟩ (fun _ _ _ _ => trivial) (fun k hk acc μ' N' ⟨k1, k2⟩ hN' => ?_) (fun acc μ' ⟨k1, k2⟩ => ?_)⟩
        · subst k1 k2
          have hk : k < names.length := by simpa using hk
          rw [rng_get (n := names.length) (by rw [rng_len]; exact hk)]
          have g1 := oi_get (o := o) (j := k) (by omega)
          have g2 := sl_get hk
          have pa := prt_at (j := k) lo (List.getElem?_eq_getElem hk) (List.getElem?_eq_getElem (show k < o.length by omega))
          have pl := prt_len (names := names.take k) (o := o.take k)
          rw [List.length_take] at pl
          generalize o[k] = v at g1 pa
          generalize names[k] = x at g2 pa
          simp [wSeq, wIfS, wRet, wRetN, wNext, wDrop, wAsg, wAug, wBreak, wCont, wV, wC, wB, L3.wTru, L3.wNot, wAnd, wOr, wAndV, wOrV, wNotV, L3.wIf, wNeg, wOp, wCall, wQ, wML, wNil, wCons, wTup, wLst, wLstM, wIsi, wSl, wPart, wNoPart, wMinD, wJoin, wFrz, gN, sIx, sIs, sIsN, sI, sI0, truU, tyOk, tyU, isTruth, L3.isNon, itemsU, listU, ixU, qInt, qAbs, qStr, L3.max_int, start3, L3.kk_nb, L3.kk_nt, L3.kk_ni, L3.kk_ns, L3.kk_nl, L3.kk_bb, L3.kk_bt, L3.kk_bi, L3.kk_bs, L3.kk_bl, L3.kk_ib, L3.kk_it, L3.kk_ii, L3.kk_is, L3.kk_il, L3.kk_sb, L3.kk_st, L3.kk_si, L3.kk_ss, L3.kk_sl, L3.kk_tb, L3.kk_tt, L3.kk_ti, L3.kk_ts, L3.kk_tl, L3.kk_lb, L3.kk_lt, L3.kk_li, L3.kk_ls, L3.kk_ll, L3.at_0, L3.at_1, L3.at_2, L3.at_3, L3.eqA_int, L3.eqA_str, L3.eqA_bl, L3.lt_int, L3.gt_int, L3.le_int, L3.ge_int, L3.lt_str, L3.gt_str, L3.le_str, L3.ge_str, L3.add_int, L3.add_str, L3.exd, L3.exd0, L3.exd1, L3.exd2, L3.exd3, L3.exd4, L3.min_int, L3.min_str, L3.len_str, L3.len_lst, L3.len_tup, wipeR, g1, g2]
          cases v with
          | none => exact .inl ⟨rfl, hN' _ _ ⟨by rw [pa]; simp [ones], rfl⟩⟩
          | some b =>
            have ne : ¬ oc (some b) = 2 := fun e => by
              have := oc2.mp e
              cases this
            refine .inr ⟨ne, ?_⟩
            have ee : decide (oc (some b) = 1) = b := by cases b <;> rfl
            rw [ee]
            refine ⟨L3.sl0 (by decide), by rw [pd_len]; omega, hN' _ _ ⟨?_, rfl⟩⟩
            rw [pa]
            simp [ones, pd, pe]
        · subst k1 k2
          rw [rng_len, List.take_length, show o.take names.length = o by rw [← lo, List.take_length]]
          have so : ∀ e ∈ prt names o, PyData.strOk e.1 = true := fun e he => ok _ (prt_mem he)
          have pl := prt_len (names := names) (o := o)
          refine ⟨pd (prt names o), rfl, ?_⟩
          refine ⟨_, pd (prt names o), rfl, rfl, isL_r put_same, append_r put_same (by rw [cz_len]; omega) ?_⟩
          rw [put_put]
          refine ⟨prt names o, rfl, by omega, so, fun r k1 k2 k3 k4 => ?_⟩
          refine ⟨o, rfl, by omega, ?_⟩
          have il' : (ins o).length = 2 ^ names.length := by rw [ins_len, lo]
          refine ⟨names, ins o, rfl, n5, il', by omega, ok, ?_⟩
          have er : r = form names (ins o) := form_uni srt il' k1 fun σ => by
            have h1 := k4 σ
            have h2 := ins_lk σ lo
            cases e1 : r.ev σ with
            | true => exact (h2.mpr (h1.mp e1)).symm
            | false =>
              cases e2 : lk (ins o) (idx (names.map σ)) with
              | false => rfl
              | true =>
                have := h1.mpr (h2.mp e2)
                rw [e1] at this
                cases this
          subst er
          have fh := form_h (names := names) (row := ins o)
          refine ⟨_, rfl, gd_T _, by rw [d_depth]; omega, ?_⟩
          simp [wSeq, wIfS, wRet, wRetN, wNext, wDrop, wAsg, wAug, wBreak, wCont, wV, wC, wB, L3.wTru, L3.wNot, wAnd, wOr, wAndV, wOrV, wNotV, L3.wIf, wNeg, wOp, wCall, wQ, wML, wNil, wCons, wTup, wLst, wLstM, wIsi, wSl, wPart, wNoPart, wMinD, wJoin, wFrz, gN, sIx, sIs, sIsN, sI, sI0, truU, tyOk, tyU, isTruth, L3.isNon, itemsU, listU, ixU, qInt, qAbs, qStr, L3.max_int, start3, L3.kk_nb, L3.kk_nt, L3.kk_ni, L3.kk_ns, L3.kk_nl, L3.kk_bb, L3.kk_bt, L3.kk_bi, L3.kk_bs, L3.kk_bl, L3.kk_ib, L3.kk_it, L3.kk_ii, L3.kk_is, L3.kk_il, L3.kk_sb, L3.kk_st, L3.kk_si, L3.kk_ss, L3.kk_sl, L3.kk_tb, L3.kk_tt, L3.kk_ti, L3.kk_ts, L3.kk_tl, L3.kk_lb, L3.kk_lt, L3.kk_li, L3.kk_ls, L3.kk_ll, L3.at_0, L3.at_1, L3.at_2, L3.at_3, L3.eqA_int, L3.eqA_str, L3.eqA_bl, L3.lt_int, L3.gt_int, L3.le_int, L3.ge_int, L3.lt_str, L3.gt_str, L3.le_str, L3.ge_str, L3.add_int, L3.add_str, L3.exd, L3.exd0, L3.exd1, L3.exd2, L3.exd3, L3.exd4, L3.min_int, L3.min_str, L3.len_str, L3.len_lst, L3.len_tup]
          refine hN _ _ ⟨_, _, _, rfl, ?_⟩
          rw [tk]
          simp [cz]
    · subst h1 h2
      rw [List.length_map, od_len, List.take_length]
      simp [wSeq, wIfS, wRet, wRetN, wNext, wDrop, wAsg, wAug, wBreak, wCont, wV, wC, wB, L3.wTru, L3.wNot, wAnd, wOr, wAndV, wOrV, wNotV, L3.wIf, wNeg, wOp, wCall, wQ, wML, wNil, wCons, wTup, wLst, wLstM, wIsi, wSl, wPart, wNoPart, wMinD, wJoin, wFrz, gN, sIx, sIs, sIsN, sI, sI0, truU, tyOk, tyU, isTruth, L3.isNon, itemsU, listU, ixU, qInt, qAbs, qStr, L3.max_int, start3, L3.kk_nb, L3.kk_nt, L3.kk_ni, L3.kk_ns, L3.kk_nl, L3.kk_bb, L3.kk_bt, L3.kk_bi, L3.kk_bs, L3.kk_bl, L3.kk_ib, L3.kk_it, L3.kk_ii, L3.kk_is, L3.kk_il, L3.kk_sb, L3.kk_st, L3.kk_si, L3.kk_ss, L3.kk_sl, L3.kk_tb, L3.kk_tt, L3.kk_ti, L3.kk_ts, L3.kk_tl, L3.kk_lb, L3.kk_lt, L3.kk_li, L3.kk_ls, L3.kk_ll, L3.at_0, L3.at_1, L3.at_2, L3.at_3, L3.eqA_int, L3.eqA_str, L3.eqA_bl, L3.lt_int, L3.gt_int, L3.le_int, L3.ge_int, L3.lt_str, L3.gt_str, L3.le_str, L3.ge_str, L3.add_int, L3.add_str, L3.exd, L3.exd0, L3.exd1, L3.exd2, L3.exd3, L3.exd4, L3.min_int, L3.min_str, L3.len_str, L3.len_lst, L3.len_tup]
      refine ⟨names, row, rfl, n5, srt, ok, hr, fun ps hps => ?_⟩
      have pm := due_cs srt hr hps
      have hd : Cs 5 (form names row) (dueL names row (ops names.length)) := ⟨pm.nodup_iff.mp hps.nd, fun p => by rw [← pm.mem_iff]; exact hps.mem p, by rw [← pm.length_eq]; exact hps.len, fun p hp => hps.sz p (pm.mem_iff.mpr hp)⟩
      have so := parts_sort hd
      refine ⟨.r p, (dueL names row (ops names.length)).map fun p => .tuple (pd p), rfl, by simp [listU, put_same, cz, List.map_map], so.1, so.2, _, _, rfl, rfl, ?_⟩
      rw [sortD_eq (alike_parts ps) (pm.map fun p => PyData.tuple (pd p))]
      have gdp : ∀ p : Part, p.length ≤ 5 → gd (.tuple (pd p)) := fun p hp => by
        unfold gd
        refine ⟨by rw [pd_len]; omega, ?_⟩
        clear hp
        induction p with
        | nil => unfold pd gds; trivial
        | cons e p ih =>
          show gds (pe e :: pd p)
          unfold gds
          refine ⟨?_, ih⟩
          unfold pe gd
          refine ⟨by simp, ?_⟩
          simp [gds, gd]
      have gall : ∀ ds : List PyData, (∀ d ∈ ds, gd d) → gds ds := fun ds => by
        induction ds with
        | nil => intro _; unfold gds; trivial
        | cons d ds ih =>
          intro h
          unfold gds
          exact ⟨h d (List.mem_cons_self ..), ih fun x hx => h x (List.mem_cons_of_mem _ hx)⟩
      have dall : ∀ ds : List PyData, (∀ d ∈ ds, d.depth ≤ 3) → PyData.depthAll ds ≤ 3 := fun ds => by
        induction ds with
        | nil => intro _; unfold PyData.depthAll; omega
        | cons d ds ih =>
          intro h
          unfold PyData.depthAll
          have h1 := h d (List.mem_cons_self ..)
          have h2 := ih fun x hx => h x (List.mem_cons_of_mem _ hx)
          omega
      have mem : ∀ d ∈ sortD ((dueL names row (ops names.length)).map fun p => PyData.tuple (pd p)), ∃ p ∈ dueL names row (ops names.length), d = .tuple (pd p) := fun d hd => by
        obtain ⟨p, h1, h2⟩ := List.mem_map.mp ((sortD_perm _).mem_iff.mp hd)
        exact ⟨p, h1, h2.symm⟩
      have ln := (sortD_perm ((dueL names row (ops names.length)).map fun p => PyData.tuple (pd p))).length_eq
      rw [List.length_map] at ln
      have hd2 := hd.len
      refine ⟨_, rfl, ?_, ?_, rtE (q _)⟩
      · unfold gd
        refine ⟨by omega, gall _ fun d hd' => ?_⟩
        obtain ⟨p, h1, rfl⟩ := mem d hd'
        exact gdp p (hd.sz p h1).1
      · show PyData.depthAll _ + 1 ≤ 6
        have := dall _ fun d hd' => by
          obtain ⟨p, h1, rfl⟩ := mem d hd'
          have := depth_pd p
          show PyData.depthAll _ + 1 ≤ 3
          omega
        omega)
end
end K04

namespace K04
open PySem PySem.Spec PyProof.Rows L2 L3 Cn
theorem law_sp {K : PySem.W.Frag} {vs : List V} {H : Hp} {Q : VK} {E : XK} (h : ∃ (a : Addr) (ns : List Int), vs = [.ref a] ∧ SqL K H a (ns.map V.int) ∧ ns.length ≤ 63 ∧ ∀ H', Q (.bl true) H') : sp3 K S_law vs H Q E := by
  obtain ⟨a, ns, rfl, hS, hl, q⟩ := h
  refine ⟨[.d (.list (il ns))], fun _ => none, H, fun _ => none, fun u _ => u = .d (.bool true), ⟨fun _ _ h => h, fun _ _ h => (nomatch h), fun _ _ h => (nomatch h)⟩, .cons (Rp.lst hS (rps_ints' ns)) .nil, ⟨ns, rfl, hl, fun _ => rfl⟩, fun v u G' H' μ' _ _ r e => ?_⟩
  subst e
  rw [rp_bl r]
  exact q H'
/-! ### the head -/
def hd_p_both : He.DefD := ⟨("both", none), "both", "both", defArgs s_p_both, defBody s_p_both, defScope s_p_both, [], []⟩
def hd_p_implies : He.DefD := ⟨("implies", none), "implies", "implies", defArgs s_p_implies, defBody s_p_implies, defScope s_p_implies, [], []⟩
def hd_p__side : He.DefD := ⟨("_side", none), "_side", "_side", defArgs s_p__side, defBody s_p__side, defScope s_p__side, [], []⟩
def hd_p__node : He.DefD := ⟨("_node", none), "_node", "_node", defArgs s_p__node, defBody s_p__node, defScope s_p__node, [], []⟩
def hd_p_part_condition : He.DefD := ⟨("part_condition", none), "part_condition", "part_condition", defArgs s_p_part_condition, defBody s_p_part_condition, defScope s_p_part_condition, [], []⟩
def hd_p_least_causes : He.DefD := ⟨("least_causes", none), "least_causes", "least_causes", defArgs s_p_least_causes, defBody s_p_least_causes, defScope s_p_least_causes, [], []⟩
def hd_p__causes : He.DefD := ⟨("_causes", none), "_causes", "_causes", defArgs s_p__causes, defBody s_p__causes, defScope s_p__causes, [], []⟩
def hd_p__is_cause : He.DefD := ⟨("_is_cause", none), "_is_cause", "_is_cause", defArgs s_p__is_cause, defBody s_p__is_cause, defScope s_p__is_cause, [], []⟩
def hd_l_hand : He.DefD := ⟨("_law_hand", none), "_law_hand", "_law_hand", defArgs s_l_hand, defBody s_l_hand, defScope s_l_hand, [], []⟩
def hd_l_stirred : He.DefD := ⟨("_law_stirred", none), "_law_stirred", "_law_stirred", defArgs s_l_stirred, defBody s_l_stirred, defScope s_l_stirred, [], []⟩
def hd_l_take : He.DefD := ⟨("_law_take", none), "_law_take", "_law_take", defArgs s_l_take, defBody s_l_take, defScope s_l_take, [], []⟩
def hd_l_switch_names : He.DefD := ⟨("_law_switch_names", none), "_law_switch_names", "_law_switch_names", defArgs s_l_switch_names, defBody s_l_switch_names, defScope s_l_switch_names, [], []⟩
def hd_l_settings : He.DefD := ⟨("_law_settings", none), "_law_settings", "_law_settings", defArgs s_l_settings, defBody s_l_settings, defScope s_l_settings, [], []⟩
def hd_l_bits : He.DefD := ⟨("_law_bits", none), "_law_bits", "_law_bits", defArgs s_l_bits, defBody s_l_bits, defScope s_l_bits, [], []⟩
def hd_l_form : He.DefD := ⟨("_law_form", none), "_law_form", "_law_form", defArgs s_l_form, defBody s_l_form, defScope s_l_form, [], []⟩
def hd_l_openings : He.DefD := ⟨("_law_openings", none), "_law_openings", "_law_openings", defArgs s_l_openings, defBody s_l_openings, defScope s_l_openings, [], []⟩
def hd_l_inside : He.DefD := ⟨("_law_inside", none), "_law_inside", "_law_inside", defArgs s_l_inside, defBody s_l_inside, defScope s_l_inside, [], []⟩
def hd_l_always : He.DefD := ⟨("_law_always", none), "_law_always", "_law_always", defArgs s_l_always, defBody s_l_always, defScope s_l_always, [], []⟩
def hd_l_is_least : He.DefD := ⟨("_law_is_least", none), "_law_is_least", "_law_is_least", defArgs s_l_is_least, defBody s_l_is_least, defScope s_l_is_least, [], []⟩
def hd_l_whole : He.DefD := ⟨("_law_whole", none), "_law_whole", "_law_whole", defArgs s_l_whole, defBody s_l_whole, defScope s_l_whole, [], []⟩
def hd_l_alike : He.DefD := ⟨("_law_alike", none), "_law_alike", "_law_alike", defArgs s_l_alike, defBody s_l_alike, defScope s_l_alike, [], []⟩
def hd_p_law : He.DefD := ⟨("law", none), "law", "law", defArgs s_p_law, defBody s_p_law, defScope s_p_law, [], []⟩
def hfn : List He.DefD := [hd_p_both, hd_p_implies, hd_p__side, hd_p__node, hd_p_part_condition, hd_p_least_causes, hd_p__causes, hd_p__is_cause, hd_l_hand, hd_l_stirred, hd_l_take, hd_l_switch_names, hd_l_settings, hd_l_bits, hd_l_form, hd_l_openings, hd_l_inside, hd_l_always, hd_l_is_least, hd_l_whole, hd_l_alike, hd_p_law]
def hfa : List He.Fa := [.glo "both", .glo "implies", .glo "_side", .glo "_node", .glo "part_condition", .glo "least_causes", .glo "_causes", .glo "_is_cause", .glo "_law_hand", .glo "_law_stirred", .glo "_law_take", .glo "_law_switch_names", .glo "_law_settings", .glo "_law_bits", .glo "_law_form", .glo "_law_openings", .glo "_law_inside", .glo "_law_always", .glo "_law_is_least", .glo "_law_whole", .glo "_law_alike", .glo "law", .free "min", .free "isinstance", .free "tuple", .free "sorted", .free "len", .free "int", .free "abs", .free "range", .free "str", .free "reversed", .free "bool"]
abbrev HR : PySem.W.OpenRow := PySem.W.OpenLaw.row PySem.Challenge.rw_eacharm_k04_least_causes_all_told
abbrev hk : PySem.W.Hook := He.hookD 4 hfa hfn
def hob (s : PySem.W.SharedT) : He.AlD := He.obsDG 4 hfa hfn (HandSHeadRun.getT s)
theorem hob_eq (s : PySem.W.SharedT) : hob s = hk.obs s.abs := He.obsDG_eq (HandSHeadRun.getT_eq s)
theorem hrun (w : World) : HandSHeadRun.RunEq HR (PySem.W.view HR.prog [24]) hk hob 3000 ["both", "implies", "_side", "_node", "part_condition", "least_causes", "_causes", "_is_cause", "_law_hand", "_law_stirred", "_law_take", "_law_switch_names", "_law_settings", "_law_bits", "_law_form", "_law_openings", "_law_inside", "_law_always", "_law_is_least", "_law_whole", "_law_alike"] w := by
  intro os
  kernel_rfl
section
variable {K : PySem.W.Frag} {h : Heap} {mg : Str → Option Value}
theorem dn_p_both (X : K.In h) (G : h.Ns mainGlobals mg) (c : He.SaysD hfa hfn K) : Dn K mg "both" s_p_both := by
  obtain ⟨fd, F⟩ := c.def_ 0 (d := hd_p_both) rfl
  exact ⟨_, fd, F, He.glo_ok X G (c.fact 0 (f := .glo "both") rfl)⟩
theorem dn_p_implies (X : K.In h) (G : h.Ns mainGlobals mg) (c : He.SaysD hfa hfn K) : Dn K mg "implies" s_p_implies := by
  obtain ⟨fd, F⟩ := c.def_ 1 (d := hd_p_implies) rfl
  exact ⟨_, fd, F, He.glo_ok X G (c.fact 1 (f := .glo "implies") rfl)⟩
theorem dn_p__side (X : K.In h) (G : h.Ns mainGlobals mg) (c : He.SaysD hfa hfn K) : Dn K mg "_side" s_p__side := by
  obtain ⟨fd, F⟩ := c.def_ 2 (d := hd_p__side) rfl
  exact ⟨_, fd, F, He.glo_ok X G (c.fact 2 (f := .glo "_side") rfl)⟩
theorem dn_p__node (X : K.In h) (G : h.Ns mainGlobals mg) (c : He.SaysD hfa hfn K) : Dn K mg "_node" s_p__node := by
  obtain ⟨fd, F⟩ := c.def_ 3 (d := hd_p__node) rfl
  exact ⟨_, fd, F, He.glo_ok X G (c.fact 3 (f := .glo "_node") rfl)⟩
theorem dn_p_part_condition (X : K.In h) (G : h.Ns mainGlobals mg) (c : He.SaysD hfa hfn K) : Dn K mg "part_condition" s_p_part_condition := by
  obtain ⟨fd, F⟩ := c.def_ 4 (d := hd_p_part_condition) rfl
  exact ⟨_, fd, F, He.glo_ok X G (c.fact 4 (f := .glo "part_condition") rfl)⟩
theorem dn_p_least_causes (X : K.In h) (G : h.Ns mainGlobals mg) (c : He.SaysD hfa hfn K) : Dn K mg "least_causes" s_p_least_causes := by
  obtain ⟨fd, F⟩ := c.def_ 5 (d := hd_p_least_causes) rfl
  exact ⟨_, fd, F, He.glo_ok X G (c.fact 5 (f := .glo "least_causes") rfl)⟩
theorem dn_p__causes (X : K.In h) (G : h.Ns mainGlobals mg) (c : He.SaysD hfa hfn K) : Dn K mg "_causes" s_p__causes := by
  obtain ⟨fd, F⟩ := c.def_ 6 (d := hd_p__causes) rfl
  exact ⟨_, fd, F, He.glo_ok X G (c.fact 6 (f := .glo "_causes") rfl)⟩
theorem dn_p__is_cause (X : K.In h) (G : h.Ns mainGlobals mg) (c : He.SaysD hfa hfn K) : Dn K mg "_is_cause" s_p__is_cause := by
  obtain ⟨fd, F⟩ := c.def_ 7 (d := hd_p__is_cause) rfl
  exact ⟨_, fd, F, He.glo_ok X G (c.fact 7 (f := .glo "_is_cause") rfl)⟩
theorem dn_l_hand (X : K.In h) (G : h.Ns mainGlobals mg) (c : He.SaysD hfa hfn K) : Dn K mg "_law_hand" s_l_hand := by
  obtain ⟨fd, F⟩ := c.def_ 8 (d := hd_l_hand) rfl
  exact ⟨_, fd, F, He.glo_ok X G (c.fact 8 (f := .glo "_law_hand") rfl)⟩
theorem dn_l_stirred (X : K.In h) (G : h.Ns mainGlobals mg) (c : He.SaysD hfa hfn K) : Dn K mg "_law_stirred" s_l_stirred := by
  obtain ⟨fd, F⟩ := c.def_ 9 (d := hd_l_stirred) rfl
  exact ⟨_, fd, F, He.glo_ok X G (c.fact 9 (f := .glo "_law_stirred") rfl)⟩
theorem dn_l_take (X : K.In h) (G : h.Ns mainGlobals mg) (c : He.SaysD hfa hfn K) : Dn K mg "_law_take" s_l_take := by
  obtain ⟨fd, F⟩ := c.def_ 10 (d := hd_l_take) rfl
  exact ⟨_, fd, F, He.glo_ok X G (c.fact 10 (f := .glo "_law_take") rfl)⟩
theorem dn_l_switch_names (X : K.In h) (G : h.Ns mainGlobals mg) (c : He.SaysD hfa hfn K) : Dn K mg "_law_switch_names" s_l_switch_names := by
  obtain ⟨fd, F⟩ := c.def_ 11 (d := hd_l_switch_names) rfl
  exact ⟨_, fd, F, He.glo_ok X G (c.fact 11 (f := .glo "_law_switch_names") rfl)⟩
theorem dn_l_settings (X : K.In h) (G : h.Ns mainGlobals mg) (c : He.SaysD hfa hfn K) : Dn K mg "_law_settings" s_l_settings := by
  obtain ⟨fd, F⟩ := c.def_ 12 (d := hd_l_settings) rfl
  exact ⟨_, fd, F, He.glo_ok X G (c.fact 12 (f := .glo "_law_settings") rfl)⟩
theorem dn_l_bits (X : K.In h) (G : h.Ns mainGlobals mg) (c : He.SaysD hfa hfn K) : Dn K mg "_law_bits" s_l_bits := by
  obtain ⟨fd, F⟩ := c.def_ 13 (d := hd_l_bits) rfl
  exact ⟨_, fd, F, He.glo_ok X G (c.fact 13 (f := .glo "_law_bits") rfl)⟩
theorem dn_l_form (X : K.In h) (G : h.Ns mainGlobals mg) (c : He.SaysD hfa hfn K) : Dn K mg "_law_form" s_l_form := by
  obtain ⟨fd, F⟩ := c.def_ 14 (d := hd_l_form) rfl
  exact ⟨_, fd, F, He.glo_ok X G (c.fact 14 (f := .glo "_law_form") rfl)⟩
theorem dn_l_openings (X : K.In h) (G : h.Ns mainGlobals mg) (c : He.SaysD hfa hfn K) : Dn K mg "_law_openings" s_l_openings := by
  obtain ⟨fd, F⟩ := c.def_ 15 (d := hd_l_openings) rfl
  exact ⟨_, fd, F, He.glo_ok X G (c.fact 15 (f := .glo "_law_openings") rfl)⟩
theorem dn_l_inside (X : K.In h) (G : h.Ns mainGlobals mg) (c : He.SaysD hfa hfn K) : Dn K mg "_law_inside" s_l_inside := by
  obtain ⟨fd, F⟩ := c.def_ 16 (d := hd_l_inside) rfl
  exact ⟨_, fd, F, He.glo_ok X G (c.fact 16 (f := .glo "_law_inside") rfl)⟩
theorem dn_l_always (X : K.In h) (G : h.Ns mainGlobals mg) (c : He.SaysD hfa hfn K) : Dn K mg "_law_always" s_l_always := by
  obtain ⟨fd, F⟩ := c.def_ 17 (d := hd_l_always) rfl
  exact ⟨_, fd, F, He.glo_ok X G (c.fact 17 (f := .glo "_law_always") rfl)⟩
theorem dn_l_is_least (X : K.In h) (G : h.Ns mainGlobals mg) (c : He.SaysD hfa hfn K) : Dn K mg "_law_is_least" s_l_is_least := by
  obtain ⟨fd, F⟩ := c.def_ 18 (d := hd_l_is_least) rfl
  exact ⟨_, fd, F, He.glo_ok X G (c.fact 18 (f := .glo "_law_is_least") rfl)⟩
theorem dn_l_whole (X : K.In h) (G : h.Ns mainGlobals mg) (c : He.SaysD hfa hfn K) : Dn K mg "_law_whole" s_l_whole := by
  obtain ⟨fd, F⟩ := c.def_ 19 (d := hd_l_whole) rfl
  exact ⟨_, fd, F, He.glo_ok X G (c.fact 19 (f := .glo "_law_whole") rfl)⟩
theorem dn_l_alike (X : K.In h) (G : h.Ns mainGlobals mg) (c : He.SaysD hfa hfn K) : Dn K mg "_law_alike" s_l_alike := by
  obtain ⟨fd, F⟩ := c.def_ 20 (d := hd_l_alike) rfl
  exact ⟨_, fd, F, He.glo_ok X G (c.fact 20 (f := .glo "_law_alike") rfl)⟩
theorem dn_p_law (X : K.In h) (G : h.Ns mainGlobals mg) (c : He.SaysD hfa hfn K) : Dn K mg "law" s_p_law := by
  obtain ⟨fd, F⟩ := c.def_ 21 (d := hd_p_law) rfl
  exact ⟨_, fd, F, He.glo_ok X G (c.fact 21 (f := .glo "law") rfl)⟩
theorem fr_min (X : K.In h) (G : h.Ns mainGlobals mg) (c : He.SaysD hfa hfn K) : mg "min" = none := He.free_ok X G (c.fact 22 (f := .free "min") rfl)
theorem fr_isinstance (X : K.In h) (G : h.Ns mainGlobals mg) (c : He.SaysD hfa hfn K) : mg "isinstance" = none := He.free_ok X G (c.fact 23 (f := .free "isinstance") rfl)
theorem fr_tuple (X : K.In h) (G : h.Ns mainGlobals mg) (c : He.SaysD hfa hfn K) : mg "tuple" = none := He.free_ok X G (c.fact 24 (f := .free "tuple") rfl)
theorem fr_sorted (X : K.In h) (G : h.Ns mainGlobals mg) (c : He.SaysD hfa hfn K) : mg "sorted" = none := He.free_ok X G (c.fact 25 (f := .free "sorted") rfl)
theorem fr_len (X : K.In h) (G : h.Ns mainGlobals mg) (c : He.SaysD hfa hfn K) : mg "len" = none := He.free_ok X G (c.fact 26 (f := .free "len") rfl)
theorem fr_int (X : K.In h) (G : h.Ns mainGlobals mg) (c : He.SaysD hfa hfn K) : mg "int" = none := He.free_ok X G (c.fact 27 (f := .free "int") rfl)
theorem fr_abs (X : K.In h) (G : h.Ns mainGlobals mg) (c : He.SaysD hfa hfn K) : mg "abs" = none := He.free_ok X G (c.fact 28 (f := .free "abs") rfl)
theorem fr_range (X : K.In h) (G : h.Ns mainGlobals mg) (c : He.SaysD hfa hfn K) : mg "range" = none := He.free_ok X G (c.fact 29 (f := .free "range") rfl)
theorem fr_str (X : K.In h) (G : h.Ns mainGlobals mg) (c : He.SaysD hfa hfn K) : mg "str" = none := He.free_ok X G (c.fact 30 (f := .free "str") rfl)
theorem fr_reversed (X : K.In h) (G : h.Ns mainGlobals mg) (c : He.SaysD hfa hfn K) : mg "reversed" = none := He.free_ok X G (c.fact 31 (f := .free "reversed") rfl)
theorem fr_bool (X : K.In h) (G : h.Ns mainGlobals mg) (c : He.SaysD hfa hfn K) : mg "bool" = none := He.free_ok X G (c.fact 32 (f := .free "bool") rfl)
theorem henv (X : K.In h) (G : h.Ns mainGlobals mg) (c : He.SaysD hfa hfn K) : Env0 K mg := { len := fr_len X G c, int := fr_int X G c, rng := fr_range X G c, mn := fr_min X G c, srt := fr_sorted X G c, tup := fr_tuple X G c, str := fr_str X G c, bool := fr_bool X G c, abs := fr_abs X G c, isi := fr_isinstance X G c, rev := fr_reversed X G c, d_both := dn_p_both X G c, d_imp := dn_p_implies X G c, d_side := dn_p__side X G c, d_node := dn_p__node X G c, d_pc := dn_p_part_condition X G c, d_lc := dn_p_least_causes X G c, d_ca := dn_p__causes X G c, d_ic := dn_p__is_cause X G c, l_hand := dn_l_hand X G c, l_st := dn_l_stirred X G c, l_take := dn_l_take X G c, l_nm := dn_l_switch_names X G c, l_sets := dn_l_settings X G c, l_bits := dn_l_bits X G c, l_form := dn_l_form X G c, l_op := dn_l_openings X G c, l_in := dn_l_inside X G c, l_aw := dn_l_always X G c, l_il := dn_l_is_least X G c, l_wh := dn_l_whole X G c, l_al := dn_l_alike X G c, l_law := dn_p_law X G c }
def spLaw (K : PySem.W.Frag) : Sp := fun vs H Q _ => ∃ (a : Addr) (ns : List Int), vs = [.ref a] ∧ SqL K H a (ns.map V.int) ∧ ns.length ≤ 63 ∧ ∀ H', Q (.bl true) H'
theorem hfacts {P : Program} {w : World} {f : Addr} (X : K.In h) (G : h.Ns mainGlobals mg) (hlaw : mg ("law" : Str) = some (.ref f)) (c : He.SaysD hfa hfn K) :
    ∃ fd : FuncData, (∀ (s : Shared) (v : Value), BindsTo s fd ⟨[v], []⟩ [("_law_script", v)]) ∧ ∀ base : Heap, K.In base → base.Ns mainGlobals mg → FnOk P w K mg base CX0 45 f fd ["_law_script"] (spLaw K) := by
  have E := henv X G c
  obtain ⟨fd, F⟩ := c.def_ 21 (d := hd_p_law) rfl
  have e := hlaw.symm.trans (He.glo_ok X G (c.fact 21 (f := .glo "law") rfl))
  cases e
  have b := FunD.bindsA (ps := ["_law_script"]) F fun _ _ _ _ _ _ us hl => match us, hl with | [_], _ => rfl
  exact ⟨fd, fun s v => b s [v] rfl, fun base _ _ => (law_ok E F).imp fun vs H Q E' h => law_sp h⟩
end
end K04
open PySem PySem.W PySem.Calls PyProof.Rows
theorem PySem.Challenge.cw_eacharm_k04_least_causes_all_told_holds : PySem.Challenge.rw_eacharm_k04_least_causes_all_told.Holds := by
  w_on; o_law
  refine HandSHeadRun.head_any (r := OpenLaw.row PySem.Challenge.rw_eacharm_k04_least_causes_all_told) (q := view (OpenLaw.row PySem.Challenge.rw_eacharm_k04_least_causes_all_told).prog [24]) (H := K04.hk) (ob := K04.hob) (M := 3000) (loose := ["both", "implies", "_side", "_node", "part_condition", "least_causes", "_causes", "_is_cause", "_law_hand", "_law_stirred", "_law_take", "_law_switch_names", "_law_settings", "_law_bits", "_law_form", "_law_openings", "_law_inside", "_law_always", "_law_is_least", "_law_whole", "_law_alike"]) (d := HandSHeadRun.topDef (OpenLaw.row PySem.Challenge.rw_eacharm_k04_least_causes_all_told).prog 24) (kwd := []) K04.hob_eq
    (by kernel_rfl) (fun s => by kernel_rfl) K04.hrun (by kernel_rfl) (by kernel_rfl) (by kernel_rfl) (by rfl) (by first | assumption | decide +kernel) (by decide +kernel) ⟨rfl, rfl, rfl, rfl, rfl, by decide +kernel⟩ ?hw ?hc
  case hw => w_witness2
  case hc =>
    refine L2.walk_ofE (l := PySem.Challenge.rw_eacharm_k04_least_causes_all_told) (n := 63) (k := 45) (x := "_law_script") (CX := L2.CX0) rfl (by decide) (by kernel_rfl) ⟨rfl, by decide, by decide⟩ ?F (fun _ _ _ _ z => z)
    intro w mg fa h Y G hmg0
    obtain ⟨K, KX, c⟩ := Y
    have hmg : mg ("law" : PySem.Str) = some (.ref fa) := by
      have e : (HandSHeadRun.topDef (OpenLaw.row PySem.Challenge.rw_eacharm_k04_least_causes_all_told).prog 24).name = ("law" : PySem.Str) := by kernel_rfl
      rw [← e]
      exact hmg0
    obtain ⟨fd, hb, hF⟩ := K04.hfacts (P := (PySem.Challenge.rw_eacharm_k04_least_causes_all_told).prog) (w := w) KX G hmg c
    exact ⟨K, fd, K04.spLaw K, KX, hb, fun H a ns hl _ hS => ⟨a, ns, rfl, hS, hl, fun _ => rfl⟩, hF⟩
