import PyProof.Rows.All
import HandS.ForMost
import HandS.ForExc
import HandS.Walk
import HandS.Wide
import HandS.TupLe
import HandS.TupAny
import HandS.TupMul
import HandS.IsInst
import HandS.Zip
import HandS.Deep
import HandS.FStr
import HandS.DictComp
import HandS.RaiseMore
import KE.GoesEnum
import HandS.Defaults
import HandS.MakeKw
import HandS.MakeKwOnly
import HandS.ExcOwn
import PyProof.ReprRoads
import PyProof.CallFns
import PyProof.FString4
import HandS.Star
import HandS.Strs
import HandS.Style
import HandS.ExcInit
import HandS.ExcField
import HandS.ExcIs
import HandS.ExcValue
import PyProof.ExcBaseAll.IndexError
import PyProof.ExcBaseAll.OverflowError
import PyProof.ExcBaseAll.ZeroDivisionError
import PyProof.ExcBaseAll.LookupError
import PyProof.ExcBaseAll.ValueError
import PyProof.Rows.RegStrFacts
import HandS.WordsExc
import HandS.Iter
import HandS.HeadHook1
import HandS.HeadHook2
import HandS.HeadHook3
import HandS.HeadHook4
import HandS.SortInts
import KE.KTupSum
import PyProof.StrOps2
import PyProof.Ascii
import PyProof.ReprText
import PyProof.InstNe
import KE.KCallOwn
import HandS.Gcd
import HandS.OwnEq
import HandS.Flow
import HandS.Steps
import HandS.NoneIn
import HandS.DictSub
import HandS.Head0
import HandS.Head1
import HandS.Head2
import HandS.HeadEnd
import HandS.Head3
import KE.KStateDown
import PySem.Challenge.RW_crowdsay_k30_shares
section
set_option Elab.async false
set_option linter.all false
set_option maxRecDepth 100000
set_option maxHeartbeats 2000000
/-! D1: data without addresses, slots, the two heaps. -/
namespace DL
open PySem PySem.Spec L2

inductive Dt where
  | non | bl (b : Bool) | int (i : Int) | str (x : Str) | ty (n : String) | ref (a : Addr)
  | lst (ds : List Dt) | rol (ds : List Dt) | tup (ds : List Dt) | dct (ks : List Key) (ds : List Dt)
  | obj (C : Addr) (ns : List Str) (ds : List Dt)
  | exn (C : Addr) (ns : List Str) (ds : List Dt)

abbrev Fg := PySem.W.Frag
/-- an exception object that is held -/
def ExV (cls : Value) (d : Option Addr) (a : Addr) : HO := .ext fun h => ∃ (oe : Obj) (vs : Array Value), h.get? a = some oe ∧ Zc cls d oe ∧ oe.data = .fields vs

mutual
def RD (K : Fg) (H : Hp) : Dt → V → Prop
  | .non, v => v = V.non
  | .bl b, v => v = V.bl b
  | .int i, v => v = V.int i
  | .str x, v => v = V.str x
  | .ty n, v => v = V.ty n
  | .ref a, v => v = V.ref a
  | .lst ds, v => ∃ a xs, v = V.ref a ∧ H a = some (.lst xs) ∧ RDs K H ds xs
  | .rol ds, v => ∃ a xs, v = V.ref a ∧ SqL K H a xs ∧ RDs K H ds xs
  | .tup ds, v => ∃ a xs, v = V.ref a ∧ SqT K H a xs ∧ RDs K H ds xs
  | .dct ks ds, v => ∃ a kvs, v = V.ref a ∧ H a = some (.dK kvs) ∧ kvs.map (·.1) = ks ∧ RDs K H ds (kvs.map (·.2))
  | .obj C ns ds, v => ∃ a dx fs, v = V.ref a ∧ H a = some (.ins C dx fs) ∧ fs.map (·.1) = ns ∧ RDs K H ds (fs.map (·.2))
  | .exn C ns ds, v => ∃ a d fs, v = V.ref a ∧ H a = some (ExV (.ref C) d a) ∧ ((d = none ∧ fs = []) ∨ ∃ dx, d = some dx ∧ H dx = some (.xd fs)) ∧ fs.map (·.1) = ns ∧ RDs K H ds (fs.map (·.2))
def RDs (K : Fg) (H : Hp) : List Dt → List V → Prop
  | [], vs => vs = []
  | d :: ds, vs => ∃ v r, vs = v :: r ∧ RD K H d v ∧ RDs K H ds r
end

theorem sqT_mono {K : Fg} {H H' : Hp} {a : Addr} {xs : List V} (e : Same H H') (h : SqT K H a xs) : SqT K H' a xs := by
  rcases h with (h | ⟨o, h⟩) | h
  · exact .inl (.inl (e _ _ h))
  · exact .inl (.inr ⟨o, e _ _ h⟩)
  · exact .inr h

mutual
theorem RD.mono {K : Fg} {H H' : Hp} (e : Same H H') : ∀ {d : Dt} {v : V}, RD K H d v → RD K H' d v
  | .non, _, h | .bl _, _, h | .int _, _, h | .str _, _, h | .ty _, _, h | .ref _, _, h => h
  | .lst ds, v, ⟨a, xs, h1, h2, h3⟩ => ⟨a, xs, h1, e _ _ h2, RDs.mono e h3⟩
  | .rol ds, v, ⟨a, xs, h1, h2, h3⟩ => ⟨a, xs, h1, e.seq h2, RDs.mono e h3⟩
  | .tup ds, v, ⟨a, xs, h1, h2, h3⟩ => ⟨a, xs, h1, sqT_mono e h2, RDs.mono e h3⟩
  | .dct ks ds, v, ⟨a, kvs, h1, h2, h3, h4⟩ => ⟨a, kvs, h1, e _ _ h2, h3, RDs.mono e h4⟩
  | .obj C ns ds, v, ⟨a, dx, fs, h1, h2, h3, h4⟩ => ⟨a, dx, fs, h1, e _ _ h2, h3, RDs.mono e h4⟩
  | .exn C ns ds, v, ⟨a, dx, fs, h1, h2, h2', h3, h4⟩ => ⟨a, dx, fs, h1, e _ _ h2, h2'.imp id (fun ⟨y, p, q⟩ => ⟨y, p, e _ _ q⟩), h3, RDs.mono e h4⟩
theorem RDs.mono {K : Fg} {H H' : Hp} (e : Same H H') : ∀ {ds : List Dt} {vs : List V}, RDs K H ds vs → RDs K H' ds vs
  | [], _, h => h
  | d :: ds, vs, ⟨v, r, h1, h2, h3⟩ => ⟨v, r, h1, RD.mono e h2, RDs.mono e h3⟩
end

section
variable {K : Fg} {H : Hp}
theorem RDs.nil : RDs K H [] [] := by unfold RDs; rfl
theorem RDs.cons {d : Dt} {ds : List Dt} {v : V} {vs : List V} (h : RD K H d v) (r : RDs K H ds vs) : RDs K H (d :: ds) (v :: vs) := by
  unfold RDs; exact ⟨v, vs, rfl, h, r⟩
theorem RDs.inv {d : Dt} {ds : List Dt} {vs : List V} (h : RDs K H (d :: ds) vs) : ∃ v r, vs = v :: r ∧ RD K H d v ∧ RDs K H ds r := by
  unfold RDs at h; exact h
theorem RDs.nil_inv {vs : List V} (h : RDs K H [] vs) : vs = [] := by unfold RDs at h; exact h
theorem RDs.length : ∀ {ds : List Dt} {vs : List V}, RDs K H ds vs → vs.length = ds.length
  | [], vs, h => by rw [RDs.nil_inv h]; rfl
  | d :: ds, vs, h => by
    obtain ⟨v, r, rfl, _, h3⟩ := h.inv
    simp [RDs.length h3]
theorem RDs.get : ∀ {ds : List Dt} {vs : List V} {i : Nat} {d : Dt}, RDs K H ds vs → ds[i]? = some d → ∃ v, vs[i]? = some v ∧ RD K H d v
  | [], _, _, _, _, e => by simp at e
  | a :: ds, vs, 0, d, h, e => by
    obtain ⟨v, r, rfl, h2, _⟩ := h.inv
    simp at e; subst e; exact ⟨v, rfl, h2⟩
  | a :: ds, vs, i + 1, d, h, e => by
    obtain ⟨v, r, rfl, _, h3⟩ := h.inv
    simpa using RDs.get h3 (i := i) (d := d) (by simpa using e)
theorem RDs.getV : ∀ {ds : List Dt} {vs : List V} {i : Nat} {v : V}, RDs K H ds vs → vs[i]? = some v → ∃ d, ds[i]? = some d ∧ RD K H d v
  | [], vs, i, v, h, e => by rw [RDs.nil_inv h] at e; simp at e
  | a :: ds, vs, 0, v, h, e => by
    obtain ⟨v', r, rfl, h2, _⟩ := h.inv
    simp at e; subst e; exact ⟨a, rfl, h2⟩
  | a :: ds, vs, i + 1, v, h, e => by
    obtain ⟨v', r, rfl, _, h3⟩ := h.inv
    simpa using RDs.getV h3 (i := i) (v := v) (by simpa using e)
theorem RDs.append : ∀ {ds es : List Dt} {vs us : List V}, RDs K H ds vs → RDs K H es us → RDs K H (ds ++ es) (vs ++ us)
  | [], _, _, _, h, g => by rw [RDs.nil_inv h]; exact g
  | a :: ds, es, vs, us, h, g => by
    obtain ⟨v', r, rfl, h2, h3⟩ := h.inv
    exact RDs.cons h2 (RDs.append h3 g)
theorem RDs.take : ∀ {ds : List Dt} {vs : List V} (n : Nat), RDs K H ds vs → RDs K H (ds.take n) (vs.take n)
  | _, _, 0, _ => by simpa using RDs.nil
  | [], vs, n + 1, h => by rw [RDs.nil_inv h]; simpa using RDs.nil
  | a :: ds, vs, n + 1, h => by
    obtain ⟨v', r, rfl, h2, h3⟩ := h.inv
    exact RDs.cons h2 (RDs.take n h3)
theorem RDs.drop : ∀ {ds : List Dt} {vs : List V} (n : Nat), RDs K H ds vs → RDs K H (ds.drop n) (vs.drop n)
  | _, _, 0, h => by simpa using h
  | [], vs, n + 1, h => by rw [RDs.nil_inv h]; simpa using RDs.nil
  | a :: ds, vs, n + 1, h => by
    obtain ⟨v', r, rfl, h2, h3⟩ := h.inv
    exact RDs.drop n h3
theorem RDs.set : ∀ {ds : List Dt} {vs : List V} (n : Nat) {d : Dt} {v : V}, RDs K H ds vs → RD K H d v → RDs K H (ds.set n d) (vs.set n v)
  | [], vs, n, d, v, h, _ => by rw [RDs.nil_inv h]; simpa using RDs.nil
  | a :: ds, vs, 0, d, v, h, g => by
    obtain ⟨v', r, rfl, h2, h3⟩ := h.inv
    exact RDs.cons g h3
  | a :: ds, vs, n + 1, d, v, h, g => by
    obtain ⟨v', r, rfl, h2, h3⟩ := h.inv
    exact RDs.cons h2 (RDs.set n h3 g)
theorem RDs.reverse {ds : List Dt} {vs : List V} (h : RDs K H ds vs) : RDs K H ds.reverse vs.reverse := by
  induction ds generalizing vs with
  | nil => rw [RDs.nil_inv h]; exact RDs.nil
  | cons a ds ih =>
    obtain ⟨v', r, rfl, h2, h3⟩ := h.inv
    rw [List.reverse_cons, List.reverse_cons]
    exact RDs.append (ih h3) (RDs.cons h2 RDs.nil)
theorem RD.int {i : Int} : RD K H (.int i) (.int i) := by unfold RD; rfl
theorem RD.bl {i : Bool} : RD K H (.bl i) (.bl i) := by unfold RD; rfl
theorem RD.str {i : Str} : RD K H (.str i) (.str i) := by unfold RD; rfl
theorem RD.non : RD K H .non .non := by unfold RD; rfl
theorem RD.ty {n : String} : RD K H (.ty n) (.ty n) := by unfold RD; rfl
theorem RD.ref {a : Addr} : RD K H (.ref a) (.ref a) := by unfold RD; rfl
theorem RD.lst {a : Addr} {ds : List Dt} {xs : List V} (h : H a = some (.lst xs)) (r : RDs K H ds xs) : RD K H (.lst ds) (.ref a) := by unfold RD; exact ⟨a, xs, rfl, h, r⟩
theorem RD.rol {a : Addr} {ds : List Dt} {xs : List V} (h : SqL K H a xs) (r : RDs K H ds xs) : RD K H (.rol ds) (.ref a) := by unfold RD; exact ⟨a, xs, rfl, h, r⟩
theorem RD.rol_inv {ds : List Dt} {v : V} (h : RD K H (.rol ds) v) : ∃ a xs, v = V.ref a ∧ SqL K H a xs ∧ RDs K H ds xs := by unfold RD at h; exact h
theorem RD.tup {a : Addr} {ds : List Dt} {xs : List V} (h : SqT K H a xs) (r : RDs K H ds xs) : RD K H (.tup ds) (.ref a) := by unfold RD; exact ⟨a, xs, rfl, h, r⟩
theorem RD.int_inv {i : Int} {v : V} (h : RD K H (.int i) v) : v = .int i := by unfold RD at h; exact h
theorem RD.bl_inv {i : Bool} {v : V} (h : RD K H (.bl i) v) : v = .bl i := by unfold RD at h; exact h
theorem RD.str_inv {i : Str} {v : V} (h : RD K H (.str i) v) : v = .str i := by unfold RD at h; exact h
theorem RD.non_inv {v : V} (h : RD K H .non v) : v = .non := by unfold RD at h; exact h
theorem RD.ty_inv {n : String} {v : V} (h : RD K H (.ty n) v) : v = .ty n := by unfold RD at h; exact h
theorem RD.ref_inv {n : Addr} {v : V} (h : RD K H (.ref n) v) : v = .ref n := by unfold RD at h; exact h
theorem RD.lst_inv {ds : List Dt} {v : V} (h : RD K H (.lst ds) v) : ∃ a xs, v = V.ref a ∧ H a = some (.lst xs) ∧ RDs K H ds xs := by unfold RD at h; exact h
theorem RD.tup_inv {ds : List Dt} {v : V} (h : RD K H (.tup ds) v) : ∃ a xs, v = V.ref a ∧ SqT K H a xs ∧ RDs K H ds xs := by unfold RD at h; exact h
theorem RD.dct_inv {ks : List Key} {ds : List Dt} {v : V} (h : RD K H (.dct ks ds) v) : ∃ a kvs, v = V.ref a ∧ H a = some (.dK kvs) ∧ kvs.map (·.1) = ks ∧ RDs K H ds (kvs.map (·.2)) := by unfold RD at h; exact h
theorem RD.obj_inv {C : Addr} {ns : List Str} {ds : List Dt} {v : V} (h : RD K H (.obj C ns ds) v) : ∃ a dx fs, v = V.ref a ∧ H a = some (.ins C dx fs) ∧ fs.map (·.1) = ns ∧ RDs K H ds (fs.map (·.2)) := by unfold RD at h; exact h
/-- ints -/
theorem RDs.ints : ∀ {ns : List Int} {vs : List V}, RDs K H (ns.map Dt.int) vs → vs = ns.map V.int
  | [], vs, h => RDs.nil_inv h
  | n :: ns, vs, h => by
    obtain ⟨v, r, rfl, h2, h3⟩ := RDs.inv h
    rw [RD.int_inv h2, RDs.ints h3]; rfl
theorem RDs.bls : ∀ {ns : List Bool} {vs : List V}, RDs K H (ns.map Dt.bl) vs → vs = ns.map V.bl
  | [], vs, h => RDs.nil_inv h
  | n :: ns, vs, h => by
    obtain ⟨v, r, rfl, h2, h3⟩ := RDs.inv h
    rw [RD.bl_inv h2, RDs.bls h3]; rfl
theorem RDs.strs : ∀ {ns : List Str} {vs : List V}, RDs K H (ns.map Dt.str) vs → vs = ns.map V.str
  | [], vs, h => RDs.nil_inv h
  | n :: ns, vs, h => by
    obtain ⟨v, r, rfl, h2, h3⟩ := RDs.inv h
    rw [RD.str_inv h2, RDs.strs h3]; rfl
theorem RDs.of_ints : ∀ (ns : List Int), RDs K H (ns.map Dt.int) (ns.map V.int)
  | [] => RDs.nil
  | n :: ns => RDs.cons RD.int (RDs.of_ints ns)
theorem RDs.of_strs : ∀ (ns : List Str), RDs K H (ns.map Dt.str) (ns.map V.str)
  | [] => RDs.nil
  | n :: ns => RDs.cons RD.str (RDs.of_strs ns)
end

/-- what an own cell holds -/
inductive Od where
  | lst (ds : List Dt)
  | dct (ks : List Key) (ds : List Dt)
  | ins (C : Addr) (ns : List Str) (ds : List Dt)
def Od.dt : Od → Dt
  | .lst ds => .lst ds
  | .dct ks ds => .dct ks ds
  | .ins C ns ds => .obj C ns ds
/-- what a slot is known to hold -/
inductive Sl where
  | un | val (d : Dt) | own (o : Od)

def OR (K : Fg) (H0 H : Hp) : Od → Addr → Prop
  | .lst ds, a => ∃ xs, H a = some (.lst xs) ∧ RDs K H0 ds xs
  | .dct ks ds, a => ∃ kvs, H a = some (.dK kvs) ∧ kvs.map (·.1) = ks ∧ RDs K H0 ds (kvs.map (·.2))
  | .ins C ns ds, a => ∃ dx fs, H a = some (.ins C dx fs) ∧ fs.map (·.1) = ns ∧ RDs K H0 ds (fs.map (·.2))
theorem OR.mono {K : Fg} {H0 H H0' H' : Hp} {o : Od} {a : Addr} (e : Same H0 H0') (k : ∀ x, H a = some x → H' a = some x) (h : OR K H0 H o a) : OR K H0' H' o a := by
  cases o with
  | lst ds => obtain ⟨xs, h1, h2⟩ := h; exact ⟨xs, k _ h1, h2.mono e⟩
  | dct ks ds => obtain ⟨xs, h1, h2, h3⟩ := h; exact ⟨xs, k _ h1, h2, h3.mono e⟩
  | ins C ns ds => obtain ⟨dx, fs, h1, h2, h3⟩ := h; exact ⟨dx, fs, k _ h1, h2, h3.mono e⟩
theorem OR.there {K : Fg} {H0 H : Hp} {o : Od} {a : Addr} (h : OR K H0 H o a) : H a ≠ none := by
  cases o with
  | lst ds => obtain ⟨xs, h1, h2⟩ := h; rw [h1]; exact fun z => nomatch z
  | dct ks ds => obtain ⟨xs, h1, h2⟩ := h; rw [h1]; exact fun z => nomatch z
  | ins C ns ds => obtain ⟨dx, fs, h1, h2, h3⟩ := h; rw [h1]; exact fun z => nomatch z
/-- an own cell that becomes data -/
theorem OR.rd {K : Fg} {H0 H H0' : Hp} {o : Od} {a : Addr} (h : OR K H0 H o a) (e : Same H0 H0') (k : ∀ x, H a = some x → H0' a = some x) : RD K H0' o.dt (.ref a) := by
  cases o with
  | lst ds => obtain ⟨xs, h1, h2⟩ := h; exact RD.lst (k _ h1) (h2.mono e)
  | dct ks ds => obtain ⟨xs, h1, h2, h3⟩ := h; unfold Od.dt RD; exact ⟨a, xs, rfl, k _ h1, h2, h3.mono e⟩
  | ins C ns ds => obtain ⟨dx, fs, h1, h2, h3⟩ := h; unfold Od.dt RD; exact ⟨a, dx, fs, rfl, k _ h1, h2, h3.mono e⟩

/-- the frame's entry: the heap, its data, the own cells handed in -/
structure Fr where
  He : Hp
  B0 : Hp
  P : List Addr

structure Rep (K : Fg) (F : Fr) (σ : St) (H0 H : Hp) (ρ : List Sl) : Prop where
  len : σ.length = ρ.length
  s1 : Same F.B0 H0
  s2 : Same H0 H
  s3 : ∀ a o, F.He a = some o → a ∉ F.P → H a = some o
  s4 : ∀ a, F.He a ≠ none → F.B0 a = none → a ∉ F.P → H0 a = none
  s5 : ∀ a, F.He a ≠ none → H a ≠ none
  val : ∀ (i : Nat) (d : Dt), ρ[i]? = some (.val d) → ∃ v, σ[i]? = some (some v) ∧ RD K H0 d v
  own : ∀ (i : Nat) (o : Od), ρ[i]? = some (.own o) → ∃ a, σ[i]? = some (some (.ref a)) ∧ H0 a = none ∧ (F.He a = none ∨ a ∈ F.P) ∧ OR K H0 H o a
  dis : ∀ (i j : Nat) (o o' : Od) (a : Addr), ρ[i]? = some (.own o) → ρ[j]? = some (.own o') → σ[i]? = some (some (.ref a)) → σ[j]? = some (some (.ref a)) → i = j

section
variable {K : Fg} {F : Fr} {σ : St} {H0 H H0' H' : Hp} {ρ : List Sl}

/-- the heaps grow by new things -/
structure Grow (H0 H H0' H' : Hp) : Prop where
  g1 : Same H0 H0'
  g2 : Same H H'
  g3 : Same H0' H'
  g4 : ∀ a, H a ≠ none → H0 a = none → H0' a = none
theorem Grow.refl (h : Same H0 H) : Grow H0 H H0 H := ⟨Same.refl _, Same.refl _, h, fun _ _ z => z⟩
theorem Grow.trans {H0'' H'' : Hp} (a : Grow H0 H H0' H') (b : Grow H0' H' H0'' H'') : Grow H0 H H0'' H'' :=
  ⟨a.g1.trans b.g1, a.g2.trans b.g2, b.g3, fun x hx h0 => b.g4 x (fun z => by
    cases q : H x with
    | none => exact hx q
    | some o => rw [a.g2 _ _ q] at z; cases z) (a.g4 x hx h0)⟩
theorem same_upd {p : Addr} {o : HO} (h : H p = none) : Same H (upd H p o) := fun b x e => by
  rw [upd_ne (ne_of_none e h)]; exact e
theorem same_none {a : Addr} (e : Same H0 H) (h : H a = none) : H0 a = none := e.free h
/-- a new datum -/
theorem Grow.new {p : Addr} {o : HO} (e : Same H0 H) (h : H p = none) : Grow H0 H (upd H0 p o) (upd H p o) := by
  refine ⟨same_upd (same_none e h), same_upd h, fun b x z => ?_, fun a ha h0 => ?_⟩
  · by_cases hb : b = p
    · subst hb; rw [upd_same] at z ⊢; exact z
    · rw [upd_ne hb] at z ⊢; exact e _ _ z
  · have : a ≠ p := fun z => ha (by rw [z]; exact h)
    rw [upd_ne this]; exact h0
/-- a new thing that is no datum -/
theorem Grow.side {p : Addr} {o : HO} (e : Same H0 H) (h : H p = none) : Grow H0 H H0 (upd H p o) :=
  ⟨Same.refl _, same_upd h, e.trans (same_upd h), fun _ _ z => z⟩

theorem Rep.grow (R : Rep K F σ H0 H ρ) (g : Grow H0 H H0' H') : Rep K F σ H0' H' ρ where
  len := R.len
  s1 := R.s1.trans g.g1
  s2 := g.g3
  s3 := fun a o h hp => g.g2 _ _ (R.s3 a o h hp)
  s4 := fun a h h0 hp => g.g4 a (R.s5 a h) (R.s4 a h h0 hp)
  s5 := fun a h z => by
    cases q : H a with
    | none => exact R.s5 a h q
    | some o => rw [g.g2 _ _ q] at z; cases z
  val := fun i d h => let ⟨v, e, r⟩ := R.val i d h; ⟨v, e, r.mono g.g1⟩
  own := fun i o h => let ⟨a, e, n, q, r⟩ := R.own i o h
    ⟨a, e, g.g4 a r.there n, q, r.mono g.g1 fun x z => g.g2 _ _ z⟩
  dis := R.dis
/-- a value on top -/
theorem Rep.push {v : V} {d : Dt} (R : Rep K F σ H0 H ρ) (h : RD K H0 d v) : Rep K F (some v :: σ) H0 H (.val d :: ρ) where
  len := by simp [R.len]
  s1 := R.s1
  s2 := R.s2
  s3 := R.s3
  s4 := R.s4
  s5 := R.s5
  val := fun i d' e => by
    cases i with
    | zero => simp at e; subst e; exact ⟨v, rfl, h⟩
    | succ i => simpa using R.val i d' (by simpa using e)
  own := fun i o e => by
    cases i with
    | zero => simp at e
    | succ i => simpa using R.own i o (by simpa using e)
  dis := fun i j o o' a e1 e2 e3 e4 => by
    cases i with
    | zero => simp at e1
    | succ i =>
      cases j with
      | zero => simp at e2
      | succ j => rw [R.dis i j o o' a (by simpa using e1) (by simpa using e2) (by simpa using e3) (by simpa using e4)]
/-- a new own cell on top -/
theorem Rep.pushOwn {p : Addr} {o : Od} (R : Rep K F σ H0 H ρ) (hn : H0 p = none) (hf : F.He p = none ∨ p ∈ F.P) (h : OR K H0 H o p)
    (hd : ∀ (j : Nat) (o' : Od), ρ[j]? = some (.own o') → σ[j]? ≠ some (some (.ref p))) : Rep K F (some (.ref p) :: σ) H0 H (.own o :: ρ) where
  len := by simp [R.len]
  s1 := R.s1
  s2 := R.s2
  s3 := R.s3
  s4 := R.s4
  s5 := R.s5
  val := fun i d' e => by
    cases i with
    | zero => simp at e
    | succ i => simpa using R.val i d' (by simpa using e)
  own := fun i o' e => by
    cases i with
    | zero => simp at e; subst e; exact ⟨p, rfl, hn, hf, h⟩
    | succ i => simpa using R.own i o' (by simpa using e)
  dis := fun i j o1 o2 a e1 e2 e3 e4 => by
    cases i with
    | zero =>
      cases j with
      | zero => rfl
      | succ j =>
        simp at e3
        subst e3
        exact absurd (by simpa using e4) (hd j o2 (by simpa using e2))
    | succ i =>
      cases j with
      | zero =>
        simp at e4
        subst e4
        exact absurd (by simpa using e3) (hd i o1 (by simpa using e1))
      | succ j => rw [R.dis i j o1 o2 a (by simpa using e1) (by simpa using e2) (by simpa using e3) (by simpa using e4)]
theorem Rep.fresh {p : Addr} (R : Rep K F σ H0 H ρ) (h : H p = none) : F.He p = none := by
  cases q : F.He p with
  | none => rfl
  | some o => exact absurd h (R.s5 p (by rw [q]; exact fun z => nomatch z))
theorem Rep.fresh_ne {p : Addr} (R : Rep K F σ H0 H ρ) (h : H p = none) : ∀ (j : Nat) (o' : Od), ρ[j]? = some (.own o') → σ[j]? ≠ some (some (.ref p)) := fun j o' e z => by
  obtain ⟨a, e1, _, _, r⟩ := R.own j o' e
  rw [e1] at z
  injection z with z; injection z with z; injection z with z
  subst z
  exact r.there h
/-- a new own cell, laid and pushed -/
theorem Rep.laid {p : Addr} {o : Od} {x : HO} (R : Rep K F σ H0 H ρ) (h : H p = none) (hx : OR K H0 (upd H p x) o p) : Rep K F (some (.ref p) :: σ) H0 (upd H p x) (.own o :: ρ) :=
  (R.grow (.side R.s2 h)).pushOwn (same_none R.s2 h) (.inl (R.fresh h)) hx fun j o' e z => R.fresh_ne h j o' e z
theorem Rep.pop {x : Option V} {s : Sl} (R : Rep K F (x :: σ) H0 H (s :: ρ)) : Rep K F σ H0 H ρ where
  len := by simpa using R.len
  s1 := R.s1
  s2 := R.s2
  s3 := R.s3
  s4 := R.s4
  s5 := R.s5
  val := fun i d e => by simpa using R.val (i + 1) d (by simpa using e)
  own := fun i o e => by simpa using R.own (i + 1) o (by simpa using e)
  dis := fun i j o o' a e1 e2 e3 e4 => by
    have := R.dis (i + 1) (j + 1) o o' a (by simpa using e1) (by simpa using e2) (by simpa using e3) (by simpa using e4)
    omega
theorem Rep.top {x : Option V} {d : Dt} (R : Rep K F (x :: σ) H0 H (.val d :: ρ)) : ∃ v, x = some v ∧ RD K H0 d v := by
  obtain ⟨v, e, r⟩ := R.val 0 d rfl
  exact ⟨v, by simpa using e, r⟩
theorem Rep.topV {v : V} {d : Dt} (R : Rep K F (some v :: σ) H0 H (.val d :: ρ)) : RD K H0 d v := by
  obtain ⟨v', e, r⟩ := R.top
  cases e; exact r
theorem Rep.topO {v : V} {o : Od} (R : Rep K F (some v :: σ) H0 H (.own o :: ρ)) : ∃ a, v = .ref a ∧ H0 a = none ∧ (F.He a = none ∨ a ∈ F.P) ∧ OR K H0 H o a := by
  obtain ⟨a, e, r⟩ := R.own 0 o rfl
  refine ⟨a, ?_, r⟩
  simpa using e
/-- the top goes to a slot -/
theorem Rep.store {v : V} {s : Sl} {i : Nat} (R : Rep K F (some v :: σ) H0 H (s :: ρ)) : Rep K F (σ.set i (some v)) H0 H (ρ.set i s) where
  len := by simpa using R.len
  s1 := R.s1
  s2 := R.s2
  s3 := R.s3
  s4 := R.s4
  s5 := R.s5
  val := fun j d e => by
    have hl : σ.length = ρ.length := by simpa using R.len
    rw [List.getElem?_set] at e ⊢
    split at e
    · rename_i h
      subst h
      split at e
      · rename_i h2
        rw [if_pos rfl, if_pos (by omega)]
        have e' : s = .val d := by simpa using e
        subst e'
        exact ⟨v, rfl, R.topV⟩
      · cases e
    · rename_i h
      rw [if_neg h]
      simpa using R.val (j + 1) d (by simpa using e)
  own := fun j o e => by
    have hl : σ.length = ρ.length := by simpa using R.len
    rw [List.getElem?_set] at e ⊢
    split at e
    · rename_i h
      subst h
      split at e
      · rename_i h2
        rw [if_pos rfl, if_pos (by omega)]
        have e' : s = .own o := by simpa using e
        subst e'
        obtain ⟨a, z, r⟩ := R.topO
        subst z
        exact ⟨a, rfl, r⟩
      · cases e
    · rename_i h
      rw [if_neg h]
      simpa using R.own (j + 1) o (by simpa using e)
  dis := fun j k o o' a e1 e2 e3 e4 => by
    have hl : σ.length = ρ.length := by simpa using R.len
    rw [List.getElem?_set] at e1 e2 e3 e4
    by_cases hj : i = j
    · by_cases hk : i = k
      · rw [← hj, ← hk]
      · rw [if_pos hj] at e1 e3
        rw [if_neg hk] at e2 e4
        split at e1
        · rename_i h1
          rw [if_pos (by omega)] at e3
          have := R.dis 0 (k + 1) o o' a (by simpa using e1) (by simpa using e2) (by simpa using e3) (by simpa using e4)
          omega
        · cases e1
    · rw [if_neg hj] at e1 e3
      by_cases hk : i = k
      · rw [if_pos hk] at e2 e4
        split at e2
        · rename_i h1
          rw [if_pos (by omega)] at e4
          have := R.dis 0 (j + 1) o' o a (by simpa using e2) (by simpa using e1) (by simpa using e4) (by simpa using e3)
          omega
        · cases e2
      · rw [if_neg hk] at e2 e4
        have := R.dis (j + 1) (k + 1) o o' a (by simpa using e1) (by simpa using e2) (by simpa using e3) (by simpa using e4)
        omega
/-- an own slot becomes data -/
theorem Rep.freeze {i : Nat} {o : Od} {a : Addr} (R : Rep K F σ H0 H ρ) (hi : ρ[i]? = some (.own o)) (ha : σ[i]? = some (some (.ref a))) :
    ∃ H0', Same H0 H0' ∧ RD K H0' o.dt (.ref a) ∧ Rep K F σ H0' H (ρ.set i (.val o.dt)) := by
  obtain ⟨a', e', n, q, r⟩ := R.own i o hi
  rw [ha] at e'
  injection e' with e'; injection e' with e'; injection e' with e'
  subst e'
  cases hx : H a with
  | none => exact absurd hx r.there
  | some x =>
    have g1 : Same H0 (upd H0 a x) := same_upd n
    have rd : RD K (upd H0 a x) o.dt (.ref a) := r.rd g1 fun y z => by rw [hx] at z; rw [upd_same]; exact z
    refine ⟨upd H0 a x, g1, rd, ?_⟩
    have hlt : i < ρ.length := (List.getElem?_eq_some_iff.mp hi).1
    refine ⟨by simpa using R.len, R.s1.trans g1, fun b y z => ?_, R.s3, fun b h h0 hp => ?_, R.s5, fun j d e => ?_, fun j o' e => ?_, fun j k o1 o2 b e1 e2 e3 e4 => ?_⟩
    · by_cases hb : b = a
      · subst hb; rw [upd_same] at z; rw [hx]; exact z
      · rw [upd_ne hb] at z; exact R.s2 _ _ z
    · have : b ≠ a := fun z => by
        subst z
        rcases q with q | q
        · exact h q
        · exact hp q
      rw [upd_ne this]; exact R.s4 b h h0 hp
    · rw [List.getElem?_set] at e
      split at e
      · rename_i h
        subst h
        (try rw [if_pos hlt] at e)
        have e' : Sl.val o.dt = .val d := by simpa using e
        injection e' with e'
        subst e'
        exact ⟨_, ha, rd⟩
      · obtain ⟨v, e1, r1⟩ := R.val j d e
        exact ⟨v, e1, r1.mono g1⟩
    · rw [List.getElem?_set] at e
      split at e
      · (try rw [if_pos hlt] at e); simp at e
      · rename_i h
        obtain ⟨b, e1, n1, q1, r1⟩ := R.own j o' e
        have hb : b ≠ a := fun z => by
          subst z
          exact h (R.dis i j o o' b hi e ha e1)
        exact ⟨b, e1, by rw [upd_ne hb]; exact n1, q1, r1.mono g1 fun _ z => z⟩
    · rw [List.getElem?_set] at e1 e2
      split at e1
      · (try rw [if_pos hlt] at e1); simp at e1
      · split at e2
        · (try rw [if_pos hlt] at e2); simp at e2
        · exact R.dis j k o1 o2 b e1 e2 e3 e4
/-- an own slot's cell is changed -/
theorem Rep.write {i : Nat} {o o' : Od} {a : Addr} {x : HO} (R : Rep K F σ H0 H ρ) (hi : ρ[i]? = some (.own o)) (ha : σ[i]? = some (some (.ref a))) (hx : OR K H0 (upd H a x) o' a) :
    Rep K F σ H0 (upd H a x) (ρ.set i (.own o')) := by
  obtain ⟨a', e', n, q, r⟩ := R.own i o hi
  rw [ha] at e'
  injection e' with e'; injection e' with e'; injection e' with e'
  subst e'
  have hlt : i < ρ.length := (List.getElem?_eq_some_iff.mp hi).1
  refine ⟨by simpa using R.len, R.s1, fun b y z => ?_, fun b y z hp => ?_, R.s4, fun b h z => ?_, fun j d e => ?_, fun j o1 e => ?_, fun j k o1 o2 b e1 e2 e3 e4 => ?_⟩
  · rw [upd_ne (ne_of_none z n)]; exact R.s2 _ _ z
  · have : b ≠ a := fun y => by
      subst y
      rcases q with q | q
      · rw [q] at z; cases z
      · exact hp q
    rw [upd_ne this]; exact R.s3 _ _ z hp
  · by_cases hb : b = a
    · subst hb; rw [upd_same] at z; cases z
    · rw [upd_ne hb] at z; exact R.s5 b h z
  · rw [List.getElem?_set] at e
    split at e
    · (try rw [if_pos hlt] at e); simp at e
    · exact R.val j d e
  · rw [List.getElem?_set] at e
    split at e
    · rename_i h
      subst h
      (try rw [if_pos hlt] at e)
      have e' : Sl.own o' = .own o1 := by simpa using e
      injection e' with e'
      subst e'
      exact ⟨a, ha, n, q, hx⟩
    · rename_i h
      obtain ⟨b, e1, n1, q1, r1⟩ := R.own j o1 e
      have hb : b ≠ a := fun z => by
        subst z
        exact h (R.dis i j o o1 b hi e ha e1)
      exact ⟨b, e1, n1, q1, r1.mono (Same.refl _) fun y z => by rw [upd_ne hb]; exact z⟩
  · rw [List.getElem?_set] at e1 e2
    have f : ∀ (m : Nat) (om : Od), (if i = m then (if i < ρ.length then some (Sl.own o') else none) else ρ[m]?) = some (.own om) → ∃ oq, ρ[m]? = some (.own oq) := fun m om z => by
      split at z
      · rename_i h; subst h; exact ⟨o, hi⟩
      · exact ⟨om, z⟩
    obtain ⟨q1, z1⟩ := f j o1 e1
    obtain ⟨q2, z2⟩ := f k o2 e2
    exact R.dis j k q1 q2 b z1 z2 e3 e4
/-- an own slot, whole -/
theorem Rep.ownAt {i : Nat} {o : Od} (R : Rep K F σ H0 H ρ) (hi : ρ[i]? = some (.own o)) : ∃ a, σ[i]? = some (some (.ref a)) ∧ H0 a = none ∧ (F.He a = none ∨ a ∈ F.P) ∧ OR K H0 H o a := R.own i o hi
/-- a slot is forgotten -/
theorem Rep.forget {i : Nat} (R : Rep K F σ H0 H ρ) : Rep K F σ H0 H (ρ.set i .un) := by
  have f : ∀ (m : Nat) (s : Sl), (ρ.set i .un)[m]? = some s → s ≠ .un → ρ[m]? = some s := fun m s z n => by
    rw [List.getElem?_set] at z
    split at z
    · split at z
      · simp at z; exact absurd z.symm n
      · cases z
    · exact z
  exact ⟨by simpa using R.len, R.s1, R.s2, R.s3, R.s4, R.s5, fun j d e => R.val j d (f j _ e (fun z => nomatch z)), fun j o e => R.own j o (f j _ e (fun z => nomatch z)),
    fun j k o o' a e1 e2 e3 e4 => R.dis j k o o' a (f j _ e1 (fun z => nomatch z)) (f k _ e2 (fun z => nomatch z)) e3 e4⟩
end
/-- the addresses of the own slots -/
def owns : St → List Sl → List Addr
  | some (.ref a) :: σ, .own _ :: ρ => a :: owns σ ρ
  | _ :: σ, _ :: ρ => owns σ ρ
  | _, _ => []
theorem mem_owns : ∀ {σ : St} {ρ : List Sl} {a : Addr}, a ∈ owns σ ρ ↔ ∃ (i : Nat) (o : Od), ρ[i]? = some (.own o) ∧ σ[i]? = some (some (.ref a))
  | [], ρ, a => by
    constructor
    · intro h; cases ρ <;> simp [owns] at h
    · rintro ⟨i, o, _, h⟩; simp at h
  | x :: σ, [], a => by
    constructor
    · intro h
      cases x with
      | none => simp [owns] at h
      | some v => cases v <;> simp [owns] at h
    · rintro ⟨i, o, h, _⟩; simp at h
  | x :: σ, s :: ρ, a => by
    have ih := mem_owns (σ := σ) (ρ := ρ) (a := a)
    have step : (∃ (i : Nat) (o : Od), (s :: ρ)[i]? = some (.own o) ∧ (x :: σ)[i]? = some (some (V.ref a))) ↔ ((∃ o, s = .own o ∧ x = some (.ref a)) ∨ a ∈ owns σ ρ) := by
      rw [ih]
      constructor
      · rintro ⟨i, o, h1, h2⟩
        cases i with
        | zero => left; simp at h1 h2; exact ⟨o, h1, h2⟩
        | succ i => right; exact ⟨i, o, by simpa using h1, by simpa using h2⟩
      · rintro (⟨o, h1, h2⟩ | ⟨i, o, h1, h2⟩)
        · exact ⟨0, o, by simp [h1], by simp [h2]⟩
        · exact ⟨i + 1, o, by simpa using h1, by simpa using h2⟩
    rw [step]
    cases x with
    | none => cases s <;> simp [owns]
    | some v => cases v <;> cases s <;> simp [owns, eq_comm]
section
variable {K : Fg} {F : Fr} {σ σ' : St} {H0 H H0' H' : Hp} {ρ ρ' : List Sl}
abbrev snap (σ : St) (H0 H : Hp) (ρ : List Sl) : Fr := ⟨H, H0, owns σ ρ⟩
theorem Rep.snap (R : Rep K F σ H0 H ρ) : Rep K (snap σ H0 H ρ) σ H0 H ρ where
  len := R.len
  s1 := Same.refl _
  s2 := R.s2
  s3 := fun _ _ h _ => h
  s4 := fun _ _ h _ => h
  s5 := fun _ h => h
  val := R.val
  own := fun i o h => let ⟨a, e, n, _, r⟩ := R.own i o h; ⟨a, e, n, .inr (mem_owns.mpr ⟨i, o, h, e⟩), r⟩
  dis := R.dis
/-- from a later entry back to the first -/
theorem Rep.back (R : Rep K F σ H0 H ρ) (S : Rep K (DL.snap σ H0 H ρ) σ' H0' H' ρ') : Rep K F σ' H0' H' ρ' where
  len := S.len
  s1 := R.s1.trans S.s1
  s2 := S.s2
  s3 := fun a o h hp => by
    refine S.s3 a o (R.s3 a o h hp) fun hm => ?_
    obtain ⟨i, od, h1, h2⟩ := mem_owns.mp hm
    obtain ⟨b, e, n, q, r⟩ := R.own i od h1
    rw [h2] at e; cases e
    rcases q with q | q
    · rw [q] at h; cases h
    · exact hp q
  s4 := fun a h h0 hp => by
    refine S.s4 a (R.s5 a h) (R.s4 a h h0 hp) fun hm => ?_
    obtain ⟨i, od, h1, h2⟩ := mem_owns.mp hm
    obtain ⟨b, e, n, q, r⟩ := R.own i od h1
    rw [h2] at e; cases e
    rcases q with q | q
    · exact h q
    · exact hp q
  s5 := fun a h => S.s5 a (R.s5 a h)
  val := S.val
  own := fun i o h => by
    obtain ⟨a, e, n, q, r⟩ := S.own i o h
    refine ⟨a, e, n, ?_, r⟩
    rcases q with q | q
    · exact .inl (R.fresh q)
    · obtain ⟨i, od, h1, h2⟩ := mem_owns.mp q
      obtain ⟨b, e', n', q', r'⟩ := R.own i od h1
      rw [h2] at e'; cases e'
      exact q'
  dis := S.dis
end
end DL

end
section
set_option Elab.async false
set_option linter.all false
set_option maxRecDepth 100000
set_option maxHeartbeats 2000000
/-! D2: readings by functions on data. -/
namespace DL
open PySem PySem.Spec L2

inductive Rs (α : Type) where
  | ok (a : α)
  | ex (C : Addr) (ns : List Str) (ds : List Dt)
/-- a run: what it gives and the slots behind it; none where nothing is promised -/
abbrev M (α : Type) := List Sl → Option (Rs α × List Sl)
def mP {α : Type} (a : α) : M α := fun ρ => some (.ok a, ρ)
def mB {α β : Type} (f : M α) (g : α → M β) : M β := fun ρ => match f ρ with
  | none => none
  | some (.ex C ns ds, ρ') => some (.ex C ns ds, ρ')
  | some (.ok a, ρ') => g a ρ'
def mO {α : Type} (o : Option α) : M α := fun ρ => match o with
  | none => none
  | some a => some (.ok a, ρ)
/-- as data -/
def vlR : Rs Sl × List Sl → Option (Rs Dt × List Sl)
  | (.ok (.val d), ρ) => some (.ok d, ρ)
  | (.ok (.own o), ρ) => some (.ok o.dt, ρ)
  | (.ok .un, _) => none
  | (.ex C ns ds, ρ) => some (.ex C ns ds, ρ)
def vl (f : M Sl) : M Dt := fun ρ => match f ρ with
  | none => none
  | some p => vlR p

abbrev SX := L2.St → XK
def ExF (K : Fg) (F : Fr) (H0 H : Hp) (d : Option Addr) (ns : List Str) (ds : List Dt) : Prop :=
  (d = none ∧ ns = [] ∧ ds = []) ∨ ∃ a fs, d = some a ∧ F.He a = none ∧ H0 a = none ∧ H a = some (.xd fs) ∧ fs.map (·.1) = ns ∧ RDs K H0 ds (fs.map (·.2))

def EndE (K : Fg) (E : SX) (F : Fr) (σ : L2.St) (H0 : Hp) (ρ' : List Sl) (Q : VK) : Rs Sl → Prop
  | .ok sl => ∀ v H0' H', Same H0 H0' → Rep K F (some v :: σ) H0' H' (sl :: ρ') → Q v H'
  | .ex C ns ds => ∀ d H0' H', Same H0 H0' → Rep K F σ H0' H' ρ' → ExF K F H0' H' d ns ds → E σ (.ref C) d H'
def EndV (K : Fg) (E : SX) (F : Fr) (σ : L2.St) (H0 : Hp) (ρ' : List Sl) (Q : VK) : Rs Dt → Prop
  | .ok c => ∀ v H0' H', Same H0 H0' → Rep K F σ H0' H' ρ' → RD K H0' c v → Q v H'
  | .ex C ns ds => ∀ d H0' H', Same H0 H0' → Rep K F σ H0' H' ρ' → ExF K F H0' H' d ns ds → E σ (.ref C) d H'
def EndT (K : Fg) (E : SX) (F : Fr) (σ : L2.St) (H0 : Hp) (ρ' : List Sl) (Q : Bool → Hp → Prop) : Rs Bool → Prop
  | .ok c => ∀ H0' H', Same H0 H0' → Rep K F σ H0' H' ρ' → Q c H'
  | .ex C ns ds => ∀ d H0' H', Same H0 H0' → Rep K F σ H0' H' ρ' → ExF K F H0' H' d ns ds → E σ (.ref C) d H'
def EndA (K : Fg) (E : SX) (F : Fr) (σ : L2.St) (H0 : Hp) (ρ' : List Sl) (Q : List V → Hp → Prop) : Rs (List Dt) → Prop
  | .ok c => ∀ v H0' H', Same H0 H0' → Rep K F σ H0' H' ρ' → RDs K H0' c v → Q v H'
  | .ex C ns ds => ∀ d H0' H', Same H0 H0' → Rep K F σ H0' H' ρ' → ExF K F H0' H' d ns ds → E σ (.ref C) d H'

class SimE (K : Fg) (E : SX) (t : TE) (f : outParam (M Sl)) : Prop where
  run : ∀ (F : Fr) (σ : L2.St) (H0 H : Hp) (ρ : List Sl) (r : Rs Sl) (ρ' : List Sl) (Q : VK), Rep K F σ H0 H ρ → f ρ = some (r, ρ') → EndE K E F σ H0 ρ' Q r → t σ H Q
class SimT (K : Fg) (E : SX) (t : TT) (f : outParam (M Bool)) : Prop where
  run : ∀ (F : Fr) (σ : L2.St) (H0 H : Hp) (ρ : List Sl) (r : Rs Bool) (ρ' : List Sl) (Q : Bool → Hp → Prop), Rep K F σ H0 H ρ → f ρ = some (r, ρ') → EndT K E F σ H0 ρ' Q r → t σ H Q
class SimA (K : Fg) (E : SX) (t : TA) (f : outParam (M (List Dt))) : Prop where
  run : ∀ (F : Fr) (σ : L2.St) (H0 H : Hp) (ρ : List Sl) (r : Rs (List Dt)) (ρ' : List Sl) (Q : List V → Hp → Prop), Rep K F σ H0 H ρ → f ρ = some (r, ρ') → EndA K E F σ H0 ρ' Q r → t σ H Q

section
variable {K : Fg} {E : SX} {F : Fr} {σ : L2.St} {H0 H : Hp} {ρ ρ' : List Sl}

theorem Rep.topFreeze {v : V} {o : Od} (R : Rep K F (some v :: σ) H0 H (.own o :: ρ)) : ∃ H0', Same H0 H0' ∧ RD K H0' o.dt v ∧ Rep K F σ H0' H ρ := by
  obtain ⟨a, rfl, _⟩ := R.topO
  obtain ⟨H0', s, rd, R'⟩ := R.freeze (i := 0) (o := o) (a := a) rfl rfl
  exact ⟨H0', s, rd, R'.pop⟩

theorem SimE.runV {t : TE} {f : M Sl} (S : SimE K E t f) {r : Rs Dt} {Q : VK} (R : Rep K F σ H0 H ρ) (e : vl f ρ = some (r, ρ')) (h : EndV K E F σ H0 ρ' Q r) : t σ H Q := by
  unfold vl at e
  cases q : f ρ with
  | none => rw [q] at e; cases e
  | some p =>
    rw [q] at e
    obtain ⟨r0, ρ0⟩ := p
    refine S.run F σ H0 H ρ r0 ρ0 Q R q ?_
    cases r0 with
    | ex C ns ds =>
      simp only [vlR, Option.some.injEq, Prod.mk.injEq] at e
      obtain ⟨rfl, rfl⟩ := e
      exact h
    | ok sl =>
      cases sl with
      | un => simp [vlR] at e
      | val d =>
        simp only [vlR, Option.some.injEq, Prod.mk.injEq] at e
        obtain ⟨rfl, rfl⟩ := e
        exact fun v H0' H' s R' => h v H0' H' s R'.pop R'.topV
      | own o =>
        simp only [vlR, Option.some.injEq, Prod.mk.injEq] at e
        obtain ⟨rfl, rfl⟩ := e
        intro v H0' H' s R'
        obtain ⟨H1, s1, rd, R1⟩ := R'.topFreeze
        exact h v H1 H' (s.trans s1) R1 rd

theorem mB_inv {α β : Type} {f : M α} {g : α → M β} {r : Rs β} (e : mB f g ρ = some (r, ρ')) :
    (∃ a ρ1, f ρ = some (.ok a, ρ1) ∧ g a ρ1 = some (r, ρ')) ∨ ∃ C ns ds, f ρ = some (.ex C ns ds, ρ') ∧ r = .ex C ns ds := by
  unfold mB at e
  cases q : f ρ with
  | none => rw [q] at e; cases e
  | some p =>
    rw [q] at e
    obtain ⟨r0, ρ0⟩ := p
    cases r0 with
    | ok a => exact .inl ⟨a, ρ0, rfl, e⟩
    | ex C ns ds =>
      simp only [Option.some.injEq, Prod.mk.injEq] at e
      obtain ⟨rfl, rfl⟩ := e
      exact .inr ⟨C, ns, ds, rfl, rfl⟩
theorem mO_inv {α : Type} {o : Option α} {r : Rs α} (e : mO o ρ = some (r, ρ')) : ∃ a, o = some a ∧ r = .ok a ∧ ρ' = ρ := by
  unfold mO at e
  cases o with
  | none => cases e
  | some a =>
    simp only [Option.some.injEq, Prod.mk.injEq] at e
    exact ⟨a, rfl, e.1.symm, e.2.symm⟩
/-- a first part as data, then the rest -/
theorem SimE.bindV {α : Type} {t : TE} {f : M Sl} (S : SimE K E t f) {g : Dt → M α} {r : Rs α} {Q : VK} (R : Rep K F σ H0 H ρ) (e : mB (vl f) g ρ = some (r, ρ'))
    (hx : ∀ C ns ds, r = .ex C ns ds → ∀ d H0' H', Same H0 H0' → Rep K F σ H0' H' ρ' → ExF K F H0' H' d ns ds → E σ (.ref C) d H')
    (h : ∀ c ρ1 v H0' H', g c ρ1 = some (r, ρ') → Same H0 H0' → Rep K F σ H0' H' ρ1 → RD K H0' c v → Q v H') : t σ H Q := by
  rcases mB_inv e with ⟨a, ρ1, e1, e2⟩ | ⟨C, ns, ds, e1, rfl⟩
  · exact S.runV R e1 fun v H0' H' s R' rd => h a ρ1 v H0' H' e2 s R' rd
  · exact S.runV R e1 (hx C ns ds rfl)
theorem SimT.bind {α : Type} {t : TT} {f : M Bool} (S : SimT K E t f) {g : Bool → M α} {r : Rs α} {Q : Bool → Hp → Prop} (R : Rep K F σ H0 H ρ) (e : mB f g ρ = some (r, ρ'))
    (hx : ∀ C ns ds, r = .ex C ns ds → ∀ d H0' H', Same H0 H0' → Rep K F σ H0' H' ρ' → ExF K F H0' H' d ns ds → E σ (.ref C) d H')
    (h : ∀ c ρ1 H0' H', g c ρ1 = some (r, ρ') → Same H0 H0' → Rep K F σ H0' H' ρ1 → Q c H') : t σ H Q := by
  rcases mB_inv e with ⟨a, ρ1, e1, e2⟩ | ⟨C, ns, ds, e1, rfl⟩
  · exact S.run F σ H0 H ρ _ _ Q R e1 fun H0' H' s R' => h a ρ1 H0' H' e2 s R'
  · exact S.run F σ H0 H ρ _ _ Q R e1 (hx C ns ds rfl)
theorem SimA.bind {α : Type} {t : TA} {f : M (List Dt)} (S : SimA K E t f) {g : List Dt → M α} {r : Rs α} {Q : List V → Hp → Prop} (R : Rep K F σ H0 H ρ) (e : mB f g ρ = some (r, ρ'))
    (hx : ∀ C ns ds, r = .ex C ns ds → ∀ d H0' H', Same H0 H0' → Rep K F σ H0' H' ρ' → ExF K F H0' H' d ns ds → E σ (.ref C) d H')
    (h : ∀ c ρ1 v H0' H', g c ρ1 = some (r, ρ') → Same H0 H0' → Rep K F σ H0' H' ρ1 → RDs K H0' c v → Q v H') : t σ H Q := by
  rcases mB_inv e with ⟨a, ρ1, e1, e2⟩ | ⟨C, ns, ds, e1, rfl⟩
  · exact S.run F σ H0 H ρ _ _ Q R e1 fun v H0' H' s R' rd => h a ρ1 v H0' H' e2 s R' rd
  · exact S.run F σ H0 H ρ _ _ Q R e1 (hx C ns ds rfl)
theorem EndE.ex {Q : VK} {r : Rs Sl} (h : EndE K E F σ H0 ρ' Q r) {H0 : Hp} : True := trivial
theorem EndE.hx {Q : VK} {r : Rs Sl} (h : EndE K E F σ H0 ρ' Q r) : ∀ C ns ds, r = .ex C ns ds → ∀ d H0' H', Same H0 H0' → Rep K F σ H0' H' ρ' → ExF K F H0' H' d ns ds → E σ (.ref C) d H' := by
  rintro C ns ds rfl
  exact h
theorem EndT.hx {Q : Bool → Hp → Prop} {r : Rs Bool} (h : EndT K E F σ H0 ρ' Q r) : ∀ C ns ds, r = .ex C ns ds → ∀ d H0' H', Same H0 H0' → Rep K F σ H0' H' ρ' → ExF K F H0' H' d ns ds → E σ (.ref C) d H' := by
  rintro C ns ds rfl
  exact h
theorem EndA.hx {Q : List V → Hp → Prop} {r : Rs (List Dt)} (h : EndA K E F σ H0 ρ' Q r) : ∀ C ns ds, r = .ex C ns ds → ∀ d H0' H', Same H0 H0' → Rep K F σ H0' H' ρ' → ExF K F H0' H' d ns ds → E σ (.ref C) d H' := by
  rintro C ns ds rfl
  exact h
theorem EndE.later {H0' : Hp} {Q : VK} {r : Rs Sl} (s : Same H0 H0') (h : EndE K E F σ H0 ρ' Q r) : EndE K E F σ H0' ρ' Q r := by
  cases r with
  | ok sl => exact fun v H1 H' s1 R => h v H1 H' (s.trans s1) R
  | ex C ns ds => exact fun d H1 H' s1 R x => h d H1 H' (s.trans s1) R x
theorem EndT.later {H0' : Hp} {Q : Bool → Hp → Prop} {r : Rs Bool} (s : Same H0 H0') (h : EndT K E F σ H0 ρ' Q r) : EndT K E F σ H0' ρ' Q r := by
  cases r with
  | ok sl => exact fun H1 H' s1 R => h H1 H' (s.trans s1) R
  | ex C ns ds => exact fun d H1 H' s1 R x => h d H1 H' (s.trans s1) R x
theorem EndA.later {H0' : Hp} {Q : List V → Hp → Prop} {r : Rs (List Dt)} (s : Same H0 H0') (h : EndA K E F σ H0 ρ' Q r) : EndA K E F σ H0' ρ' Q r := by
  cases r with
  | ok sl => exact fun v H1 H' s1 R => h v H1 H' (s.trans s1) R
  | ex C ns ds => exact fun d H1 H' s1 R x => h d H1 H' (s.trans s1) R x

/-! ### names, constants -/
def fVar (i : Nat) : M Sl := fun ρ => match ρ[i]? with
  | some (.val d) => some (.ok (.val d), ρ)
  | some (.own o) => some (.ok (.val o.dt), ρ.set i (.val o.dt))
  | _ => none
instance sVar (i : Nat) : SimE K E (tVar i) (fVar i) where
  run := fun F σ H0 H ρ r ρ' Q R e h => by
    unfold fVar at e
    split at e
    · rename_i d q
      simp only [Option.some.injEq, Prod.mk.injEq] at e
      obtain ⟨rfl, rfl⟩ := e
      obtain ⟨v, e1, rd⟩ := R.val i d q
      exact ⟨v, e1, h v H0 H (Same.refl _) (R.push rd)⟩
    · rename_i o q
      simp only [Option.some.injEq, Prod.mk.injEq] at e
      obtain ⟨rfl, rfl⟩ := e
      obtain ⟨a, e1, _⟩ := R.own i o q
      obtain ⟨H1, s, rd, R1⟩ := R.freeze q e1
      exact ⟨.ref a, e1, h _ H1 H s (R1.push rd)⟩
    · cases e
class CV (v : V) (d : outParam Dt) : Prop where
  rd : ∀ (K : Fg) (H : Hp), RD K H d v
instance (i : Int) : CV (.int i) (.int i) := ⟨fun _ _ => RD.int⟩
instance (i : Bool) : CV (.bl i) (.bl i) := ⟨fun _ _ => RD.bl⟩
instance (i : Str) : CV (.str i) (.str i) := ⟨fun _ _ => RD.str⟩
instance : CV .non .non := ⟨fun _ _ => RD.non⟩
instance (n : String) : CV (.ty n) (.ty n) := ⟨fun _ _ => RD.ty⟩
instance (priority := low) (n : Addr) : CV (.ref n) (.ref n) := ⟨fun _ _ => RD.ref⟩
instance sC {v : V} {d : Dt} [c : CV v d] : SimE K E (tC v) (mP (.val d)) where
  run := fun F σ H0 H ρ r ρ' Q R e h => by
    simp only [mP, Option.some.injEq, Prod.mk.injEq] at e
    obtain ⟨rfl, rfl⟩ := e
    exact h v H0 H (Same.refl _) (R.push (c.rd _ _))

/-! ### what a rule by values gives -/
def EndG (K : Fg) (H0 H : Hp) (Q : VK) : Sl → Prop
  | .un => False
  | .val c => ∀ v H0' H', Grow H0 H H0' H' → RD K H0' c v → Q v H'
  | .own o => ∀ p x, H p = none → (∀ H2 : Hp, H2 p = some x → OR K H0 H2 o p) → Q (.ref p) (upd H p x)
/-- from a slot's wish to a value's -/
theorem EndG.of {s : Sl} {Q : VK} (hs : s ≠ .un) (R : Rep K F σ H0 H ρ) (h : EndE K E F σ H0 ρ Q (.ok s)) : EndG K H0 H Q s := by
  cases s with
  | un => exact absurd rfl hs
  | val c => exact fun v H0' H' g rd => h v H0' H' g.g1 ((R.grow g).push rd)
  | own o => exact fun p x hp hx => h (.ref p) H0 _ (Same.refl _) (R.laid hp (hx _ upd_same))
def noUn : Sl → Option Sl
  | .un => none
  | s => some s
theorem noUn_inv {s s' : Sl} (h : noUn s = some s') : s' = s ∧ s ≠ .un := by
  cases s with
  | un => cases h
  | val d => exact ⟨(Option.some.inj h).symm, fun z => nomatch z⟩
  | own d => exact ⟨(Option.some.inj h).symm, fun z => nomatch z⟩
class OpV (K : Fg) (r : R2) (g : outParam (Dt → Dt → Option Sl)) : Prop where
  run : ∀ (x y : V) (d e : Dt) (s : Sl) (H0 H : Hp) (Q : VK), Same H0 H → RD K H0 d x → RD K H0 e y → g d e = some s → EndG K H0 H Q s → r x y H Q
class UnV (K : Fg) (r : V → Hp → VK → Prop) (g : outParam (Dt → Option Sl)) : Prop where
  run : ∀ (x : V) (d : Dt) (s : Sl) (H0 H : Hp) (Q : VK), Same H0 H → RD K H0 d x → g d = some s → EndG K H0 H Q s → r x H Q
class CallV (K : Fg) (r : List V → Hp → VK → Prop) (g : outParam (List Dt → Option Sl)) : Prop where
  run : ∀ (xs : List V) (ds : List Dt) (s : Sl) (H0 H : Hp) (Q : VK), Same H0 H → RDs K H0 ds xs → g ds = some s → EndG K H0 H Q s → r xs H Q
class MtV (K : Fg) (r : V → List V → Hp → VK → Prop) (g : outParam (Dt → List Dt → Option Sl)) : Prop where
  run : ∀ (x : V) (xs : List V) (d : Dt) (ds : List Dt) (s : Sl) (H0 H : Hp) (Q : VK), Same H0 H → RD K H0 d x → RDs K H0 ds xs → g d ds = some s → EndG K H0 H Q s → r x xs H Q

def unOk (o : Option Sl) : Option Sl := o.bind noUn
theorem unOk_inv {o : Option Sl} {s : Sl} (h : unOk o = some s) : o = some s ∧ s ≠ .un := by
  unfold unOk at h
  cases o with
  | none => cases h
  | some s' =>
    obtain ⟨e, n⟩ := noUn_inv h
    subst e
    exact ⟨rfl, n⟩
def fOp (g : Dt → Dt → Option Sl) (fa fb : M Sl) : M Sl := mB (vl fa) fun d => mB (vl fb) fun e => mO (unOk (g d e))
instance sOp {r : R2} {g : Dt → Dt → Option Sl} {ta tb : TE} {fa fb : M Sl} [A : SimE K E ta fa] [B : SimE K E tb fb] [O : OpV K r g] : SimE K E (tOp r ta tb) (fOp g fa fb) where
  run := fun F σ H0 H ρ r' ρ' Q R e h => by
    refine A.bindV R e h.hx fun c ρ1 v H1 H' e1 s1 R1 rd1 => ?_
    refine B.bindV R1 e1 (h.later s1).hx fun c2 ρ2 v2 H2 H'' e2 s2 R2 rd2 => ?_
    obtain ⟨s, es, rfl, rfl⟩ := mO_inv e2
    obtain ⟨e3, n⟩ := unOk_inv es
    exact O.run v v2 c c2 s H2 H'' Q R2.s2 (rd1.mono s2) rd2 e3 (.of n R2 (h.later (s1.trans s2)))
def fUn (g : Dt → Option Sl) (fa : M Sl) : M Sl := mB (vl fa) fun d => mO (unOk (g d))
instance sUn {r : V → Hp → VK → Prop} {g : Dt → Option Sl} {ta : TE} {fa : M Sl} [A : SimE K E ta fa] [O : UnV K r g] : SimE K E (tUn r ta) (fUn g fa) where
  run := fun F σ H0 H ρ r' ρ' Q R e h => by
    refine A.bindV R e h.hx fun c ρ1 v H1 H' e1 s1 R1 rd1 => ?_
    obtain ⟨s, es, rfl, rfl⟩ := mO_inv e1
    obtain ⟨e3, n⟩ := unOk_inv es
    exact O.run v c s H1 H' Q R1.s2 rd1 e3 (.of n R1 (h.later s1))
/-! ### arguments -/
instance sNil : SimA K E tNil (mP []) where
  run := fun F σ H0 H ρ r ρ' Q R e h => by
    simp only [mP, Option.some.injEq, Prod.mk.injEq] at e
    obtain ⟨rfl, rfl⟩ := e
    exact h [] H0 H (Same.refl _) R RDs.nil
def fCons (fa : M Sl) (fr : M (List Dt)) : M (List Dt) := mB (vl fa) fun d => mB fr fun ds => mP (d :: ds)
instance sCons {ta : TE} {tr : TA} {fa : M Sl} {fr : M (List Dt)} [A : SimE K E ta fa] [B : SimA K E tr fr] : SimA K E (tCons ta tr) (fCons fa fr) where
  run := fun F σ H0 H ρ r ρ' Q R e h => by
    refine A.bindV R e h.hx fun c ρ1 v H1 H' e1 s1 R1 rd1 => ?_
    refine B.bind R1 e1 (h.later s1).hx fun cs ρ2 vs H2 H'' e2 s2 R2 rd2 => ?_
    simp only [mP, Option.some.injEq, Prod.mk.injEq] at e2
    obtain ⟨rfl, rfl⟩ := e2
    exact h _ H2 H'' (s1.trans s2) R2 (RDs.cons (rd1.mono s2) rd2)
def fCB (g : List Dt → Option Sl) (fa : M (List Dt)) : M Sl := mB fa fun ds => mO (unOk (g ds))
instance sCB {r : List V → Hp → VK → Prop} {g : List Dt → Option Sl} {ta : TA} {fa : M (List Dt)} [A : SimA K E ta fa] [O : CallV K r g] : SimE K E (tCB r ta) (fCB g fa) where
  run := fun F σ H0 H ρ r' ρ' Q R e h => by
    refine A.bind R e h.hx fun c ρ1 v H1 H' e1 s1 R1 rd1 => ?_
    obtain ⟨s, es, rfl, rfl⟩ := mO_inv e1
    obtain ⟨e3, n⟩ := unOk_inv es
    exact O.run v c s H1 H' Q R1.s2 rd1 e3 (.of n R1 (h.later s1))
/-! ### displays -/
def small (n : Nat) : Bool := decide (n < 1000000)
theorem small_line {n : Nat} (h : small n = true) : n ≤ sizeLine := by
  have := of_decide_eq_true h
  rw [sizeLine_eq]; omega
theorem small_lt {n : Nat} (h : small n = true) : n < sizeLine := by
  have := of_decide_eq_true h
  rw [sizeLine_eq]; omega
def fTup (fa : M (List Dt)) : M Sl := mB fa fun ds => mO (if small ds.length then some (.val (.tup ds)) else none)
instance sTup {ta : TA} {fa : M (List Dt)} [A : SimA K E ta fa] : SimE K E (tTup ta) (fTup fa) where
  run := fun F σ H0 H ρ r' ρ' Q R e h => by
    refine A.bind R e h.hx fun c ρ1 v H1 H' e1 s1 R1 rd1 => ?_
    obtain ⟨s, es, rfl, rfl⟩ := mO_inv e1
    split at es
    · rename_i hz
      cases es
      refine ⟨by rw [rd1.length]; exact small_line hz, fun p hp => ?_⟩
      have g := Grow.new (o := .tup v) R1.s2 hp
      exact h _ _ _ (s1.trans g.g1) ((R1.grow g).push (RD.tup (.inl (.inl upd_same)) (rd1.mono g.g1)))
    · cases es
def fLst (fa : M (List Dt)) : M Sl := mB fa fun ds => mO (if small ds.length then some (.own (.lst ds)) else none)
instance sLst {ta : TA} {fa : M (List Dt)} [A : SimA K E ta fa] : SimE K E (tLst ta) (fLst fa) where
  run := fun F σ H0 H ρ r' ρ' Q R e h => by
    refine A.bind R e h.hx fun c ρ1 v H1 H' e1 s1 R1 rd1 => ?_
    obtain ⟨s, es, rfl, rfl⟩ := mO_inv e1
    split at es
    · rename_i hz
      cases es
      refine ⟨by rw [rd1.length]; exact small_line hz, fun p hp => ?_⟩
      exact h _ _ _ s1 (R1.laid hp ⟨v, upd_same, rd1⟩)
    · cases es
/-! ### truth values, branches -/
def toB : Dt → Option Bool
  | .bl b => some b
  | _ => none
theorem toB_inv {d : Dt} {b : Bool} (h : toB d = some b) : d = .bl b := by
  cases d <;> simp [toB] at h
  rw [h]
def fB (fa : M Sl) : M Bool := mB (vl fa) fun d => mO (toB d)
instance sTest {t : TE} {f : M Sl} [A : SimE K E t f] : SimT K E (tTest t) (fB f) where
  run := fun F σ H0 H ρ r ρ' Q R e h => by
    refine A.bindV R e h.hx fun c ρ1 v H1 H' e1 s1 R1 rd1 => ?_
    obtain ⟨b, es, rfl, rfl⟩ := mO_inv e1
    obtain rfl := toB_inv es
    exact ⟨b, rd1.bl_inv, h H1 H' s1 R1⟩
instance sB {t : TE} {f : M Sl} [A : SimE K E t f] : SimT K E (tB t) (fB f) where
  run := fun F σ H0 H ρ r ρ' Q R e h => by
    refine A.bindV R e h.hx fun c ρ1 v H1 H' e1 s1 R1 rd1 => ?_
    obtain ⟨b, es, rfl, rfl⟩ := mO_inv e1
    obtain rfl := toB_inv es
    exact ⟨b, rd1.bl_inv, h H1 H' s1 R1⟩
def fIf {α : Type} (c : M Bool) (a b : M α) : M α := mB c fun k => if k = true then a else b
instance sIf {c : TT} {ta tb : TE} {fc : M Bool} {fa fb : M Sl} [C : SimT K E c fc] [A : SimE K E ta fa] [B : SimE K E tb fb] : SimE K E (tIf c ta tb) (fIf fc fa fb) where
  run := fun F σ H0 H ρ r ρ' Q R e h => by
    refine C.bind R e h.hx fun c ρ1 H1 H' e1 s1 R1 => ?_
    cases c with
    | true => exact A.run F σ H1 H' ρ1 r ρ' Q R1 e1 (h.later s1)
    | false => exact B.run F σ H1 H' ρ1 r ρ' Q R1 e1 (h.later s1)
def fAndT (a b : M Bool) : M Bool := mB a fun k => if k = true then b else mP false
def fOrT (a b : M Bool) : M Bool := mB a fun k => if k = true then mP true else b
def fNotT (a : M Bool) : M Bool := mB a fun k => mP (!k)
instance sAndT {ta tb : TT} {fa fb : M Bool} [A : SimT K E ta fa] [B : SimT K E tb fb] : SimT K E (tAnd ta tb) (fAndT fa fb) where
  run := fun F σ H0 H ρ r ρ' Q R e h => by
    refine A.bind R e h.hx fun c ρ1 H1 H' e1 s1 R1 => ?_
    cases c with
    | true => exact B.run F σ H1 H' ρ1 r ρ' Q R1 e1 (h.later s1)
    | false =>
      simp only [mP, Bool.false_eq_true, if_false, Option.some.injEq, Prod.mk.injEq] at e1
      obtain ⟨rfl, rfl⟩ := e1
      exact h H1 H' s1 R1
instance sOrT {ta tb : TT} {fa fb : M Bool} [A : SimT K E ta fa] [B : SimT K E tb fb] : SimT K E (tOr ta tb) (fOrT fa fb) where
  run := fun F σ H0 H ρ r ρ' Q R e h => by
    refine A.bind R e h.hx fun c ρ1 H1 H' e1 s1 R1 => ?_
    cases c with
    | false => exact B.run F σ H1 H' ρ1 r ρ' Q R1 e1 (h.later s1)
    | true =>
      simp only [mP, if_true, Option.some.injEq, Prod.mk.injEq] at e1
      obtain ⟨rfl, rfl⟩ := e1
      exact h H1 H' s1 R1
instance sNotT {ta : TT} {fa : M Bool} [A : SimT K E ta fa] : SimT K E (tNot ta) (fNotT fa) where
  run := fun F σ H0 H ρ r ρ' Q R e h => by
    refine A.bind R e h.hx fun c ρ1 H1 H' e1 s1 R1 => ?_
    simp only [mP, Option.some.injEq, Prod.mk.injEq] at e1
    obtain ⟨rfl, rfl⟩ := e1
    exact h H1 H' s1 R1
def fAndV (a b : M Sl) : M Sl := mB (fB a) fun k => if k = true then b else mP (.val (.bl false))
def fOrV (a b : M Sl) : M Sl := mB (fB a) fun k => if k = true then mP (.val (.bl true)) else b
def fNotV (a : M Sl) : M Sl := mB (fB a) fun k => mP (.val (.bl (!k)))
theorem fB_bind {α : Type} {ta : TE} {fa : M Sl} [A : SimE K E ta fa] {g : Bool → M α} {r : Rs α} {Q : VK} (R : Rep K F σ H0 H ρ) (e : mB (fB fa) g ρ = some (r, ρ'))
    (hx : ∀ C ns ds, r = .ex C ns ds → ∀ d H0' H', Same H0 H0' → Rep K F σ H0' H' ρ' → ExF K F H0' H' d ns ds → E σ (.ref C) d H')
    (h : ∀ c ρ1 H0' H', g c ρ1 = some (r, ρ') → Same H0 H0' → Rep K F σ H0' H' ρ1 → Q (.bl c) H') : ta σ H Q := by
  have S : SimT K E (tB ta) (fB fa) := inferInstance
  have q := S.bind (Q := fun b H' => Q (.bl b) H') R e hx h
  rcases mB_inv e with ⟨a, ρ1, e1, e2⟩ | ⟨C, ns, ds, e1, rfl⟩
  · refine A.bindV R e1 (fun _ _ _ z => nomatch z) fun c ρ2 v H1 H' e3 s1 R1 rd1 => ?_
    obtain ⟨b, es, e4, rfl⟩ := mO_inv e3
    obtain rfl := toB_inv es
    cases e4
    rw [rd1.bl_inv]
    exact h _ _ H1 H' e2 s1 R1
  · refine A.bindV R e1 (fun C' ns' ds' z => ?_) fun c ρ2 v H1 H' e3 s1 R1 rd1 => ?_
    · cases z; exact hx C ns ds rfl
    · obtain ⟨b, es, e4, rfl⟩ := mO_inv e3
      cases e4
instance sAndV {ta tb : TE} {fa fb : M Sl} [A : SimE K E ta fa] [B : SimE K E tb fb] : SimE K E (tAndV ta tb) (fAndV fa fb) where
  run := fun F σ H0 H ρ r ρ' Q R e h => by
    refine fB_bind (ta := ta) (fa := fa) R e h.hx fun c ρ1 H1 H' e1 s1 R1 => ⟨c, rfl, ?_⟩
    cases c with
    | true => exact B.run F σ H1 H' ρ1 r ρ' Q R1 e1 (h.later s1)
    | false =>
      simp only [mP, Bool.false_eq_true, if_false, Option.some.injEq, Prod.mk.injEq] at e1 ⊢
      obtain ⟨rfl, rfl⟩ := e1
      exact h _ H1 H' s1 (R1.push RD.bl)
instance sOrV {ta tb : TE} {fa fb : M Sl} [A : SimE K E ta fa] [B : SimE K E tb fb] : SimE K E (tOrV ta tb) (fOrV fa fb) where
  run := fun F σ H0 H ρ r ρ' Q R e h => by
    refine fB_bind (ta := ta) (fa := fa) R e h.hx fun c ρ1 H1 H' e1 s1 R1 => ⟨c, rfl, ?_⟩
    cases c with
    | false => exact B.run F σ H1 H' ρ1 r ρ' Q R1 e1 (h.later s1)
    | true =>
      simp only [mP, if_true, Option.some.injEq, Prod.mk.injEq] at e1 ⊢
      obtain ⟨rfl, rfl⟩ := e1
      exact h _ H1 H' s1 (R1.push RD.bl)
instance sNotV {ta : TE} {fa : M Sl} [A : SimE K E ta fa] : SimE K E (tNotV ta) (fNotV fa) where
  run := fun F σ H0 H ρ r ρ' Q R e h => by
    refine fB_bind (ta := ta) (fa := fa) R e h.hx fun c ρ1 H1 H' e1 s1 R1 => ⟨c, rfl, ?_⟩
    simp only [mP, Option.some.injEq, Prod.mk.injEq] at e1
    obtain ⟨rfl, rfl⟩ := e1
    exact h _ H1 H' s1 (R1.push RD.bl)
/-! ### is None -/
def isNonD : Dt → Bool
  | .non => true
  | _ => false
theorem isNonD_of {d : Dt} {v : V} (h : RD K H d v) : decide (v = .non) = isNonD d := by
  cases d with
  | non => rw [h.non_inv]; rfl
  | bl b => rw [h.bl_inv]; rfl
  | int b => rw [h.int_inv]; rfl
  | str b => rw [h.str_inv]; rfl
  | ty b => rw [h.ty_inv]; rfl
  | ref b => rw [h.ref_inv]; rfl
  | lst ds => obtain ⟨a, xs, rfl, _⟩ := h.lst_inv; rfl
  | rol ds => obtain ⟨a, xs, rfl, _⟩ := h.rol_inv; rfl
  | tup ds => obtain ⟨a, xs, rfl, _⟩ := h.tup_inv; rfl
  | dct ks ds => obtain ⟨a, xs, rfl, _⟩ := h.dct_inv; rfl
  | obj C ks ds => obtain ⟨a, dx, xs, rfl, _⟩ := h.obj_inv; rfl
  | exn C ks ds => unfold RD at h; obtain ⟨a, dx, xs, rfl, _⟩ := h; rfl
def fIsN (fa : M Sl) : M Sl := mB (vl fa) fun d => mP (.val (.bl (isNonD d)))
def fNotN (fa : M Sl) : M Sl := mB (vl fa) fun d => mP (.val (.bl (!isNonD d)))
instance sIsN {ta : TE} {fa : M Sl} [A : SimE K E ta fa] : SimE K E (tIsN ta) (fIsN fa) where
  run := fun F σ H0 H ρ r ρ' Q R e h => by
    refine A.bindV R e h.hx fun c ρ1 v H1 H' e1 s1 R1 rd1 => ?_
    simp only [mP, Option.some.injEq, Prod.mk.injEq] at e1
    obtain ⟨rfl, rfl⟩ := e1
    rw [isNonD_of rd1]
    exact h _ H1 H' s1 (R1.push RD.bl)
instance sNotN {ta : TE} {fa : M Sl} [A : SimE K E ta fa] : SimE K E (tNotN ta) (fNotN fa) where
  run := fun F σ H0 H ρ r ρ' Q R e h => by
    refine A.bindV R e h.hx fun c ρ1 v H1 H' e1 s1 R1 rd1 => ?_
    simp only [mP, Option.some.injEq, Prod.mk.injEq] at e1
    obtain ⟨rfl, rfl⟩ := e1
    rw [isNonD_of rd1]
    exact h _ H1 H' s1 (R1.push RD.bl)
/-! ### a < b < c -/
def fChain (g g' : Dt → Dt → Option Sl) (fa fb fc : M Sl) : M Sl := mB (vl fa) fun d => mB (vl fb) fun e => mB (mO ((unOk (g d e)).bind fun | .val c => toB c | _ => none)) fun k =>
  if k = true then mB (vl fc) fun c => mO (unOk (g' e c)) else mP (.val (.bl false))
instance sChain {r r' : R2} {g g' : Dt → Dt → Option Sl} {ta tb tc : TE} {fa fb fc : M Sl} [A : SimE K E ta fa] [B : SimE K E tb fb] [C : SimE K E tc fc] [O : OpV K r g] [O' : OpV K r' g'] : SimE K E (tChain r r' ta tb tc) (fChain g g' fa fb fc) where
  run := fun F σ H0 H ρ r0 ρ' Q R e h => by
    refine A.bindV R e h.hx fun c ρ1 v H1 H' e1 s1 R1 rd1 => ?_
    refine B.bindV R1 e1 (h.later s1).hx fun c2 ρ2 v2 H2 H'' e2 s2 R2 rd2 => ?_
    rcases mB_inv e2 with ⟨k, ρ3, e3, e4⟩ | ⟨C, ns, ds, e3, rfl⟩
    · obtain ⟨k', es, ek, rfl⟩ := mO_inv e3
      cases ek
      cases q : unOk (g c c2) with
      | none => rw [q] at es; cases es
      | some s =>
        rw [q] at es
        obtain ⟨e5, n⟩ := unOk_inv q
        cases s with
        | un => exact absurd rfl n
        | own o => cases es
        | val dd =>
          obtain rfl := toB_inv (show toB dd = some k from es)
          refine O.run v v2 c c2 _ H2 H'' _ R2.s2 (rd1.mono s2) rd2 e5 (fun vv H3 H3' gr rdv => ⟨k, rdv.bl_inv, ?_⟩)
          have R3 := R2.grow gr
          cases k with
          | true =>
            refine C.bindV R3 e4 (h.later ((s1.trans s2).trans gr.g1)).hx fun c4 ρ4 v4 H4 H4' e6 s4 R4 rd4 => ?_
            obtain ⟨s, es, rfl, rfl⟩ := mO_inv e6
            obtain ⟨e7, n⟩ := unOk_inv es
            exact O'.run v2 v4 c2 c4 s H4 H4' Q R4.s2 ((rd2.mono gr.g1).mono s4) rd4 e7 (.of n R4 (h.later (((s1.trans s2).trans gr.g1).trans s4)))
          | false =>
            simp only [mP, Bool.false_eq_true, if_false, Option.some.injEq, Prod.mk.injEq] at e4 ⊢
            obtain ⟨rfl, rfl⟩ := e4
            exact h _ H3 H3' ((s1.trans s2).trans gr.g1) (R3.push RD.bl)
    · obtain ⟨k', es, ek, rfl⟩ := mO_inv e3
      cases ek
end
end DL

end
section
set_option Elab.async false
set_option linter.all false
set_option maxRecDepth 100000
set_option maxHeartbeats 2000000
/-! D3: statements, targets, walks, loops, comprehensions. -/
namespace DL
open PySem PySem.Spec L2

/-- how a statement ends -/
inductive So where
  | nx | rt (s : Sl) | bk | ct
def Pin (pin : Nat → Bool) (σ σ' : L2.St) : Prop := σ'.length = σ.length ∧ ∀ i, pin i = true → σ'[i]? = σ[i]?
theorem Pin.refl (pin : Nat → Bool) (σ : L2.St) : Pin pin σ σ := ⟨rfl, fun _ _ => rfl⟩
theorem Pin.trans {pin : Nat → Bool} {σ σ1 σ2 : L2.St} (a : Pin pin σ σ1) (b : Pin pin σ1 σ2) : Pin pin σ σ2 := ⟨b.1.trans a.1, fun i h => (b.2 i h).trans (a.2 i h)⟩

def EndS (K : Fg) (E : SX) (F : Fr) (pin : Nat → Bool) (σ : L2.St) (H0 : Hp) (ρ' : List Sl) (D : Ends) : Rs So → Prop
  | .ok .nx => ∀ σ' H0' H', Same H0 H0' → Pin pin σ σ' → Rep K F σ' H0' H' ρ' → D.nx σ' H'
  | .ok .bk => ∀ σ' H0' H', Same H0 H0' → Pin pin σ σ' → Rep K F σ' H0' H' ρ' → D.bk σ' H'
  | .ok .ct => ∀ σ' H0' H', Same H0 H0' → Pin pin σ σ' → Rep K F σ' H0' H' ρ' → D.ct σ' H'
  | .ok (.rt s) => ∀ v σ' H0' H', Same H0 H0' → Pin pin σ σ' → Rep K F (some v :: σ') H0' H' (s :: ρ') → D.rt v H'
  | .ex C ns ds => ∀ d σ' H0' H', Same H0 H0' → Pin pin σ σ' → Rep K F σ' H0' H' ρ' → ExF K F H0' H' d ns ds → E σ' (.ref C) d H'
class SimS (K : Fg) (E : SX) (pin : Nat → Bool) (t : TS) (f : outParam (M So)) : Prop where
  run : ∀ (F : Fr) (σ : L2.St) (H0 H : Hp) (ρ : List Sl) (r : Rs So) (ρ' : List Sl) (D : Ends), Rep K F σ H0 H ρ → f ρ = some (r, ρ') → EndS K E F pin σ H0 ρ' D r → t D σ H

section
variable {K : Fg} {E : SX} {F : Fr} {pin : Nat → Bool} {σ : L2.St} {H0 H : Hp} {ρ ρ' : List Sl}
theorem EndS.hx {D : Ends} {r : Rs So} (h : EndS K E F pin σ H0 ρ' D r) : ∀ C ns ds, r = .ex C ns ds → ∀ d H0' H', Same H0 H0' → Rep K F σ H0' H' ρ' → ExF K F H0' H' d ns ds → E σ (.ref C) d H' := by
  rintro C ns ds rfl d H0' H' s R x
  exact h d σ H0' H' s (Pin.refl _ _) R x
theorem EndS.later {σ1 : L2.St} {H0' : Hp} {D : Ends} {r : Rs So} (s : Same H0 H0') (p : Pin pin σ σ1) (h : EndS K E F pin σ H0 ρ' D r) : EndS K E F pin σ1 H0' ρ' D r := by
  cases r with
  | ok o =>
    cases o with
    | nx => exact fun σ' H1 H' s1 p1 R => h σ' H1 H' (s.trans s1) (p.trans p1) R
    | bk => exact fun σ' H1 H' s1 p1 R => h σ' H1 H' (s.trans s1) (p.trans p1) R
    | ct => exact fun σ' H1 H' s1 p1 R => h σ' H1 H' (s.trans s1) (p.trans p1) R
    | rt sl => exact fun v σ' H1 H' s1 p1 R => h v σ' H1 H' (s.trans s1) (p.trans p1) R
  | ex C ns ds => exact fun d σ' H1 H' s1 p1 R x => h d σ' H1 H' (s.trans s1) (p.trans p1) R x
theorem mP_inv {α : Type} {a : α} {r : Rs α} (e : mP a ρ = some (r, ρ')) : r = .ok a ∧ ρ' = ρ := by
  simp only [mP, Option.some.injEq, Prod.mk.injEq] at e
  exact ⟨e.1.symm, e.2.symm⟩
instance sNext : SimS K E pin tNext (mP .nx) where
  run := fun F σ H0 H ρ r ρ' D R e h => by
    obtain ⟨rfl, rfl⟩ := mP_inv e
    exact h σ H0 H (Same.refl _) (Pin.refl _ _) R
instance sBreak : SimS K E pin tBreak (mP .bk) where
  run := fun F σ H0 H ρ r ρ' D R e h => by
    obtain ⟨rfl, rfl⟩ := mP_inv e
    exact h σ H0 H (Same.refl _) (Pin.refl _ _) R
instance sCont : SimS K E pin tCont (mP .ct) where
  run := fun F σ H0 H ρ r ρ' D R e h => by
    obtain ⟨rfl, rfl⟩ := mP_inv e
    exact h σ H0 H (Same.refl _) (Pin.refl _ _) R
instance sNever : SimS K E pin tNever (fun _ => none) where
  run := fun F σ H0 H ρ r ρ' D R e h => nomatch e
instance sRetN : SimS K E pin tRetN (mP (.rt (.val .non))) where
  run := fun F σ H0 H ρ r ρ' D R e h => by
    obtain ⟨rfl, rfl⟩ := mP_inv e
    exact h .non σ H0 H (Same.refl _) (Pin.refl _ _) (R.push RD.non)
def fSeq (f g : M So) : M So := mB f fun | .nx => g | o => mP o
instance sSeq {t u : TS} {f g : M So} [A : SimS K E pin t f] [B : SimS K E pin u g] : SimS K E pin (tSeq t u) (fSeq f g) where
  run := fun F σ H0 H ρ r ρ' D R e h => by
    rcases mB_inv e with ⟨a, ρ1, e1, e2⟩ | ⟨C, ns, ds, e1, rfl⟩
    · refine A.run F σ H0 H ρ _ _ _ R e1 ?_
      cases a with
      | nx => exact fun σ' H0' H' s p R' => B.run F σ' H0' H' ρ1 r ρ' D R' e2 (h.later s p)
      | bk => obtain ⟨rfl, rfl⟩ := mP_inv e2; exact h
      | ct => obtain ⟨rfl, rfl⟩ := mP_inv e2; exact h
      | rt s => obtain ⟨rfl, rfl⟩ := mP_inv e2; exact h
    · exact A.run F σ H0 H ρ _ _ _ R e1 h
def fDrop (f : M Sl) : M So := mB (vl f) fun _ => mP .nx
instance sDrop {te : TE} {f : M Sl} [A : SimE K E te f] : SimS K E pin (tDrop te) (fDrop f) where
  run := fun F σ H0 H ρ r ρ' D R e h => by
    refine A.bindV R e h.hx fun c ρ1 v H1 H' e1 s1 R1 rd1 => ?_
    obtain ⟨rfl, rfl⟩ := mP_inv e1
    exact h σ H1 H' s1 (Pin.refl _ _) R1
def fRet (f : M Sl) : M So := mB f fun s => mP (.rt s)
instance sRet {te : TE} {f : M Sl} [A : SimE K E te f] : SimS K E pin (tRet te) (fRet f) where
  run := fun F σ H0 H ρ r ρ' D R e h => by
    rcases mB_inv e with ⟨a, ρ1, e1, e2⟩ | ⟨C, ns, ds, e1, rfl⟩
    · obtain ⟨rfl, rfl⟩ := mP_inv e2
      exact A.run F σ H0 H ρ _ _ _ R e1 fun v H0' H' s R' => h v σ H0' H' s (Pin.refl _ _) R'
    · exact A.run F σ H0 H ρ _ _ _ R e1 (h.hx C ns ds rfl)
instance sIfS {c : TT} {t u : TS} {fc : M Bool} {f g : M So} [C : SimT K E c fc] [A : SimS K E pin t f] [B : SimS K E pin u g] : SimS K E pin (tIfS c t u) (fIf fc f g) where
  run := fun F σ H0 H ρ r ρ' D R e h => by
    refine C.bind R e h.hx fun c ρ1 H1 H' e1 s1 R1 => ?_
    cases c with
    | true => exact A.run F σ H1 H' ρ1 r ρ' D R1 e1 (h.later s1 (Pin.refl _ _))
    | false => exact B.run F σ H1 H' ρ1 r ρ' D R1 e1 (h.later s1 (Pin.refl _ _))
/-! ### targets -/
/-- a change of the slots -/
abbrev Up := List Sl → Option (List Sl)
def mU {β : Type} (u : Up) (k : M β) : M β := fun ρ => match u ρ with
  | some ρ1 => k ρ1
  | none => none
theorem mU_inv {β : Type} {u : Up} {k : M β} {x : Rs β × List Sl} (e : mU u k ρ = some x) : ∃ ρ1, u ρ = some ρ1 ∧ k ρ1 = some x := by
  unfold mU at e
  split at e
  · rename_i ρ1 h
    exact ⟨ρ1, h, e⟩
  · cases e
class SimG (K : Fg) (pin : Nat → Bool) (g : TG) (T : outParam (Dt → Up)) : Prop where
  run : ∀ (F : Fr) (σ : L2.St) (H0 H : Hp) (ρ ρ' : List Sl) (d : Dt) (v : V) (Q : L2.St → Hp → Prop), Rep K F σ H0 H ρ → RD K H0 d v → T d ρ = some ρ' →
    (∀ σ' H0' H', Same H0 H0' → Pin pin σ σ' → Rep K F σ' H0' H' ρ' → Q σ' H') → g v σ H Q
class SimGs (K : Fg) (pin : Nat → Bool) (g : TGs) (T : outParam (List Dt → Up)) : Prop where
  run : ∀ (F : Fr) (σ : L2.St) (H0 H : Hp) (ρ ρ' : List Sl) (ds : List Dt) (vs : List V) (Q : L2.St → Hp → Prop), Rep K F σ H0 H ρ → RDs K H0 ds vs → T ds ρ = some ρ' →
    (∀ σ' H0' H', Same H0 H0' → Pin pin σ σ' → Rep K F σ' H0' H' ρ' → Q σ' H') → g vs σ H Q
def put (pin : Nat → Bool) (i : Nat) (s : Sl) : Up := fun ρ => if pin i then none else some (ρ.set i s)
theorem put_inv {i : Nat} {s : Sl} (e : put pin i s ρ = some ρ') : ¬ pin i = true ∧ ρ' = ρ.set i s := by
  unfold put at e
  split at e
  · cases e
  · rename_i h
    exact ⟨h, (Option.some.inj e).symm⟩
theorem Pin.set {i : Nat} {x : Option V} (h : ¬ pin i = true) : Pin pin σ (σ.set i x) := ⟨by simp, fun j hj => by
  rw [List.getElem?_set_ne]
  rintro rfl
  exact h hj⟩
instance sGName {i : Nat} : SimG K pin (gName i) (fun d => put pin i (.val d)) where
  run := fun F σ H0 H ρ ρ' d v Q R rd e h => by
    obtain ⟨hp, rfl⟩ := put_inv e
    exact h _ H0 H (Same.refl _) (Pin.set hp) (R.push rd).store
def gN : List Dt → Up
  | [] => some
  | _ => fun _ => none
instance sGNil : SimGs K pin gNil gN where
  run := fun F σ H0 H ρ ρ' ds vs Q R rd e h => by
    cases ds with
    | nil =>
      cases e
      exact ⟨RDs.nil_inv rd, h σ H0 H (Same.refl _) (Pin.refl _ _) R⟩
    | cons d ds => cases e
def gC (T : Dt → Up) (U : List Dt → Up) : List Dt → Up
  | [] => fun _ => none
  | d :: ds => fun ρ => (T d ρ).bind (U ds)
instance sGCons {t : TG} {u : TGs} {T : Dt → Up} {U : List Dt → Up} [A : SimG K pin t T] [B : SimGs K pin u U] : SimGs K pin (gCons t u) (gC T U) where
  run := fun F σ H0 H ρ ρ' ds vs Q R rd e h => by
    cases ds with
    | nil => cases e
    | cons d ds =>
      obtain ⟨v, r, rfl, h1, h2⟩ := RDs.inv rd
      have e' : (T d ρ).bind (U ds) = some ρ' := e
      cases q : T d ρ with
      | none => rw [q] at e'; cases e'
      | some ρ1 =>
        rw [q] at e'
        refine ⟨v, r, rfl, A.run F σ H0 H ρ ρ1 d v _ R h1 q fun σ' H0' H' s p R' => ?_⟩
        exact B.run F σ' H0' H' ρ1 ρ' ds r Q R' (h2.mono s) e' fun σ2 H2 H2' s2 p2 R2 => h σ2 H2 H2' (s.trans s2) (p.trans p2) R2
def gT (n : Nat) (U : List Dt → Up) : Dt → Up
  | .tup ds => if ds.length = n then U ds else fun _ => none
  | _ => fun _ => none
instance sGTup {n : Nat} {t : TGs} {U : List Dt → Up} [B : SimGs K pin t U] : SimG K pin (gTup K n t) (gT n U) where
  run := fun F σ H0 H ρ ρ' d v Q R rd e h => by
    cases d <;> try cases e
    case tup ds =>
      obtain ⟨a, xs, rfl, h1, h2⟩ := rd.tup_inv
      have e' : (if ds.length = n then U ds else fun _ => none) ρ = some ρ' := e
      by_cases hl : ds.length = n
      · rw [if_pos hl] at e'
        exact ⟨a, xs, rfl, sqT_mono R.s2 h1, by rw [h2.length, hl], B.run F σ H0 H ρ ρ' ds xs Q R h2 e' h⟩
      · rw [if_neg hl] at e'; cases e'
/-! ### assignments -/
/-- to a name: whatever it is, own or not -/
def fSet (pin : Nat → Bool) (i : Nat) (f : M Sl) : M So := mB f fun s => mU (put pin i s) (mP .nx)
instance (priority := high) sSet {te : TE} {i : Nat} {f : M Sl} [A : SimE K E te f] : SimS K E pin (tAsg te (gName i)) (fSet pin i f) where
  run := fun F σ H0 H ρ r ρ' D R e h => by
    rcases mB_inv e with ⟨a, ρ1, e1, e2⟩ | ⟨C, ns, ds, e1, rfl⟩
    · refine A.run F σ H0 H ρ _ _ _ R e1 fun v H0' H' s R' => ?_
      obtain ⟨ρ2, e3, e4⟩ := mU_inv e2
      obtain ⟨rfl, rfl⟩ := mP_inv e4
      obtain ⟨hp, rfl⟩ := put_inv e3
      exact h _ H0' H' s (Pin.set hp) R'.store
    · exact A.run F σ H0 H ρ _ _ _ R e1 (h.hx C ns ds rfl)
def fAsg (f : M Sl) (T : Dt → Up) : M So := mB (vl f) fun d => mU (T d) (mP .nx)
instance sAsg {te : TE} {g : TG} {f : M Sl} {T : Dt → Up} [A : SimE K E te f] [G : SimG K pin g T] : SimS K E pin (tAsg te g) (fAsg f T) where
  run := fun F σ H0 H ρ r ρ' D R e h => by
    refine A.bindV R e h.hx fun c ρ1 v H1 H' e1 s1 R1 rd1 => ?_
    obtain ⟨ρ2, e3, e4⟩ := mU_inv e1
    obtain ⟨rfl, rfl⟩ := mP_inv e4
    exact G.run F σ H1 H' ρ1 ρ' c v _ R1 rd1 e3 fun σ' H0' H'' s p R' => h σ' H0' H'' (s1.trans s) p R'
/-- a, b = x, y -/
def fPar (pin : Nat → Bool) (i j : Nat) (f : M (List Dt)) : M So := mB f fun
  | [d, e] => mU (fun ρ => (put pin i (.val d) ρ).bind (put pin j (.val e))) (mP .nx)
  | _ => fun _ => none
instance sPar {ta : TA} {i j : Nat} {f : M (List Dt)} [A : SimA K E ta f] : SimS K E pin (tPar i j ta) (fPar pin i j f) where
  run := fun F σ H0 H ρ r ρ' D R e h => by
    refine A.bind R e h.hx fun c ρ1 v H1 H' e1 s1 R1 rd1 => ?_
    match c, rd1, e1 with
    | [d, e0], rd1, e1 =>
      obtain ⟨v1, r1, rfl, h1, h2⟩ := RDs.inv rd1
      obtain ⟨v2, r2, rfl, h3, h4⟩ := RDs.inv h2
      obtain rfl := RDs.nil_inv h4
      obtain ⟨ρ2, e3, e4⟩ := mU_inv e1
      obtain ⟨rfl, rfl⟩ := mP_inv e4
      cases q : put pin i (.val d) ρ1 with
      | none => rw [q] at e3; cases e3
      | some ρ3 =>
        rw [q] at e3
        obtain ⟨p1, rfl⟩ := put_inv q
        obtain ⟨p2, rfl⟩ := put_inv (show put pin j (.val e0) _ = some ρ' from e3)
        refine ⟨v1, v2, rfl, ?_⟩
        have R2 := (R1.push h1).store (i := i)
        exact h _ H1 H' s1 ((Pin.set p1).trans (Pin.set p2)) ((R2.push h3).store (i := j))
/-! ### walks -/
/-- an iterator over these -/
def WalkD (K : Fg) (H0 : Hp) (J : It) (ds : List Dt) : Prop :=
  ∃ G Y, Walk J ds.length G Y ∧ (∀ H', Same H0 H' → G H') ∧
    ∀ i Hq x Hq' H0q, i < ds.length → Same H0 H0q → Same H0q Hq → Y i Hq x Hq' → ∃ d H0q', ds[i]? = some d ∧ Grow H0q Hq H0q' Hq' ∧ RD K H0q' d x
def EndI (K : Fg) (E : SX) (F : Fr) (σ : L2.St) (H0 : Hp) (ρ' : List Sl) (Q : It → Hp → Prop) : Rs (List Dt) → Prop
  | .ok c => ∀ J H0' H', Same H0 H0' → Rep K F σ H0' H' ρ' → WalkD K H0' J c → Q J H'
  | .ex C ns ds => ∀ d H0' H', Same H0 H0' → Rep K F σ H0' H' ρ' → ExF K F H0' H' d ns ds → E σ (.ref C) d H'
class SimI (K : Fg) (E : SX) (t : TI) (f : outParam (M (List Dt))) : Prop where
  run : ∀ (F : Fr) (σ : L2.St) (H0 H : Hp) (ρ : List Sl) (r : Rs (List Dt)) (ρ' : List Sl) (Q : It → Hp → Prop), Rep K F σ H0 H ρ → f ρ = some (r, ρ') → EndI K E F σ H0 ρ' Q r → t σ H Q
theorem EndI.hx {Q : It → Hp → Prop} {r : Rs (List Dt)} (h : EndI K E F σ H0 ρ' Q r) : ∀ C ns ds, r = .ex C ns ds → ∀ d H0' H', Same H0 H0' → Rep K F σ H0' H' ρ' → ExF K F H0' H' d ns ds → E σ (.ref C) d H' := by
  rintro C ns ds rfl
  exact h
theorem walkD_list {a : Addr} {xs : List V} {ds : List Dt} (h : SqL K H0 a xs) (r : RDs K H0 ds xs) : WalkD K H0 (Itl K a) ds := by
  refine ⟨_, _, (by rw [← r.length]; exact walk_list), fun H' s => s.seq h, fun i Hq x Hq' H0q hi s1 s2 y => ?_⟩
  obtain ⟨rfl, e⟩ := y
  obtain ⟨d, e1, rd⟩ := r.getV e
  exact ⟨d, H0q, e1, .refl s2, rd.mono s1⟩
theorem walkD_tup {a : Addr} {xs : List V} {ds : List Dt} (h : SqT K H0 a xs) (r : RDs K H0 ds xs) : WalkD K H0 (Itt K a) ds := by
  refine ⟨_, _, (by rw [← r.length]; exact walk_tup), fun H' s => sqT_mono s h, fun i Hq x Hq' H0q hi s1 s2 y => ?_⟩
  obtain ⟨rfl, e⟩ := y
  obtain ⟨d, e1, rd⟩ := r.getV e
  exact ⟨d, H0q, e1, .refl s2, rd.mono s1⟩
def seqItems : Dt → Option (List Dt)
  | .lst ds => some ds
  | .tup ds => some ds
  | _ => none
def onlyL : Dt → Option (List Dt)
  | .lst ds => some ds
  | _ => none
def onlyT : Dt → Option (List Dt)
  | .tup ds => some ds
  | _ => none
theorem onlyL_inv {d : Dt} {ds : List Dt} (h : onlyL d = some ds) : d = .lst ds := by
  cases d <;> simp [onlyL] at h
  rw [h]
theorem onlyT_inv {d : Dt} {ds : List Dt} (h : onlyT d = some ds) : d = .tup ds := by
  cases d <;> simp [onlyT] at h
  rw [h]
def fIL (f : M Sl) : M (List Dt) := mB (vl f) fun d => mO (onlyL d)
def fIT (f : M Sl) : M (List Dt) := mB (vl f) fun d => mO (onlyT d)
instance sIList {te : TE} {f : M Sl} [A : SimE K E te f] : SimI K E (iList K te) (fIL f) where
  run := fun F σ H0 H ρ r ρ' Q R e h => by
    refine A.bindV R e h.hx fun c ρ1 v H1 H' e1 s1 R1 rd1 => ?_
    obtain ⟨ds, es, rfl, rfl⟩ := mO_inv e1
    obtain rfl := onlyL_inv es
    obtain ⟨a, xs, rfl, h1, h2⟩ := rd1.lst_inv
    exact ⟨a, rfl, ⟨xs, .inl (.inl (R1.s2 _ _ h1))⟩, h _ H1 H' s1 R1 (walkD_list (.inl (.inl h1)) h2)⟩
instance sITup {te : TE} {f : M Sl} [A : SimE K E te f] : SimI K E (iTup K te) (fIT f) where
  run := fun F σ H0 H ρ r ρ' Q R e h => by
    refine A.bindV R e h.hx fun c ρ1 v H1 H' e1 s1 R1 rd1 => ?_
    obtain ⟨ds, es, rfl, rfl⟩ := mO_inv e1
    obtain rfl := onlyT_inv es
    obtain ⟨a, xs, rfl, h1, h2⟩ := rd1.tup_inv
    exact ⟨a, rfl, ⟨xs, sqT_mono R1.s2 h1⟩, h _ H1 H' s1 R1 (walkD_tup h1 h2)⟩
def rangeD (lo : Int) (n : Nat) : List Dt := (List.range n).map fun i => .int (lo + (i : Nat))
def inRg (i : Int) : Bool := decide (-(2 ^ 62) ≤ i) && decide (i < 2 ^ 62)
theorem inRg_1 {i : Int} (h : inRg i = true) : -(2 ^ 62) ≤ i := of_decide_eq_true (Bool.and_eq_true _ _ ▸ h).1
theorem inRg_2 {i : Int} (h : inRg i = true) : i < 2 ^ 62 := of_decide_eq_true (Bool.and_eq_true _ _ ▸ h).2
theorem walkD_range {lo : Int} {n : Nat} : WalkD K H0 (Itr lo n) (rangeD lo n) := by
  have hl : (rangeD lo n).length = n := by simp [rangeD]
  refine ⟨_, _, (by rw [hl]; exact walk_range), fun H' s => trivial, fun i Hq x Hq' H0q hi s1 s2 y => ?_⟩
  obtain ⟨rfl, rfl⟩ := y
  refine ⟨.int (lo + (i : Nat)), H0q, ?_, .refl s2, RD.int⟩
  have : i < n := by rw [← hl]; exact hi
  simp [rangeD, this]
def rg1 : List Dt → Option (List Dt)
  | [.int j] => if inRg j then some (rangeD 0 j.toNat) else none
  | _ => none
def rg2 : List Dt → Option (List Dt)
  | [.int i, .int j] => if inRg i && inRg j then some (rangeD i (j - i).toNat) else none
  | _ => none
theorem RDs.one {d : Dt} {vs : List V} (h : RDs K H [d] vs) : ∃ v, vs = [v] ∧ RD K H d v := by
  obtain ⟨v, r, rfl, h1, h2⟩ := h.inv
  rw [RDs.nil_inv h2]; exact ⟨v, rfl, h1⟩
theorem RDs.two {d e : Dt} {vs : List V} (h : RDs K H [d, e] vs) : ∃ v u, vs = [v, u] ∧ RD K H d v ∧ RD K H e u := by
  obtain ⟨v, r, rfl, h1, h2⟩ := h.inv
  obtain ⟨u, rfl, h3⟩ := h2.one
  exact ⟨v, u, rfl, h1, h3⟩
theorem RDs.three {d e c : Dt} {vs : List V} (h : RDs K H [d, e, c] vs) : ∃ v u w, vs = [v, u, w] ∧ RD K H d v ∧ RD K H e u ∧ RD K H c w := by
  obtain ⟨v, r, rfl, h1, h2⟩ := h.inv
  obtain ⟨u, w, rfl, h3⟩ := h2.two
  exact ⟨v, u, w, rfl, h1, h3⟩
def fRg (g : List Dt → Option (List Dt)) (f : M (List Dt)) : M (List Dt) := mB f fun ds => mO (g ds)
instance sIRng1 {ta : TA} {f : M (List Dt)} [A : SimA K E ta f] : SimI K E (iRng1 ta) (fRg rg1 f) where
  run := fun F σ H0 H ρ r ρ' Q R e h => by
    refine A.bind R e h.hx fun c ρ1 v H1 H' e1 s1 R1 rd1 => ?_
    obtain ⟨ds, es, rfl, rfl⟩ := mO_inv e1
    unfold rg1 at es
    split at es
    · rename_i j
      split at es
      · rename_i hj
        cases es
        obtain ⟨v, rfl, hv⟩ := rd1.one
        exact ⟨j, by rw [hv.int_inv], inRg_1 hj, inRg_2 hj, h _ H1 H' s1 R1 walkD_range⟩
      · cases es
    · cases es
instance sIRng2 {ta : TA} {f : M (List Dt)} [A : SimA K E ta f] : SimI K E (iRng2 ta) (fRg rg2 f) where
  run := fun F σ H0 H ρ r ρ' Q R e h => by
    refine A.bind R e h.hx fun c ρ1 v H1 H' e1 s1 R1 rd1 => ?_
    obtain ⟨ds, es, rfl, rfl⟩ := mO_inv e1
    unfold rg2 at es
    split at es
    · rename_i i j
      split at es
      · rename_i hj
        cases es
        obtain ⟨v, u, rfl, hv, hu⟩ := rd1.two
        have q := Bool.and_eq_true _ _ ▸ hj
        exact ⟨i, j, by rw [hv.int_inv, hu.int_inv], ⟨inRg_1 q.1, inRg_2 q.1, inRg_1 q.2, inRg_2 q.2⟩, h _ H1 H' s1 R1 walkD_range⟩
      · cases es
    · cases es
/-- pairs -/
theorem walkD_pair {J : It} {G : Hp → Prop} {f g : Nat → Option V} {ds : List Dt} (W : Walk J ds.length G (YPair f g)) (hG : ∀ H', Same H0 H' → G H')
    (h : ∀ i x y, i < ds.length → f i = some x → g i = some y → ∃ d e, ds[i]? = some (.tup [d, e]) ∧ RD K H0 d x ∧ RD K H0 e y) : WalkD K H0 J ds := by
  refine ⟨_, _, W, hG, fun i Hq x Hq' H0q hi s1 s2 y => ?_⟩
  obtain ⟨T, a, b, rfl, hn, rfl, ea, eb⟩ := y
  obtain ⟨d, e, e1, r1, r2⟩ := h i a b hi ea eb
  have gr := Grow.new (o := .tup [a, b]) s2 hn
  exact ⟨_, _, e1, gr, RD.tup (.inl (.inl upd_same)) (RDs.cons ((r1.mono s1).mono gr.g1) (RDs.cons ((r2.mono s1).mono gr.g1) RDs.nil))⟩
def enumD (ds : List Dt) : List Dt := ds.zipIdx.map fun p => .tup [.int (p.2 : Nat), p.1]
theorem enumD_get {ds : List Dt} {i : Nat} : (enumD ds)[i]? = ds[i]?.map fun d => Dt.tup [.int (i : Nat), d] := by
  unfold enumD
  rw [List.getElem?_map, List.getElem?_zipIdx]
  cases ds[i]? <;> simp
def en1 : List Dt → Option (List Dt)
  | [.lst ds] => some (enumD ds)
  | _ => none
instance sIEnum {ta : TA} {f : M (List Dt)} [A : SimA K E ta f] : SimI K E (iEnum K ta) (fRg en1 f) where
  run := fun F σ H0 H ρ r ρ' Q R e h => by
    refine A.bind R e h.hx fun c ρ1 v H1 H' e1 s1 R1 rd1 => ?_
    obtain ⟨ds, es, rfl, rfl⟩ := mO_inv e1
    unfold en1 at es
    split at es
    · rename_i es'
      cases es
      obtain ⟨v, rfl, hv⟩ := rd1.one
      obtain ⟨a, xs, rfl, h1, h2⟩ := hv.lst_inv
      have hl : (enumD es').length = xs.length := by rw [h2.length]; simp [enumD]
      refine ⟨a, xs, rfl, .inl (.inl (R1.s2 _ _ h1)), h _ H1 H' s1 R1 (walkD_pair (by rw [hl]; exact walk_enum (xs := xs)) (fun H' s => (SqL.of (K := K) (s _ _ h1) : SqL K H' a xs)) fun i x y hi ex ey => ?_)⟩
      obtain ⟨d, ed, rd⟩ := h2.getV ey
      cases ex
      exact ⟨.int (i : Nat), d, by rw [enumD_get, ed]; rfl, RD.int, rd⟩
    · cases es
def zipD (ds es : List Dt) : List Dt := List.zipWith (fun d e => Dt.tup [d, e]) ds es
def zp1 : List Dt → Option (List Dt)
  | [.lst ds, .lst es] => some (zipD ds es)
  | [.tup ds, .tup es] => some (zipD ds es)
  | _ => none
/-! ### for -/
def forM (T : Dt → Up) (B : M So) : List Dt → M So
  | [] => mP .nx
  | d :: ds => mU (T d) (mB B fun
    | .bk => mP .nx
    | .rt s => mP (.rt s)
    | _ => forM T B ds)
def fFor (fi : M (List Dt)) (T : Dt → Up) (B : M So) : M So := mB fi (forM T B)
instance sFor {wi : TI} {g : TG} {tb : TS} {fi : M (List Dt)} {T : Dt → Up} {B : M So} [I : SimI K E wi fi] [G : SimG K pin g T] [S : SimS K E pin tb B] : SimS K E pin (tFor wi g tb) (fFor fi T B) where
  run := fun F σ H0 H ρ r ρ' D R e h => by
    rcases mB_inv e with ⟨ds, ρ1, e1, e2⟩ | ⟨C, ns, ds, e1, rfl⟩
    · refine I.run F σ H0 H ρ _ _ _ R e1 fun J H1 H' s1 R1 w => ?_
      obtain ⟨Gd, Y, W, hG, hY⟩ := w
      refine for_it W (fun i σ' Hq => ∃ H0q ρq, Same H1 H0q ∧ Pin pin σ σ' ∧ Rep K F σ' H0q Hq ρq ∧ forM T B (ds.drop i) ρq = some (r, ρ')) ⟨H1, ρ1, Same.refl _, Pin.refl _ _, R1, by simpa using e2⟩
        (fun i σ' Hq hi ⟨H0q, ρq, sq, pq, Rq, eq⟩ => hG Hq (sq.trans Rq.s2)) (fun i x σ' Hq Hq' hi ⟨H0q, ρq, sq, pq, Rq, eq⟩ y => ?_) fun σ' Hq ⟨H0q, ρq, sq, pq, Rq, eq⟩ => ?_
      · obtain ⟨d, H0n, ed, gr, rd⟩ := hY i Hq x Hq' H0q hi sq Rq.s2 y
        have Rn := Rq.grow gr
        rw [List.drop_eq_getElem_cons hi] at eq
        have ed' : ds[i] = d := by
          rw [List.getElem?_eq_getElem hi] at ed
          exact Option.some.inj ed
        rw [ed'] at eq
        obtain ⟨ρ2, e3, e4⟩ := mU_inv (show mU (T d) _ ρq = some (r, ρ') from eq)
        refine G.run F σ' H0n Hq' ρq ρ2 d x _ Rn rd e3 fun σ2 H2 H2' s2 p2 R2 => ?_
        have sa : Same H1 H2 := (sq.trans gr.g1).trans s2
        rcases mB_inv e4 with ⟨o, ρ3, e5, e6⟩ | ⟨C, ns, ds', e5, rfl⟩
        · refine S.run F σ2 H2 H2' ρ2 _ _ _ R2 e5 ?_
          cases o with
          | nx => exact fun σ3 H3 H3' s3 p3 R3 => ⟨H3, ρ3, sa.trans s3, (pq.trans p2).trans p3, R3, e6⟩
          | ct => exact fun σ3 H3 H3' s3 p3 R3 => ⟨H3, ρ3, sa.trans s3, (pq.trans p2).trans p3, R3, e6⟩
          | bk =>
            obtain ⟨rfl, rfl⟩ := mP_inv e6
            exact fun σ3 H3 H3' s3 p3 R3 => h σ3 H3 H3' ((s1.trans sa).trans s3) ((pq.trans p2).trans p3) R3
          | rt s =>
            obtain ⟨rfl, rfl⟩ := mP_inv e6
            exact fun v σ3 H3 H3' s3 p3 R3 => h v σ3 H3 H3' ((s1.trans sa).trans s3) ((pq.trans p2).trans p3) R3
        · exact S.run F σ2 H2 H2' ρ2 _ _ _ R2 e5 fun d' σ3 H3 H3' s3 p3 R3 x => h d' σ3 H3 H3' ((s1.trans sa).trans s3) ((pq.trans p2).trans p3) R3 x
      · rw [List.drop_length] at eq
        obtain ⟨rfl, rfl⟩ := mP_inv (show mP So.nx ρq = some (r, ρ') from eq)
        exact h σ' H0q Hq (s1.trans sq) pq Rq
    · exact I.run F σ H0 H ρ _ _ _ R e1 (h.hx C ns ds rfl)
end
end DL

end
section
set_option Elab.async false
set_option linter.all false
set_option maxRecDepth 100000
set_option maxHeartbeats 2000000
/-! D4: comprehensions. -/
namespace DL
open PySem PySem.Spec L2
def wipeR (ρ : List Sl) : List Nat → List Sl
  | [] => ρ
  | v :: vs => (wipeR ρ vs).set v .un
section
variable {K : Fg} {E : SX} {F : Fr} {σ σ2 : L2.St} {H0 H : Hp} {ρ ρ' : List Sl}
theorem Rep.setNone {i : Nat} (R : Rep K F σ H0 H ρ) : Rep K F (σ.set i none) H0 H (ρ.set i .un) := by
  have f : ∀ (m : Nat) (s : Sl), (ρ.set i .un)[m]? = some s → s ≠ .un → ρ[m]? = some s ∧ (σ.set i none)[m]? = σ[m]? := fun m s z n => by
    rw [List.getElem?_set] at z
    split at z
    · split at z
      · simp at z; exact absurd z.symm n
      · cases z
    · rename_i h
      exact ⟨z, by rw [List.getElem?_set_ne h]⟩
  exact ⟨by simpa using R.len, R.s1, R.s2, R.s3, R.s4, R.s5, fun j d e => by
      obtain ⟨e1, e2⟩ := f j _ e (fun z => nomatch z)
      rw [e2]; exact R.val j d e1, fun j o e => by
      obtain ⟨e1, e2⟩ := f j _ e (fun z => nomatch z)
      rw [e2]; exact R.own j o e1,
    fun j k o o' a e1 e2 e3 e4 => by
      obtain ⟨h1, h2⟩ := f j _ e1 (fun z => nomatch z)
      obtain ⟨h3, h4⟩ := f k _ e2 (fun z => nomatch z)
      rw [h2] at e3; rw [h4] at e4
      exact R.dis j k o o' a h1 h3 e3 e4⟩
theorem Rep.wipe (R : Rep K F σ H0 H ρ) : ∀ vs : List Nat, Rep K F (L2.wipe σ vs) H0 H (wipeR ρ vs)
  | [] => R
  | v :: vs => (R.wipe vs).setNone
theorem wipeR_some : ∀ {vs : List Nat} {i : Nat} {s : Sl}, (wipeR ρ vs)[i]? = some s → s ≠ .un → i ∉ vs
  | [], _, _, _, _ => by simp
  | v :: vs, i, s, h, n => by
    unfold wipeR at h
    rw [List.getElem?_set] at h
    split at h
    · split at h
      · simp at h; exact absurd h.symm n
      · cases h
    · rename_i hne
      have := wipeR_some (vs := vs) h n
      simp only [List.mem_cons, not_or]
      exact ⟨fun z => hne z.symm, this⟩
theorem wipe_get : ∀ {vs : List Nat} {i : Nat}, i ∉ vs → (L2.wipe σ vs)[i]? = σ[i]?
  | [], _, _ => rfl
  | v :: vs, i, h => by
    simp only [List.mem_cons, not_or] at h
    unfold L2.wipe
    rw [List.getElem?_set_ne (fun z => h.1 z.symm)]
    exact wipe_get h.2
theorem wipe_in : ∀ {vs : List Nat} {i : Nat}, i ∈ vs → (L2.wipe σ vs)[i]? = if i < σ.length then some none else none
  | [], _, h => absurd h (by simp)
  | v :: vs, i, h => by
    unfold L2.wipe
    rw [List.getElem?_set, wipe_length]
    by_cases hv : v = i
    · rw [if_pos hv]
      subst hv
      rfl
    · rw [if_neg hv]
      exact wipe_in ((List.mem_cons.mp h).resolve_left (fun z => hv z.symm))
theorem wipe_eq {vs : List Nat} (hl : σ2.length = σ.length) (h : ∀ i, i ∉ vs → σ2[i]? = σ[i]?) : L2.wipe σ2 vs = L2.wipe σ vs := by
  apply List.ext_getElem?
  intro i
  by_cases hi : i ∈ vs
  · rw [wipe_in hi, wipe_in hi, hl]
  · rw [wipe_get hi, wipe_get hi]
    exact h i hi
theorem wipe_wipe {vs : List Nat} : L2.wipe (L2.wipe σ vs) vs = L2.wipe σ vs := wipe_eq (wipe_length _ _) fun i h => wipe_get h
theorem Rep.unwipe {vs : List Nat} (R : Rep K F σ2 H0 H ρ) (e : L2.wipe σ2 vs = L2.wipe σ vs) : Rep K F σ H0 H (wipeR ρ vs) := by
  have S := R.wipe vs
  rw [e] at S
  exact ⟨by rw [← wipe_length σ vs]; exact S.len, S.s1, S.s2, S.s3, S.s4, S.s5,
    fun j d h => by
      have := S.val j d h
      rw [wipe_get (wipeR_some h (fun z => nomatch z))] at this; exact this,
    fun j o h => by
      have := S.own j o h
      rw [wipe_get (wipeR_some h (fun z => nomatch z))] at this; exact this,
    fun j k o o' a h1 h2 h3 h4 => S.dis j k o o' a h1 h2 (by rw [wipe_get (wipeR_some h1 (fun z => nomatch z))]; exact h3) (by rw [wipe_get (wipeR_some h2 (fun z => nomatch z))]; exact h4)⟩
instance sYes : SimT K E tYes (mP true) where
  run := fun F σ H0 H ρ r ρ' Q R e h => by
    obtain ⟨rfl, rfl⟩ := mP_inv e
    exact h H0 H (Same.refl _) R
/-- the turns of a comprehension: the items, what is made so far -/
def lcM (T : Dt → Up) (t : M Bool) (e : M Sl) (vs : List Nat) : List Dt → List Dt → List Sl → Option (List Dt × List Sl)
  | [], acc, ρ => some (acc, ρ)
  | d :: ds, acc, ρ => match T d (wipeR ρ vs) with
    | none => none
    | some ρ1 => match t ρ1 with
      | some (.ok true, ρ2) => match vl e ρ2 with
        | some (.ok x, ρ3) => if small acc.length then lcM T t e vs ds (acc ++ [x]) (wipeR ρ3 vs) else none
        | _ => none
      | some (.ok false, ρ2) => lcM T t e vs ds acc (wipeR ρ2 vs)
      | _ => none
def notIn (vs : List Nat) : Nat → Bool := fun i => !vs.contains i
def fLc (fi : M (List Dt)) (T : Dt → Up) (t : M Bool) (e : M Sl) (vs : List Nat) : M Sl := mB fi fun ds ρ => match lcM T t e vs ds [] (wipeR ρ vs) with
  | some (acc, ρ') => some (.ok (.own (.lst acc)), ρ')
  | none => none
/-- a cell that is none of the slots' stands through a run -/
theorem Rep.side {D : Addr} {x : HO} {σ' : L2.St} {H0' H' : Hp} {ρ1 : List Sl} (S : Rep K (DL.snap σ H0 H ρ) σ' H0' H' ρ1) (hD : H D = some x) (h0 : H0 D = none) (hn : D ∉ owns σ ρ) : H' D = some x ∧ H0' D = none :=
  ⟨S.s3 D x hD hn, S.s4 D (fun z => nomatch (hD.symm.trans z : some x = none)) h0 hn⟩
theorem Rep.notOwn {D : Addr} (R : Rep K F σ H0 H ρ) (h : H D = none) : D ∉ owns σ ρ := fun hm => by
  obtain ⟨i, o, h1, h2⟩ := mem_owns.mp hm
  exact R.fresh_ne h i o h1 h2
instance sLc {wi : TI} {g : TG} {tt : TT} {te : TE} {vs : List Nat} {fi : M (List Dt)} {T : Dt → Up} {t : M Bool} {e : M Sl} [I : SimI K E wi fi] [G : SimG K (notIn vs) g T] [C : SimT K E tt t] [A : SimE K E te e] :
    SimE K E (tLc wi g tt te vs) (fLc fi T t e vs) where
  run := fun F σ H0 H ρ r ρ' Q R e0 h => by
    rcases mB_inv e0 with ⟨ds, ρ1, e1, e2⟩ | ⟨C, ns, ds, e1, rfl⟩
    · refine I.run F σ H0 H ρ _ _ _ R e1 fun J H1 H' s1 R1 w => ?_
      cases q : lcM T t e vs ds [] (wipeR ρ1 vs) with
      | none => simp only [q] at e2; cases e2
      | some p =>
        obtain ⟨accF, ρF⟩ := p
        simp only [q, Option.some.injEq, Prod.mk.injEq] at e2
        obtain ⟨rfl, rfl⟩ := e2
        obtain ⟨Gd, Y, W, hG, hY⟩ := w
        intro D hD
        have hD1 : H1 D = none := same_none R1.s2 hD
        have hFD : F.He D = none := R1.fresh hD
        refine lc_it W (fun i Hq => ∃ H0q ρq acc av, Same H1 H0q ∧ Rep K F σ H0q Hq ρq ∧ D ∉ owns σ ρq ∧ H0q D = none ∧ Hq D = some (.lst av) ∧ RDs K H0q acc av ∧ lcM T t e vs (ds.drop i) acc ρq = some (accF, ρF))
          ⟨H1, wipeR ρ1 vs, [], [], Same.refl _, ?_, ?_, hD1, upd_same, RDs.nil, by simpa using q⟩
          (fun i Hq hi ⟨H0q, ρq, acc, av, sq, Rq, _⟩ => hG Hq (sq.trans Rq.s2)) (fun i x Hq Hq' hi ⟨H0q, ρq, acc, av, sq, Rq, no, hD0, hDq, ra, eq⟩ y => ?_) fun Hq ⟨H0q, ρq, acc, av, sq, Rq, no, hD0, hDq, ra, eq⟩ => ?_
        · exact ((R1.wipe vs).unwipe wipe_wipe |> fun z => by
            have : wipeR (wipeR ρ1 vs) vs = wipeR ρ1 vs := by
              have : ∀ (l : List Nat) (ρ : List Sl), wipeR (wipeR ρ l) l = wipeR ρ l := by
                intro l ρ
                have gin : ∀ (l : List Nat) (ρ : List Sl) (i : Nat), i ∈ l → (wipeR ρ l)[i]? = if i < ρ.length then some .un else none := by
                  intro l
                  induction l with
                  | nil => intro _ _ h; simp at h
                  | cons v l ih =>
                    intro ρ i hi
                    have hl : ∀ (l : List Nat) (ρ : List Sl), (wipeR ρ l).length = ρ.length := by
                      intro l; induction l with
                      | nil => intro _; rfl
                      | cons v l ih => intro ρ; unfold wipeR; rw [List.length_set, ih]
                    unfold wipeR
                    rw [List.getElem?_set, hl]
                    by_cases hv : v = i
                    · rw [if_pos hv]; subst hv; rfl
                    · rw [if_neg hv]; exact ih ρ i ((List.mem_cons.mp hi).resolve_left (fun z => hv z.symm))
                have gout : ∀ (l : List Nat) (ρ : List Sl) (i : Nat), i ∉ l → (wipeR ρ l)[i]? = ρ[i]? := by
                  intro l
                  induction l with
                  | nil => intro _ _ _; rfl
                  | cons v l ih =>
                    intro ρ i hi
                    simp only [List.mem_cons, not_or] at hi
                    unfold wipeR
                    rw [List.getElem?_set_ne (fun z => hi.1 z.symm)]
                    exact ih ρ i hi.2
                have hl : ∀ (l : List Nat) (ρ : List Sl), (wipeR ρ l).length = ρ.length := by
                  intro l; induction l with
                  | nil => intro _; rfl
                  | cons v l ih => intro ρ; unfold wipeR; rw [List.length_set, ih]
                apply List.ext_getElem?
                intro i
                by_cases hi : i ∈ l
                · rw [gin _ _ _ hi, gin _ _ _ hi, hl]
                · rw [gout _ _ _ hi]
              exact this vs ρ1
            rw [this] at z
            exact z.grow (.side z.s2 hD))
        · intro hm
          obtain ⟨j, o, h1, h2⟩ := mem_owns.mp hm
          have z : Rep K F σ H1 H' (wipeR (wipeR ρ1 vs) vs) := (R1.wipe vs).unwipe wipe_wipe
          have hj : j ∉ vs := wipeR_some h1 (fun z => nomatch z)
          have : ∀ (l : List Nat) (ρ : List Sl) (i : Nat), i ∉ l → (wipeR ρ l)[i]? = ρ[i]? := by
            intro l
            induction l with
            | nil => intro _ _ _; rfl
            | cons v l ih =>
              intro ρ i hi
              simp only [List.mem_cons, not_or] at hi
              unfold wipeR
              rw [List.getElem?_set_ne (fun z => hi.1 z.symm)]
              exact ih ρ i hi.2
          rw [this vs ρ1 j hj] at h1
          exact R1.fresh_ne hD j o h1 h2
        · obtain ⟨d, H0n, ed, gr, rd⟩ := hY i Hq x Hq' H0q hi sq Rq.s2 y
          have Rn := Rq.grow gr
          have hDn : Hq' D = some (.lst av) := gr.g2 _ _ hDq
          have hD0n : H0n D = none := gr.g4 D (by rw [hDq]; exact fun z => nomatch z) hD0
          rw [List.drop_eq_getElem_cons hi] at eq
          have ed' : ds[i] = d := by
            rw [List.getElem?_eq_getElem hi] at ed
            exact Option.some.inj ed
          rw [ed'] at eq
          unfold lcM at eq
          have Rw := Rn.wipe vs
          have no0 : D ∉ owns (L2.wipe σ vs) (wipeR ρq vs) := fun hm => by
            obtain ⟨j, o, h1, h2⟩ := mem_owns.mp hm
            have hj : j ∉ vs := wipeR_some h1 (fun z => nomatch z)
            rw [wipe_get hj] at h2
            have gout : ∀ (l : List Nat) (ρ : List Sl) (i : Nat), i ∉ l → (wipeR ρ l)[i]? = ρ[i]? := by
              intro l
              induction l with
              | nil => intro _ _ _; rfl
              | cons v l ih =>
                intro ρ i hi
                simp only [List.mem_cons, not_or] at hi
                unfold wipeR
                rw [List.getElem?_set_ne (fun z => hi.1 z.symm)]
                exact ih ρ i hi.2
            rw [gout vs ρq j hj] at h1
            exact no (mem_owns.mpr ⟨j, o, h1, h2⟩)
          cases qT : T d (wipeR ρq vs) with
          | none => rw [qT] at eq; cases eq
          | some ρ2 =>
            simp only [qT] at eq
            refine G.run (snap (L2.wipe σ vs) H0n Hq' (wipeR ρq vs)) (L2.wipe σ vs) H0n Hq' (wipeR ρq vs) ρ2 d x _ Rw.snap rd qT fun σ2 H2 H2' s2 p2 R2 => ?_
            have ew : L2.wipe σ2 vs = L2.wipe σ vs := by
              rw [← wipe_wipe (σ := σ)]
              exact wipe_eq p2.1 fun j hj => p2.2 j (by simp [notIn, hj])
            refine ⟨ew, ?_⟩
            have sa : Same H1 H2 := (sq.trans gr.g1).trans s2
            cases qt : t ρ2 with
            | none => rw [qt] at eq; cases eq
            | some pt =>
              obtain ⟨rt, ρ3⟩ := pt
              rw [qt] at eq
              cases rt with
              | ex C ns ds' => cases eq
              | ok b =>
                refine C.run _ σ2 H2 H2' ρ2 _ _ _ R2 qt fun H3 H3' s3 R3 => ?_
                cases b with
                | false =>
                  simp only [Bool.false_eq_true, if_false] at eq ⊢
                  have Z := Rw.back R3
                  obtain ⟨z1, z2⟩ := R3.side hDn hD0n no0
                  refine ⟨H3, wipeR ρ3 vs, acc, av, sa.trans s3, Z.unwipe ew, ?_, z2, z1, ra.mono ((gr.g1.trans s2).trans s3), eq⟩
                  intro hm
                  obtain ⟨j, o, h1, h2⟩ := mem_owns.mp hm
                  obtain ⟨a, e4, n4, q4, r4⟩ := (R3.unwipe ew).own j o h1
                  rw [h2] at e4
                  cases e4
                  rcases q4 with q4 | q4
                  · rw [show (snap (L2.wipe σ vs) H0n Hq' (wipeR ρq vs)).He = Hq' from rfl, hDn] at q4; cases q4
                  · exact no0 q4
                | true =>
                  simp only [if_true] at eq ⊢
                  cases qe : vl e ρ3 with
                  | none => rw [qe] at eq; cases eq
                  | some pe =>
                    obtain ⟨re, ρ4⟩ := pe
                    rw [qe] at eq
                    cases re with
                    | ex C ns ds' => cases eq
                    | ok xx =>
                      simp only at eq
                      split at eq
                      · rename_i hsm
                        refine A.runV R3 qe fun v H4 H4' s4 R4 rd4 => ?_
                        have Z := Rw.back R4
                        obtain ⟨z1, z2⟩ := R4.side hDn hD0n no0
                        have hno4 : D ∉ owns σ (wipeR ρ4 vs) := by
                          intro hm
                          obtain ⟨j, o, h1, h2⟩ := mem_owns.mp hm
                          obtain ⟨a, e4, n4, q4, r4⟩ := (R4.unwipe ew).own j o h1
                          rw [h2] at e4
                          cases e4
                          rcases q4 with q4 | q4
                          · rw [show (snap (L2.wipe σ vs) H0n Hq' (wipeR ρq vs)).He = Hq' from rfl, hDn] at q4; cases q4
                          · exact no0 q4
                        have ra4 : RDs K H4 acc av := ra.mono (((gr.g1.trans s2).trans s3).trans s4)
                        refine ⟨av, z1, by rw [ra4.length]; exact small_lt hsm, H4, wipeR ρ4 vs, acc ++ [xx], av ++ [v], (sa.trans s3).trans s4, ?_, hno4, z2, upd_same, ra4.append (RDs.cons rd4 RDs.nil), eq⟩
                        have Z2 : Rep K F σ H4 H4' (wipeR ρ4 vs) := Z.unwipe ew
                        have Z3 : Rep K F (some (.ref D) :: σ) H4 H4' (.own (.lst acc) :: wipeR ρ4 vs) :=
                          Z2.pushOwn z2 (.inl hFD) ⟨av, z1, ra4⟩ fun j o h1 h2 => hno4 (mem_owns.mpr ⟨j, o, h1, h2⟩)
                        exact (Z3.write (i := 0) (o' := .lst (acc ++ [xx])) rfl rfl ⟨av ++ [v], upd_same, ra4.append (RDs.cons rd4 RDs.nil)⟩).pop
                      · cases eq
        · rw [List.drop_length] at eq
          unfold lcM at eq
          simp only [Option.some.injEq, Prod.mk.injEq] at eq
          obtain ⟨rfl, rfl⟩ := eq
          exact h _ H0q Hq (s1.trans sq) (Rq.pushOwn hD0 (.inl hFD) ⟨av, hDq, ra⟩ fun j o h1 h2 => no (mem_owns.mpr ⟨j, o, h1, h2⟩))
    · exact I.run F σ H0 H ρ _ _ _ R e1 (h.hx C ns ds rfl)
end
end DL

end
section
set_option Elab.async false
set_option linter.all false
set_option maxRecDepth 100000
set_option maxHeartbeats 4000000
/-! D5: operators, subscripts, slices, built-in calls. -/
namespace DL
open PySem PySem.Spec L2

/-! ### data as PyData -/
mutual
def toPy : Dt → Option PyData
  | .non => some .none
  | .bl b => some (.bool b)
  | .int i => some (.int i)
  | .str x => some (.str x)
  | .lst ds => (toPys ds).map .list
  | .rol ds => (toPys ds).map .list
  | .tup ds => (toPys ds).map .tuple
  | .ty _ => none
  | .ref _ => none
  | .dct _ _ => none
  | .obj _ _ _ => none
  | .exn _ _ _ => none
def toPys : List Dt → Option (List PyData)
  | [] => some []
  | d :: ds => match toPy d, toPys ds with
    | some p, some ps => some (p :: ps)
    | _, _ => none
end
mutual
theorem RD.dp {K : Fg} {H : Hp} : ∀ {d : Dt} {v : V} {p : PyData}, RD K H d v → toPy d = some p → Dp K H v p
  | .non, v, p, h, e => by rw [h.non_inv]; simp only [toPy, Option.some.injEq] at e; subst e; exact .non
  | .bl b, v, p, h, e => by rw [h.bl_inv]; simp only [toPy, Option.some.injEq] at e; subst e; exact .bl b
  | .int b, v, p, h, e => by rw [h.int_inv]; simp only [toPy, Option.some.injEq] at e; subst e; exact .int b
  | .str b, v, p, h, e => by rw [h.str_inv]; simp only [toPy, Option.some.injEq] at e; subst e; exact .str b
  | .lst ds, v, p, h, e => by
    obtain ⟨a, xs, rfl, h1, h2⟩ := h.lst_inv
    simp only [toPy] at e
    cases q : toPys ds with
    | none => rw [q] at e; cases e
    | some ps => rw [q] at e; cases e; exact .lst (.inl (.inl h1)) (RDs.dp h2 q)
  | .rol ds, v, p, h, e => by
    obtain ⟨a, xs, rfl, h1, h2⟩ := h.rol_inv
    simp only [toPy] at e
    cases q : toPys ds with
    | none => rw [q] at e; cases e
    | some ps => rw [q] at e; cases e; exact .lst h1 (RDs.dp h2 q)
  | .tup ds, v, p, h, e => by
    obtain ⟨a, xs, rfl, h1, h2⟩ := h.tup_inv
    simp only [toPy] at e
    cases q : toPys ds with
    | none => rw [q] at e; cases e
    | some ps => rw [q] at e; cases e; exact .tup h1 (RDs.dp h2 q)
  | .ty _, _, _, _, e => by simp [toPy] at e
  | .ref _, _, _, _, e => by simp [toPy] at e
  | .dct _ _, _, _, _, e => by simp [toPy] at e
  | .obj _ _ _, _, _, _, e => by simp [toPy] at e
  | .exn _ _ _, _, _, _, e => by simp [toPy] at e
theorem RDs.dp {K : Fg} {H : Hp} : ∀ {ds : List Dt} {vs : List V} {ps : List PyData}, RDs K H ds vs → toPys ds = some ps → DpAll K H vs ps
  | [], vs, ps, h, e => by
    rw [RDs.nil_inv h]; simp only [toPys, Option.some.injEq] at e; subst e; exact .nil
  | d :: ds, vs, ps, h, e => by
    obtain ⟨v, r, rfl, h1, h2⟩ := RDs.inv h
    unfold toPys at e
    cases q1 : toPy d with
    | none => simp [q1] at e
    | some p =>
      cases q2 : toPys ds with
      | none => simp [q1, q2] at e
      | some ps' =>
        simp only [q1, q2, Option.some.injEq] at e
        subst e
        exact .cons (RD.dp h1 q1) (RDs.dp h2 q2)
end
/-- flat values -/
def flV : Dt → Option V
  | .non => some .non
  | .bl b => some (.bl b)
  | .int i => some (.int i)
  | .str x => some (.str x)
  | _ => none
def flVs : List Dt → Option (List V)
  | [] => some []
  | d :: ds => match flV d, flVs ds with
    | some v, some vs => some (v :: vs)
    | _, _ => none
section
variable {K : Fg} {H0 H H0' H' : Hp}
theorem RD.fl {d : Dt} {v u : V} (h : RD K H d v) (e : flV d = some u) : v = u ∧ flatV u = true := by
  cases d <;> simp only [flV, Option.some.injEq] at e <;> try cases e
  · exact ⟨h.non_inv, rfl⟩
  · exact ⟨h.bl_inv, rfl⟩
  · exact ⟨h.int_inv, rfl⟩
  · exact ⟨h.str_inv, rfl⟩
theorem RDs.fl : ∀ {ds : List Dt} {vs us : List V}, RDs K H ds vs → flVs ds = some us → vs = us ∧ us.all flatV = true
  | [], vs, us, h, e => by
    simp only [flVs, Option.some.injEq] at e
    subst e
    exact ⟨RDs.nil_inv h, rfl⟩
  | d :: ds, vs, us, h, e => by
    obtain ⟨v, r, rfl, h1, h2⟩ := RDs.inv h
    unfold flVs at e
    cases q1 : flV d with
    | none => simp [q1] at e
    | some u =>
      cases q2 : flVs ds with
      | none => simp [q1, q2] at e
      | some us' =>
        simp only [q1, q2, Option.some.injEq] at e
        subst e
        obtain ⟨rfl, f1⟩ := RD.fl h1 q1
        obtain ⟨rfl, f2⟩ := RDs.fl h2 q2
        exact ⟨rfl, by simp [f1, f2]⟩
def intsOf : List Dt → Option (List Int)
  | [] => some []
  | .int i :: ds => (intsOf ds).map (i :: ·)
  | _ :: _ => none
theorem intsOf_inv : ∀ {ds : List Dt} {ns : List Int}, intsOf ds = some ns → ds = ns.map Dt.int
  | [], ns, e => by simp only [intsOf, Option.some.injEq] at e; subst e; rfl
  | d :: ds, ns, e => by
    cases d <;> simp only [intsOf] at e <;> try cases e
    cases q : intsOf ds with
    | none => rw [q] at e; cases e
    | some ms => rw [q] at e; cases e; rw [intsOf_inv q]; rfl
def blsOf : List Dt → Option (List Bool)
  | [] => some []
  | .bl i :: ds => (blsOf ds).map (i :: ·)
  | _ :: _ => none
theorem blsOf_inv : ∀ {ds : List Dt} {ns : List Bool}, blsOf ds = some ns → ds = ns.map Dt.bl
  | [], ns, e => by simp only [blsOf, Option.some.injEq] at e; subst e; rfl
  | d :: ds, ns, e => by
    cases d <;> simp only [blsOf] at e <;> try cases e
    cases q : blsOf ds with
    | none => rw [q] at e; cases e
    | some ms => rw [q] at e; cases e; rw [blsOf_inv q]; rfl
def strsOf : List Dt → Option (List Str)
  | [] => some []
  | .str i :: ds => (strsOf ds).map (i :: ·)
  | _ :: _ => none
theorem strsOf_inv : ∀ {ds : List Dt} {ns : List Str}, strsOf ds = some ns → ds = ns.map Dt.str
  | [], ns, e => by simp only [strsOf, Option.some.injEq] at e; subst e; rfl
  | d :: ds, ns, e => by
    cases d <;> simp only [strsOf] at e <;> try cases e
    cases q : strsOf ds with
    | none => rw [q] at e; cases e
    | some ms => rw [q] at e; cases e; rw [strsOf_inv q]; rfl
/-- the value's wish, as a value that needs nothing new -/
theorem EndG.val {c : Dt} {v : V} {Q : VK} (s : Same H0 H) (h : EndG K H0 H Q (.val c)) (r : RD K H0 c v) : Q v H := h v H0 H (.refl s) r
theorem EndG.newT {ds : List Dt} {xs : List V} {Q : VK} (s : Same H0 H) (h : EndG K H0 H Q (.val (.tup ds))) (r : RDs K H0 ds xs) : ∀ p, H p = none → Q (.ref p) (upd H p (.tup xs)) := fun p hp => by
  have g := Grow.new (o := .tup xs) s hp
  exact h _ _ _ g (RD.tup (.inl (.inl upd_same)) (r.mono g.g1))
theorem EndG.newL {ds : List Dt} {xs : List V} {Q : VK} (h : EndG K H0 H Q (.own (.lst ds))) (r : RDs K H0 ds xs) : ∀ p, H p = none → Q (.ref p) (upd H p (.lst xs)) := fun p hp =>
  h p _ hp fun H2 e => ⟨xs, e, r⟩

/-! ### + -/
def gAdd : Dt → Dt → Option Sl
  | .int i, .int j => some (.val (.int (i + j)))
  | .str x, .str y => if small (x.length + y.length) then some (.val (.str (x ++ y))) else none
  | .lst xs, .lst ys => if small (xs.length + ys.length) then some (.own (.lst (xs ++ ys))) else none
  | .tup xs, .tup ys => if small (xs.length + ys.length) then some (.val (.tup (xs ++ ys))) else none
  | _, _ => none
def rAddU (K : Fg) : R2 := fun x y H Q => rI0 (fun i j => .int (i + j)) x y H Q ∨ ((∃ i j, x = .str i ∧ y = .str j ∧ i.length + j.length ≤ sizeLine ∧ Q (.str (i ++ j)) H) ∨ (rCat x y H Q ∨ rCatA K x y H Q))
theorem opAddU {X : Cx} : OpR X (binaryOp .Add) (rAddU X.K) := op_add.or (op_add_str.or (op_cat.or op_catA))
instance vAdd : OpV K (rAddU K) gAdd where
  run := fun x y d e s H0 H Q sm rx ry eq h => by
    unfold gAdd at eq
    split at eq
    · cases eq
      exact .inl ⟨_, _, rx.int_inv, ry.int_inv, h.val sm RD.int⟩
    · split at eq
      · rename_i hz
        cases eq
        exact .inr (.inl ⟨_, _, rx.str_inv, ry.str_inv, small_line hz, h.val sm RD.str⟩)
      · cases eq
    · split at eq
      · rename_i hz
        cases eq
        obtain ⟨a, xs, rfl, h1, h2⟩ := rx.lst_inv
        obtain ⟨b, ys, rfl, h3, h4⟩ := ry.lst_inv
        exact .inr (.inr (.inl ⟨a, b, xs, ys, rfl, rfl, sm _ _ h1, sm _ _ h3, by rw [h2.length, h4.length]; exact small_line hz, h.newL (h2.append h4)⟩))
      · cases eq
    · split at eq
      · rename_i ds es hz
        cases eq
        obtain ⟨a, xs, rfl, h1, h2⟩ := rx.tup_inv
        obtain ⟨b, ys, rfl, h3, h4⟩ := ry.tup_inv
        refine .inr (.inr (.inr ⟨a, b, xs, ys, rfl, rfl, sqT_mono sm h1, sqT_mono sm h3, by rw [h2.length, h4.length]; exact small_line hz, fun z => ?_, fun _ z => ?_, fun _ _ => h.newT sm (h2.append h4)⟩))
        · subst z
          have hl := h2.length
          cases ds with
          | nil => exact h.val sm ry
          | cons a b => simp at hl
        · subst z
          have hl := h4.length
          cases es with
          | nil => rw [List.append_nil] at h; exact h.val sm rx
          | cons a b => simp at hl
      · cases eq
    · cases eq
/-! ### ints -/
def gMinus : Dt → Dt → Option Sl
  | .int i, .int j => some (.val (.int (i - j)))
  | _, _ => none
instance vSub : OpV K (rI0 fun i j => .int (i - j)) gMinus where
  run := fun x y d e s H0 H Q sm rx ry eq h => by
    unfold gMinus at eq
    split at eq
    · cases eq
      exact ⟨_, _, rx.int_inv, ry.int_inv, h.val sm RD.int⟩
    · cases eq
def okMul (i j : Int) : Bool := (decide (-(2 ^ 64) < i) && decide (i < 2 ^ 64)) || (decide (-(2 ^ 64) < j) && decide (j < 2 ^ 64))
theorem okMul_inv {i j : Int} (h : okMul i j = true) : CMul i j := by
  unfold okMul at h
  rcases (Bool.or_eq_true _ _ ▸ h) with h | h
  · have := Bool.and_eq_true _ _ ▸ h
    exact .inl ⟨of_decide_eq_true this.1, of_decide_eq_true this.2⟩
  · have := Bool.and_eq_true _ _ ▸ h
    exact .inr ⟨of_decide_eq_true this.1, of_decide_eq_true this.2⟩
instance : ∀ i j, Decidable (CMulW i j) := fun i j => inferInstanceAs (Decidable (_ < _))
def gMul : Dt → Dt → Option Sl
  | .int i, .int j => if okMul i j || decide (CMulW i j) then some (.val (.int (i * j))) else none
  | .lst xs, .int k => if inRg k && small (xs.length * k.toNat) then some (.own (.lst (List.replicate k.toNat xs).flatten)) else none
  | .tup xs, .int k => if decide (2 ≤ k) && decide (k ≤ 1000) && decide (xs.length ≤ 1000) && !xs.isEmpty then some (.val (.tup (List.replicate k.toNat xs).flatten)) else none
  | _, _ => none
def rMulU (K : Fg) : R2 := fun x y H Q => rI CMul (fun i j => .int (i * j)) x y H Q ∨ (rI CMulW (fun i j => .int (i * j)) x y H Q ∨ (rRep x y H Q ∨ rRepT K x y H Q))
theorem opMulU {X : Cx} : OpR X (binaryOp .Mult) (rMulU X.K) := op_mul.or (op_mulW.or (op_rep.or op_repT))
theorem RDs.rep {ds : List Dt} {xs : List V} (r : RDs K H ds xs) : ∀ n : Nat, RDs K H (List.replicate n ds).flatten (List.replicate n xs).flatten
  | 0 => RDs.nil
  | n + 1 => by
    rw [List.replicate_succ, List.replicate_succ, List.flatten_cons, List.flatten_cons]
    exact r.append (RDs.rep r n)
instance vMul : OpV K (rMulU K) gMul where
  run := fun x y d e s H0 H Q sm rx ry eq h => by
    unfold gMul at eq
    split at eq
    · split at eq
      · rename_i hz
        cases eq
        rcases (Bool.or_eq_true _ _ ▸ hz) with hz | hz
        · exact .inl ⟨_, _, rx.int_inv, ry.int_inv, okMul_inv hz, h.val sm RD.int⟩
        · exact .inr (.inl ⟨_, _, rx.int_inv, ry.int_inv, of_decide_eq_true hz, h.val sm RD.int⟩)
      · cases eq
    · split at eq
      · rename_i hz
        cases eq
        obtain ⟨a, xs, rfl, h1, h2⟩ := rx.lst_inv
        have z := Bool.and_eq_true _ _ ▸ hz
        have z1 := inRg_1 z.1
        have z2 := inRg_2 z.1
        refine .inr (.inr (.inl ⟨a, _, xs, rfl, ry.int_inv, sm _ _ h1, by omega, by omega, by rw [h2.length]; exact small_line z.2, h.newL (h2.rep _)⟩))
      · cases eq
    · split at eq
      · rename_i ds k hz
        cases eq
        obtain ⟨a, xs, rfl, h1, h2⟩ := rx.tup_inv
        simp only [Bool.and_eq_true, decide_eq_true_eq, Bool.not_eq_true', List.isEmpty_eq_false_iff] at hz
        obtain ⟨⟨⟨z1, z2⟩, z3⟩, z4⟩ := hz
        refine .inr (.inr (.inr ⟨a, _, xs, rfl, ry.int_inv, sqT_mono sm h1, fun z => ?_, z1, z2, by rw [h2.length]; exact z3, h.newT sm (h2.rep _)⟩))
        subst z
        have := h2.length
        cases ds with
        | nil => exact z4 rfl
        | cons _ _ => simp at this
      · cases eq
    · cases eq
def gMod : Dt → Dt → Option Sl
  | .int i, .int j => if j = 0 then none else some (.val (.int (i.fmod j)))
  | _, _ => none
instance vMod : OpV K (rI (fun _ j => j ≠ 0) fun i j => .int (i.fmod j)) gMod where
  run := fun x y d e s H0 H Q sm rx ry eq h => by
    unfold gMod at eq
    split at eq
    · split at eq
      · cases eq
      · rename_i hz
        cases eq
        exact ⟨_, _, rx.int_inv, ry.int_inv, hz, h.val sm RD.int⟩
    · cases eq
instance : ∀ i j, Decidable (CDivN i j) := fun i j => inferInstanceAs (Decidable (_ ∧ _))
instance : ∀ i j, Decidable (CDivW i j) := fun i j => inferInstanceAs (Decidable (_ ∧ _))
def gDiv : Dt → Dt → Option Sl
  | .int i, .int j => if CDivN i j then some (.val (.int (i.fdiv j))) else if CDivW i j then some (.val (.int (i / j))) else none
  | _, _ => none
def rDivU : R2 := fun x y H Q => rI CDivN (fun i j => .int (i.fdiv j)) x y H Q ∨ rI CDivW (fun i j => .int (i / j)) x y H Q
theorem opDivU {X : Cx} : OpR X (binaryOp .FloorDiv) rDivU := op_fdivN.or op_fdivW
instance vDiv : OpV K rDivU gDiv where
  run := fun x y d e s H0 H Q sm rx ry eq h => by
    unfold gDiv at eq
    split at eq
    · split at eq
      · rename_i hz
        cases eq
        exact .inl ⟨_, _, rx.int_inv, ry.int_inv, hz, h.val sm RD.int⟩
      · split at eq
        · rename_i hz
          cases eq
          exact .inr ⟨_, _, rx.int_inv, ry.int_inv, hz, h.val sm RD.int⟩
        · cases eq
    · cases eq
instance : ∀ i j, Decidable (CPow i j) := fun i j => inferInstanceAs (Decidable (_ ∧ _ ∧ _))
def gPow : Dt → Dt → Option Sl
  | .int i, .int j => if CPow i j then some (.val (.int (i ^ j.toNat))) else none
  | _, _ => none
instance vPow : OpV K (rI CPow fun i j => .int (i ^ j.toNat)) gPow where
  run := fun x y d e s H0 H Q sm rx ry eq h => by
    unfold gPow at eq
    split at eq
    · split at eq
      · rename_i hz
        cases eq
        exact ⟨_, _, rx.int_inv, ry.int_inv, hz, h.val sm RD.int⟩
      · cases eq
    · cases eq
/-! ### == -/
def gEq : Dt → Dt → Option Sl := fun d e => match toPy d, toPy e with
  | some p, some q => if SeqAt.shaped p && SeqAt.shaped q then some (.val (.bl (PyData.eqv p q))) else none
  | _, _ => none
def gNe : Dt → Dt → Option Sl := fun d e => match toPy d, toPy e with
  | some p, some q => if SeqAt.shaped p && SeqAt.shaped q then some (.val (.bl (!PyData.eqv p q))) else none
  | _, _ => none
instance vEq : OpV K (rEqD K) gEq where
  run := fun x y d e s H0 H Q sm rx ry eq h => by
    unfold gEq at eq
    split at eq
    · rename_i p q e1 e2
      split at eq
      · rename_i hz
        cases eq
        have z := Bool.and_eq_true _ _ ▸ hz
        exact ⟨p, q, RD.dp (rx.mono sm) e1, RD.dp (ry.mono sm) e2, z.1, z.2, h.val sm RD.bl⟩
      · cases eq
    · cases eq
instance vNe : OpV K (rNeD K) gNe where
  run := fun x y d e s H0 H Q sm rx ry eq h => by
    unfold gNe at eq
    split at eq
    · rename_i p q e1 e2
      split at eq
      · rename_i hz
        cases eq
        have z := Bool.and_eq_true _ _ ▸ hz
        exact ⟨p, q, RD.dp (rx.mono sm) e1, RD.dp (ry.mono sm) e2, z.1, z.2, h.val sm RD.bl⟩
      · cases eq
    · cases eq
/-! ### order -/
def gLt : Dt → Dt → Option Sl
  | .int i, .int j => some (.val (.bl (decide (i < j))))
  | .str i, .str j => some (.val (.bl (decide (i.cps.toList < j.cps.toList))))
  | .tup xs, .tup ys => match intsOf xs, intsOf ys with
    | some ns, some ms => some (.val (.bl (HT.lexLt ns ms)))
    | _, _ => none
  | _, _ => none
def rLtU (K : Fg) : R2 := fun x y H Q => rI0 (fun i j => .bl (decide (i < j))) x y H Q ∨ ((∃ i j, x = .str i ∧ y = .str j ∧ Q (.bl (decide (i.cps.toList < j.cps.toList))) H) ∨ rLtT K x y H Q)
theorem opLtU {X : Cx} (hu : X.A.units < cLine) : OpR X (compareOp .Lt) (rLtU X.K) := op_lt.or (op_lt_str.or (op_ltT hu))
instance vLt : OpV K (rLtU K) gLt where
  run := fun x y d e s H0 H Q sm rx ry eq h => by
    unfold gLt at eq
    split at eq
    · cases eq
      exact .inl ⟨_, _, rx.int_inv, ry.int_inv, h.val sm RD.bl⟩
    · cases eq
      exact .inr (.inl ⟨_, _, rx.str_inv, ry.str_inv, h.val sm RD.bl⟩)
    · split at eq
      · rename_i ns ms e1 e2
        cases eq
        obtain ⟨a, xs, rfl, h1, h2⟩ := rx.tup_inv
        obtain ⟨b, ys, rfl, h3, h4⟩ := ry.tup_inv
        rw [intsOf_inv e1] at h2
        rw [intsOf_inv e2] at h4
        rw [h2.ints] at h1
        rw [h4.ints] at h3
        exact .inr (.inr ⟨a, b, ns, ms, rfl, rfl, sqT_mono sm h1, sqT_mono sm h3, h.val sm RD.bl⟩)
      · cases eq
    · cases eq
def gLe : Dt → Dt → Option Sl
  | .int i, .int j => some (.val (.bl (decide (i ≤ j))))
  | .str i, .str j => some (.val (.bl (!decide (j.cps.toList < i.cps.toList))))
  | .tup xs, .tup ys => match intsOf xs, intsOf ys with
    | some ns, some ms => some (.val (.bl (Ob.lexAt (fun j => decide (ns.getD j 0 = ms.getD j 0)) (fun j => decide (ns.getD j 0 ≤ ms.getD j 0)) (decide (ns.length ≤ ms.length)) 0 (min ns.length ms.length))))
    | _, _ => none
  | _, _ => none
def rLeU (K : Fg) : R2 := fun x y H Q => rI0 (fun i j => .bl (decide (i ≤ j))) x y H Q ∨ ((∃ i j, x = .str i ∧ y = .str j ∧ Q (.bl (!decide (j.cps.toList < i.cps.toList))) H) ∨ rLeT K x y H Q)
theorem opLeU {X : Cx} (hu : X.A.units < cLine) : OpR X (compareOp .LtE) (rLeU X.K) := op_le.or (op_le_str.or (op_leT hu))
instance vLe : OpV K (rLeU K) gLe where
  run := fun x y d e s H0 H Q sm rx ry eq h => by
    unfold gLe at eq
    split at eq
    · cases eq
      exact .inl ⟨_, _, rx.int_inv, ry.int_inv, h.val sm RD.bl⟩
    · cases eq
      exact .inr (.inl ⟨_, _, rx.str_inv, ry.str_inv, h.val sm RD.bl⟩)
    · split at eq
      · rename_i ns ms e1 e2
        cases eq
        obtain ⟨a, xs, rfl, h1, h2⟩ := rx.tup_inv
        obtain ⟨b, ys, rfl, h3, h4⟩ := ry.tup_inv
        rw [intsOf_inv e1] at h2
        rw [intsOf_inv e2] at h4
        rw [h2.ints] at h1
        rw [h4.ints] at h3
        exact .inr (.inr ⟨a, b, ns, ms, rfl, rfl, sqT_mono sm h1, sqT_mono sm h3, h.val sm RD.bl⟩)
      · cases eq
    · cases eq
def gGt : Dt → Dt → Option Sl
  | .int i, .int j => some (.val (.bl (decide (i > j))))
  | .str i, .str j => some (.val (.bl (decide (j.cps.toList < i.cps.toList))))
  | _, _ => none
def rGtU : R2 := fun x y H Q => rI0 (fun i j => .bl (decide (i > j))) x y H Q ∨ (∃ i j, x = .str i ∧ y = .str j ∧ Q (.bl (decide (j.cps.toList < i.cps.toList))) H)
theorem opGtU {X : Cx} : OpR X (compareOp .Gt) rGtU := op_gt.or op_gt_str
instance vGt : OpV K rGtU gGt where
  run := fun x y d e s H0 H Q sm rx ry eq h => by
    unfold gGt at eq
    split at eq
    · cases eq
      exact .inl ⟨_, _, rx.int_inv, ry.int_inv, h.val sm RD.bl⟩
    · cases eq
      exact .inr ⟨_, _, rx.str_inv, ry.str_inv, h.val sm RD.bl⟩
    · cases eq
def gGe : Dt → Dt → Option Sl
  | .int i, .int j => some (.val (.bl (decide (i ≥ j))))
  | .str i, .str j => some (.val (.bl (!decide (i.cps.toList < j.cps.toList))))
  | _, _ => none
def rGeU : R2 := fun x y H Q => rI0 (fun i j => .bl (decide (i ≥ j))) x y H Q ∨ (∃ i j, x = .str i ∧ y = .str j ∧ Q (.bl (!decide (i.cps.toList < j.cps.toList))) H)
theorem opGeU {X : Cx} : OpR X (compareOp .GtE) rGeU := op_ge.or op_ge_str
instance vGe : OpV K rGeU gGe where
  run := fun x y d e s H0 H Q sm rx ry eq h => by
    unfold gGe at eq
    split at eq
    · cases eq
      exact .inl ⟨_, _, rx.int_inv, ry.int_inv, h.val sm RD.bl⟩
    · cases eq
      exact .inr ⟨_, _, rx.str_inv, ry.str_inv, h.val sm RD.bl⟩
    · cases eq
/-! ### in -/
def seqOf : Dt → Option (List Dt)
  | .lst ds => some ds
  | .rol ds => some ds
  | .tup ds => some ds
  | _ => none
theorem RD.seq {d : Dt} {v : V} {ds : List Dt} (h : RD K H d v) (e : seqOf d = some ds) : ∃ a xs, v = V.ref a ∧ (SqL K H a xs ∨ SqT K H a xs) ∧ RDs K H ds xs := by
  cases d <;> simp only [seqOf, Option.some.injEq] at e <;> try cases e
  · obtain ⟨a, xs, rfl, h1, h2⟩ := h.lst_inv; exact ⟨a, xs, rfl, .inl (.inl (.inl h1)), h2⟩
  · obtain ⟨a, xs, rfl, h1, h2⟩ := h.rol_inv; exact ⟨a, xs, rfl, .inl h1, h2⟩
  · obtain ⟨a, xs, rfl, h1, h2⟩ := h.tup_inv; exact ⟨a, xs, rfl, .inr h1, h2⟩
def inB (d e : Dt) : Option Bool := match d, e with
  | .str c, .str z => match c.cps.toList with
    | [k] => some (decide (k ∈ z.cps.toList))
    | _ => none
  | d, e => match flV d, seqOf e with
    | some v, some es => (flVs es).map fun us => inV v us
    | _, _ => none
def gIn (d e : Dt) : Option Sl := (inB d e).map fun b => .val (.bl b)
def gNotIn (d e : Dt) : Option Sl := (inB d e).map fun b => .val (.bl (!b))
def rInU (K : Fg) : R2 := fun x y H Q => rIn K false x y H Q ∨ (∃ (c : Nat) (z : Str), x = .str ⟨#[c]⟩ ∧ y = .str z ∧ Q (.bl (decide (c ∈ z.cps.toList))) H)
def rNotInU (K : Fg) : R2 := fun x y H Q => rIn K true x y H Q ∨ (∃ (c : Nat) (z : Str), x = .str ⟨#[c]⟩ ∧ y = .str z ∧ Q (.bl (!decide (c ∈ z.cps.toList))) H)
theorem opInU {X : Cx} : OpR X (compareOp .In) (rInU X.K) := op_in_seq.or op_in_sign
theorem opNotInU {X : Cx} : OpR X (compareOp .NotIn) (rNotInU X.K) := op_notIn_seq.or op_notIn_sign
theorem inB_read {x y : V} {d e : Dt} {b : Bool} (rx : RD K H d x) (ry : RD K H e y) (eq : inB d e = some b) :
    (∃ p xs, y = .ref p ∧ (SqL K H p xs ∨ SqT K H p xs) ∧ flatV x = true ∧ xs.all flatV = true ∧ b = inV x xs) ∨ ∃ (c : Nat) (z : Str), x = .str ⟨#[c]⟩ ∧ y = .str z ∧ b = decide (c ∈ z.cps.toList) := by
  unfold inB at eq
  split at eq
  · rename_i c z
    split at eq
    · rename_i k hk
      cases eq
      refine .inr ⟨k, z, ?_, ry.str_inv, rfl⟩
      rw [rx.str_inv]
      congr 1
      cases c with
      | mk a => congr 1; exact Array.toList_inj.mp (by simpa using hk)
    · cases eq
  · split at eq
    · rename_i v es e1 e2
      cases q : flVs es with
      | none => rw [q] at eq; cases eq
      | some us =>
        rw [q] at eq
        cases eq
        obtain ⟨rfl, f1⟩ := rx.fl e1
        obtain ⟨a, xs, rfl, hs, h2⟩ := ry.seq e2
        obtain ⟨rfl, f2⟩ := h2.fl q
        exact .inl ⟨a, xs, rfl, hs, f1, f2, rfl⟩
    · cases eq
instance vIn : OpV K (rInU K) gIn where
  run := fun x y d e s H0 H Q sm rx ry eq h => by
    unfold gIn at eq
    cases q : inB d e with
    | none => rw [q] at eq; cases eq
    | some b =>
      rw [q] at eq
      cases eq
      rcases inB_read (rx.mono sm) (ry.mono sm) q with ⟨p, xs, e1, e2, e3, e4, rfl⟩ | ⟨c, z, e1, e2, rfl⟩
      · exact .inl ⟨p, xs, e1, e2, e3, e4, h.val sm RD.bl⟩
      · exact .inr ⟨c, z, e1, e2, h.val sm RD.bl⟩
instance vNotIn : OpV K (rNotInU K) gNotIn where
  run := fun x y d e s H0 H Q sm rx ry eq h => by
    unfold gNotIn at eq
    cases q : inB d e with
    | none => rw [q] at eq; cases eq
    | some b =>
      rw [q] at eq
      cases eq
      rcases inB_read (rx.mono sm) (ry.mono sm) q with ⟨p, xs, e1, e2, e3, e4, rfl⟩ | ⟨c, z, e1, e2, rfl⟩
      · exact .inl ⟨p, xs, e1, e2, e3, e4, h.val sm RD.bl⟩
      · exact .inr ⟨c, z, e1, e2, h.val sm RD.bl⟩
/-! ### subscripts -/
def gIx (d e : Dt) : Option Sl := match d, e with
  | .str z, .int i => if small z.length then (atI z.cps.toList i).map fun c => .val (.str ⟨#[c]⟩) else none
  | d, .int i => match seqOf d with
    | some ds => (atI ds i).map Sl.val
    | none => none
  | _, _ => none
theorem RDs.atI {ds : List Dt} {xs : List V} {i : Int} {d : Dt} (r : RDs K H ds xs) (e : L2.atI ds i = some d) : ∃ v, L2.atI xs i = some v ∧ RD K H d v := by
  unfold L2.atI at e ⊢
  rw [r.length]
  cases q : ixN ds.length i with
  | none => rw [q] at e; cases e
  | some j =>
    rw [q] at e
    obtain ⟨v, e1, rd⟩ := r.get (show ds[j]? = some d from e)
    exact ⟨v, e1, rd⟩
instance vIx : OpV K (rIx K) gIx where
  run := fun x y d e s H0 H Q sm rx ry eq h => by
    unfold gIx at eq
    split at eq
    · rename_i z i
      split at eq
      · rename_i hz
        cases q : atI z.cps.toList i with
        | none => rw [q] at eq; cases eq
        | some c =>
          rw [q] at eq
          cases eq
          exact .inr (.inr ⟨z, i, c, rx.str_inv, ry.int_inv, small_line hz, q, h.val sm RD.str⟩)
      · cases eq
    · rename_i i _
      split at eq
      · rename_i ds e1
        cases q : atI ds i with
        | none => rw [q] at eq; cases eq
        | some c =>
          rw [q] at eq
          cases eq
          obtain ⟨a, xs, rfl, hs, h2⟩ := rx.seq e1
          obtain ⟨v, ev, hv⟩ := h2.atI q
          rcases hs with hs | hs
          · exact .inl ⟨a, xs, i, v, rfl, ry.int_inv, sm.seq hs, ev, h.val sm hv⟩
          · exact .inr (.inl ⟨a, xs, i, v, rfl, ry.int_inv, sqT_mono sm hs, ev, h.val sm hv⟩)
      · cases eq
    · cases eq
/-! ### slices -/
class SimO (K : Fg) (E : SX) (t : TO) (f : outParam (M (Option Int))) : Prop where
  run : ∀ (F : Fr) (σ : L2.St) (H0 H : Hp) (ρ : List Sl) (r : Rs (Option Int)) (ρ' : List Sl) (Q : Option Int → Hp → Prop), Rep K F σ H0 H ρ → f ρ = some (r, ρ') →
    (∀ C ns ds, r = .ex C ns ds → ∀ d H0' H', Same H0 H0' → Rep K F σ H0' H' ρ' → ExF K F H0' H' d ns ds → E σ (.ref C) d H') → (∀ c, r = .ok c → ∀ H0' H', Same H0 H0' → Rep K F σ H0' H' ρ' → Q c H') → t σ H Q
section
variable {E : SX}
instance sNoPart : SimO K E tNoPart (mP none) where
  run := fun F σ H0 H ρ r ρ' Q R e hx h => by
    obtain ⟨rfl, rfl⟩ := mP_inv e
    exact h _ rfl H0 H (Same.refl _) R
def toI : Dt → Option Int
  | .int i => some i
  | _ => none
theorem toI_inv {d : Dt} {i : Int} (h : toI d = some i) : d = .int i := by
  cases d <;> simp [toI] at h
  rw [h]
def fPart (f : M Sl) : M (Option Int) := mB (vl f) fun d => mO ((toI d).map some)
instance sPart {te : TE} {f : M Sl} [A : SimE K E te f] : SimO K E (tPart te) (fPart f) where
  run := fun F σ H0 H ρ r ρ' Q R e hx h => by
    refine A.bindV R e hx fun c ρ1 v H1 H' e1 s1 R1 rd1 => ?_
    obtain ⟨o, es, rfl, rfl⟩ := mO_inv e1
    cases q : toI c with
    | none => rw [q] at es; cases es
    | some i =>
      rw [q] at es
      cases es
      obtain rfl := toI_inv q
      exact ⟨i, rd1.int_inv, h _ rfl H1 H' s1 R1⟩
class SlV (K : Fg) (r : V → Option Int → Option Int → Hp → VK → Prop) (g : outParam (Dt → Option Int → Option Int → Option Sl)) : Prop where
  run : ∀ (x : V) (lo hi : Option Int) (d : Dt) (s : Sl) (H0 H : Hp) (Q : VK), Same H0 H → RD K H0 d x → g d lo hi = some s → EndG K H0 H Q s → r x lo hi H Q
def fSl (g : Dt → Option Int → Option Int → Option Sl) (f : M Sl) (fl fh : M (Option Int)) : M Sl := mB (vl f) fun d => mB fl fun lo => mB fh fun hi => mO (unOk (g d lo hi))
instance sSl {r : V → Option Int → Option Int → Hp → VK → Prop} {g : Dt → Option Int → Option Int → Option Sl} {te : TE} {tl th : TO} {f : M Sl} {fl fh : M (Option Int)} [A : SimE K E te f] [B : SimO K E tl fl] [U : SimO K E th fh] [S : SlV K r g] :
    SimE K E (tSl r te tl th) (fSl g f fl fh) where
  run := fun F σ H0 H ρ r' ρ' Q R e h => by
    refine A.bindV R e h.hx fun c ρ1 v H1 H' e1 s1 R1 rd1 => ?_
    rcases mB_inv e1 with ⟨lo, ρ2, e2, e3⟩ | ⟨C, ns, ds, e2, rfl⟩
    · refine B.run F σ H1 H' ρ1 _ _ _ R1 e2 (fun _ _ _ z => nomatch z) fun lo' z H2 H2' s2 R2 => ?_
      cases z
      rcases mB_inv e3 with ⟨hi, ρ3, e4, e5⟩ | ⟨C, ns, ds, e4, rfl⟩
      · refine U.run F σ H2 H2' ρ2 _ _ _ R2 e4 (fun _ _ _ z => nomatch z) fun hi' z H3 H3' s3 R3 => ?_
        cases z
        obtain ⟨s, es, rfl, rfl⟩ := mO_inv e5
        obtain ⟨e6, n⟩ := unOk_inv es
        exact S.run v lo hi c s H3 H3' Q R3.s2 ((rd1.mono s2).mono s3) e6 (.of n R3 (h.later ((s1.trans s2).trans s3)))
      · exact U.run F σ H2 H2' ρ2 _ _ _ R2 e4 (fun _ _ _ z => by cases z; exact (h.later (s1.trans s2)).hx _ _ _ rfl) fun _ z => nomatch z
    · exact B.run F σ H1 H' ρ1 _ _ _ R1 e2 (fun _ _ _ z => by cases z; exact (h.later s1).hx _ _ _ rfl) fun _ z => nomatch z
end
def cutD (ds : List Dt) (lo hi : Option Int) : List Dt := (ds.drop (HT.sIx ds.length 0 lo)).take (HT.sIx ds.length ds.length hi - HT.sIx ds.length 0 lo)
theorem RDs.cut {ds : List Dt} {xs : List V} (r : RDs K H ds xs) (lo hi : Option Int) : RDs K H (cutD ds lo hi) (cutV xs lo hi) := by
  unfold cutD cutV
  rw [r.length]
  exact (r.drop _).take _
def gSl : Dt → Option Int → Option Int → Option Sl
  | .lst ds, lo, hi => some (.own (.lst (cutD ds lo hi)))
  | .rol ds, lo, hi => some (.own (.lst (cutD ds lo hi)))
  | .tup ds, lo, hi => some (.val (.tup (cutD ds lo hi)))
  | .str z, lo, hi => if small z.length then some (.val (.str (cutS z lo hi))) else none
  | _, _, _ => none
def rSlU (K : Fg) : V → Option Int → Option Int → Hp → VK → Prop := fun x lo hi H Q => rSlL K x lo hi H Q ∨ (rSlA K x lo hi H Q ∨ rSlS x lo hi H Q)
theorem slU {X : Cx} : SlR X (rSlU X.K) := sl_list.or (sl_tupA.or sl_str)
instance vSl : SlV K (rSlU K) gSl where
  run := fun x lo hi d s H0 H Q sm rx eq h => by
    unfold gSl at eq
    split at eq
    · cases eq
      obtain ⟨a, xs, rfl, h1, h2⟩ := rx.lst_inv
      exact .inl ⟨a, xs, rfl, .inl (.inl (sm _ _ h1)), h.newL (h2.cut lo hi)⟩
    · cases eq
      obtain ⟨a, xs, rfl, h1, h2⟩ := rx.rol_inv
      exact .inl ⟨a, xs, rfl, sm.seq h1, h.newL (h2.cut lo hi)⟩
    · rename_i ds
      cases eq
      obtain ⟨a, xs, rfl, h1, h2⟩ := rx.tup_inv
      refine .inr (.inl ⟨a, xs, rfl, sqT_mono sm h1, fun z => ?_, fun _ => h.newT sm (h2.cut lo hi)⟩)
      have e : cutD ds lo hi = ds := by
        unfold cutD
        rw [← h2.length, z.1, z.2, h2.length, Nat.sub_zero, List.drop_zero, List.take_length]
      rw [e] at h
      exact h.val sm rx
    · split at eq
      · rename_i hz
        cases eq
        exact .inr (.inr ⟨_, rx.str_inv, small_line hz, h.val sm RD.str⟩)
      · cases eq
    · cases eq
/-! ### built-in calls -/
def gLen : List Dt → Option Sl
  | [.str z] => if small z.length then some (.val (.int z.length)) else none
  | [d] => (seqOf d).map fun ds => .val (.int ds.length)
  | _ => none
instance vLen : CallV K (fun xs H Q => ∃ x n, xs = [x] ∧ LenV K x H n ∧ Q (.int n) H) gLen where
  run := fun xs ds s H0 H Q sm rx eq h => by
    unfold gLen at eq
    split at eq
    · split at eq
      · rename_i hz
        cases eq
        obtain ⟨v, rfl, hv⟩ := rx.one
        exact ⟨v, _, rfl, by rw [hv.str_inv]; exact ⟨small_line hz, rfl⟩, h.val sm RD.int⟩
      · cases eq
    · rename_i d _
      cases q : seqOf d with
      | none => rw [q] at eq; cases eq
      | some es =>
        rw [q] at eq
        cases eq
        obtain ⟨v, rfl, hv⟩ := rx.one
        obtain ⟨a, xs, rfl, hs, h2⟩ := hv.seq q
        refine ⟨_, _, rfl, ?_, h.val sm RD.int⟩
        rcases hs with hs | hs
        · exact .inl ⟨xs, sm.seq hs, h2.length.symm⟩
        · exact .inr ⟨xs, sqT_mono sm hs, h2.length.symm⟩
    · cases eq
def gInt : List Dt → Option Sl
  | [.int i] => some (.val (.int i))
  | [.bl k] => some (.val (.int (if k then 1 else 0)))
  | _ => none
instance vInt : CallV K (fun xs H Q => (∃ i, xs = [V.int i] ∧ Q (.int i) H) ∨ ∃ k, xs = [V.bl k] ∧ Q (.int (if k then 1 else 0)) H) gInt where
  run := fun xs ds s H0 H Q sm rx eq h => by
    unfold gInt at eq
    split at eq
    · cases eq
      obtain ⟨v, rfl, hv⟩ := rx.one
      exact .inl ⟨_, by rw [hv.int_inv], h.val sm RD.int⟩
    · cases eq
      obtain ⟨v, rfl, hv⟩ := rx.one
      exact .inr ⟨_, by rw [hv.bl_inv], h.val sm RD.int⟩
    · cases eq
def gAbs : List Dt → Option Sl
  | [.int i] => some (.val (.int (if i < 0 then -i else i)))
  | _ => none
instance vAbs : CallV K (fun xs H Q => ∃ i, xs = [V.int i] ∧ Q (.int (if i < 0 then -i else i)) H) gAbs where
  run := fun xs ds s H0 H Q sm rx eq h => by
    unfold gAbs at eq
    split at eq
    · cases eq
      obtain ⟨v, rfl, hv⟩ := rx.one
      exact ⟨_, by rw [hv.int_inv], h.val sm RD.int⟩
    · cases eq
def gMax2 : List Dt → Option Sl
  | [.int i, .int j] => some (.val (.int (if j > i then j else i)))
  | _ => none
instance vMax2 : CallV K (fun xs H Q => ∃ i j, xs = [V.int i, V.int j] ∧ Q (.int (if j > i then j else i)) H) gMax2 where
  run := fun xs ds s H0 H Q sm rx eq h => by
    unfold gMax2 at eq
    split at eq
    · cases eq
      obtain ⟨v, u, rfl, hv, hu⟩ := rx.two
      exact ⟨_, _, by rw [hv.int_inv, hu.int_inv], h.val sm RD.int⟩
    · cases eq
def gMin2 : List Dt → Option Sl
  | [.int i, .int j] => some (.val (.int (if j < i then j else i)))
  | _ => none
instance vMin2 : CallV K (fun xs H Q => ∃ i j, xs = [V.int i, V.int j] ∧ Q (.int (if j < i then j else i)) H) gMin2 where
  run := fun xs ds s H0 H Q sm rx eq h => by
    unfold gMin2 at eq
    split at eq
    · cases eq
      obtain ⟨v, u, rfl, hv, hu⟩ := rx.two
      exact ⟨_, _, by rw [hv.int_inv, hu.int_inv], h.val sm RD.int⟩
    · cases eq
def gListOf : List Dt → Option Sl
  | [d] => (seqOf d).map fun ds => .own (.lst ds)
  | _ => none
instance vListOf : CallV K (fun xs H Q => ∃ p ys, xs = [V.ref p] ∧ (SqL K H p ys ∨ SqT K H p ys) ∧ ∀ l, H l = none → Q (.ref l) (upd H l (.lst ys))) gListOf where
  run := fun xs ds s H0 H Q sm rx eq h => by
    unfold gListOf at eq
    split at eq
    · rename_i d
      cases q : seqOf d with
      | none => rw [q] at eq; cases eq
      | some es =>
        rw [q] at eq
        cases eq
        obtain ⟨v, rfl, hv⟩ := rx.one
        obtain ⟨a, xs, rfl, hs, h2⟩ := hv.seq q
        refine ⟨a, xs, rfl, ?_, h.newL h2⟩
        rcases hs with hs | hs
        · exact .inl (sm.seq hs)
        · exact .inr (sqT_mono sm hs)
    · cases eq
def gTupleOf : List Dt → Option Sl
  | [d] => (seqOf d).map fun ds => .val (.tup ds)
  | _ => none
instance vTupleOf : CallV K (fun xs H Q => ∃ p ys, xs = [V.ref p] ∧ ((SqL K H p ys ∧ ∀ l, H l = none → Q (.ref l) (upd H l (.tup ys))) ∨ (SqT K H p ys ∧ Q (.ref p) H))) gTupleOf where
  run := fun xs ds s H0 H Q sm rx eq h => by
    unfold gTupleOf at eq
    split at eq
    · rename_i d
      cases q : seqOf d with
      | none => rw [q] at eq; cases eq
      | some es =>
        rw [q] at eq
        cases eq
        obtain ⟨v, rfl, hv⟩ := rx.one
        obtain ⟨a, xs, rfl, hs, h2⟩ := hv.seq q
        refine ⟨a, xs, rfl, ?_⟩
        rcases hs with hs | hs
        · exact .inl ⟨sm.seq hs, h.newT sm h2⟩
        · exact .inr ⟨sqT_mono sm hs, h.val sm (RD.tup hs h2)⟩
    · cases eq
def gSum : List Dt → Option Sl
  | [.lst ds] => (intsOf ds).map fun ns => .val (.int ns.sum)
  | _ => none
instance vSum : CallV K (rSum K) gSum where
  run := fun xs ds s H0 H Q sm rx eq h => by
    unfold gSum at eq
    split at eq
    · rename_i es
      cases q : intsOf es with
      | none => rw [q] at eq; cases eq
      | some ns =>
        rw [q] at eq
        cases eq
        obtain ⟨v, rfl, hv⟩ := rx.one
        obtain ⟨a, xs, rfl, h1, h2⟩ := hv.lst_inv
        rw [intsOf_inv q] at h2
        rw [h2.ints] at h1
        exact ⟨a, ns, rfl, .inl (.inl (sm _ _ h1)), h.val sm RD.int⟩
    · cases eq
def gAll : List Dt → Option Sl
  | [.lst ds] => (blsOf ds).map fun bs => .val (.bl (bs.all id))
  | _ => none
instance vAll : CallV K (rAll K) gAll where
  run := fun xs ds s H0 H Q sm rx eq h => by
    unfold gAll at eq
    split at eq
    · rename_i es
      cases q : blsOf es with
      | none => rw [q] at eq; cases eq
      | some ns =>
        rw [q] at eq
        cases eq
        obtain ⟨v, rfl, hv⟩ := rx.one
        obtain ⟨a, xs, rfl, h1, h2⟩ := hv.lst_inv
        rw [blsOf_inv q] at h2
        rw [h2.bls] at h1
        exact ⟨a, ns, rfl, .inl (.inl (sm _ _ h1)), h.val sm RD.bl⟩
    · cases eq
def gAny : List Dt → Option Sl
  | [.lst ds] => (blsOf ds).map fun bs => .val (.bl (bs.any id))
  | _ => none
instance vAny : CallV K (rAny K) gAny where
  run := fun xs ds s H0 H Q sm rx eq h => by
    unfold gAny at eq
    split at eq
    · rename_i es
      cases q : blsOf es with
      | none => rw [q] at eq; cases eq
      | some ns =>
        rw [q] at eq
        cases eq
        obtain ⟨v, rfl, hv⟩ := rx.one
        obtain ⟨a, xs, rfl, h1, h2⟩ := hv.lst_inv
        rw [blsOf_inv q] at h2
        rw [h2.bls] at h1
        exact ⟨a, ns, rfl, .inl (.inl (sm _ _ h1)), h.val sm RD.bl⟩
    · cases eq
/-! ### isinstance -/
/-- what makes an object's class answer isinstance -/
structure ObjCls (K : Fg) (C : Addr) : Prop where
  cl : Cls K C
  ha : PySem.W.findIn K (.ref C) "__class__" = some (some (.builtin "object.__class__"))
  hn : PySem.W.specialIn K (.builtin "object.__class__") "__get__" = some (some (.builtin "getset_descriptor.__get__"))
  htk : PySem.W.takesIn K (.builtin "object.__class__") = some true
  hm : PySem.W.mroIn K C (.type "object") = some true
open Classical in
noncomputable def tyD (K : Fg) : Dt → Option Value
  | .non => some (.type "NoneType")
  | .bl _ => some (.type "bool")
  | .int _ => some (.type "int")
  | .str _ => some (.type "str")
  | .lst _ => some (.type "list")
  | .tup _ => some (.type "tuple")
  | .dct _ _ => some (.type "dict")
  | .obj C _ _ => if ObjCls K C then some (.ref C) else none
  | _ => none
theorem tyD_read {d : Dt} {v : V} {t : Value} (h : RD K H d v) (e : tyD K d = some t) (hs : ∀ ds, d ≠ .tup ds ∨ True) : (∃ ds, d = .tup ds) ∨ TyX K H v t := by
  cases d with
  | non => cases e; rw [h.non_inv]; exact .inr (.base .non)
  | bl b => cases e; rw [h.bl_inv]; exact .inr (.base (.bl _))
  | int b => cases e; rw [h.int_inv]; exact .inr (.base (.int _))
  | str b => cases e; rw [h.str_inv]; exact .inr (.base (.str _))
  | lst ds => cases e; obtain ⟨a, xs, rfl, h1, h2⟩ := h.lst_inv; exact .inr (.base (.lst h1))
  | tup ds => exact .inl ⟨ds, rfl⟩
  | dct ks ds => cases e; obtain ⟨a, xs, rfl, h1, h2⟩ := h.dct_inv; exact .inr (.base (.dK h1))
  | obj C ns ds =>
    simp only [tyD] at e
    split at e
    · rename_i q
      cases e
      obtain ⟨a, dx, fs, rfl, h1, h2⟩ := h.obj_inv
      exact .inr (.base (.ins h1 q.cl q.ha q.hn q.htk q.hm))
    · cases e
  | _ => cases e
theorem tyD_tup {v : V} {ds : List Dt} (h : RD K H (.tup ds) v) : TyX K H v (.type "tuple") := by
  obtain ⟨a, xs, rfl, h1, h2⟩ := h.tup_inv
  rcases h1 with (h1 | ⟨o, h1⟩) | ⟨o, its, n, hk, hc, _⟩
  · exact .base (.tup h1)
  · exact .fTuple h1
  · exact .kTuple hk hc
theorem tyD_ok {d : Dt} {v : V} {t : Value} (h : RD K H d v) (e : tyD K d = some t) : TyX K H v t := by
  rcases tyD_read h e (fun _ => .inr trivial) with ⟨ds, rfl⟩ | q
  · cases e; exact tyD_tup h
  · exact q
def clD : Dt → Option Value
  | .ty n => some (.type n)
  | .ref C => some (.ref C)
  | _ => none
theorem clD_ok {d : Dt} {v : V} {u : Value} (h : RD K H d v) (e : clD d = some u) : ClsV v u := by
  cases d <;> simp only [clD, Option.some.injEq] at e <;> try cases e
  · rw [h.ty_inv]; exact .ty _
  · rw [h.ref_inv]; exact .own _
noncomputable def gIsi (K : Fg) : List Dt → Option Sl
  | [d, c] => match tyD K d, clD c with
    | some t, some u => (PySem.W.kitOne K t u).map fun b => .val (.bl b)
    | _, _ => none
  | _ => none
instance vIsi : CallV K (rIsi K) (gIsi K) where
  run := fun xs ds s H0 H Q sm rx eq h => by
    unfold gIsi at eq
    split at eq
    · rename_i d c
      split at eq
      · rename_i t u e1 e2
        cases q : PySem.W.kitOne K t u with
        | none => rw [q] at eq; cases eq
        | some b =>
          rw [q] at eq
          cases eq
          obtain ⟨v, w, rfl, hv, hw⟩ := rx.two
          exact ⟨v, w, t, u, b, rfl, clD_ok (hw.mono sm) e2, tyD_ok (hv.mono sm) e1, q, h.val sm RD.bl⟩
      · cases eq
    · cases eq
/-! ### a unary minus, not -/
def gNeg : Dt → Option Sl
  | .int i => some (.val (.int (-i)))
  | _ => none
instance vNeg : UnV K (rU fun i => .int (-i)) gNeg where
  run := fun x d s H0 H Q sm rx eq h => by
    unfold gNeg at eq
    split at eq
    · cases eq
      exact ⟨_, rx.int_inv, h.val sm RD.int⟩
    · cases eq
end
end DL

end
section
set_option Elab.async false
set_option linter.all false
set_option maxRecDepth 100000
set_option maxHeartbeats 4000000
/-! D6: own cells by their slots, fields, texts. -/
namespace DL
open PySem PySem.Spec L2
section
variable {K : Fg} {E : SX} {F : Fr} {pin : Nat → Bool} {σ : L2.St} {H0 H : Hp} {ρ ρ' : List Sl}
theorem Rep.lt {i : Nat} {s : Sl} (R : Rep K F σ H0 H ρ) (h : ρ[i]? = some s) : i < σ.length := by
  rw [R.len]; exact (List.getElem?_eq_some_iff.mp h).1
/-! ### xs[k], xs a name: what it holds is not given away -/
def gIxS (s : Option Sl) (e : Dt) : Option Sl := match s, e with
  | some (.own (.lst ds)), .int i => (atI ds i).map Sl.val
  | some (.val d), e => gIx d e
  | _, _ => none
def isSeen : Option Sl → Bool
  | some (.own (.lst _)) => true
  | some (.val _) => true
  | _ => false
def fIxV (i : Nat) (fb : M Sl) : M Sl := fun ρ => if isSeen ρ[i]? then mB (vl fb) (fun e ρ1 => mO (unOk (gIxS ρ1[i]? e)) ρ1) ρ else none
instance (priority := high) sIxV {i : Nat} {tb : TE} {fb : M Sl} [B : SimE K E tb fb] : SimE K E (tOp (rIx K) (tVar i) tb) (fIxV i fb) where
  run := fun F σ H0 H ρ r' ρ' Q R e h => by
    unfold fIxV at e
    split at e
    · rename_i hs
      have hv : ∃ v, σ[i]? = some (some v) := by
        unfold isSeen at hs
        split at hs
        · rename_i ds q
          obtain ⟨a, e1, _⟩ := R.own i _ q
          exact ⟨_, e1⟩
        · rename_i d q
          obtain ⟨v, e1, _⟩ := R.val i d q
          exact ⟨v, e1⟩
        · cases hs
      obtain ⟨v, ev⟩ := hv
      refine ⟨v, ev, ?_⟩
      refine B.bindV R e h.hx fun c ρ1 v2 H1 H' e1 s1 R1 rd1 => ?_
      obtain ⟨s, es, rfl, rfl⟩ := mO_inv (show mO (unOk (gIxS ρ1[i]? c)) ρ1 = some (r', ρ') from e1)
      obtain ⟨e2, n⟩ := unOk_inv es
      cases q : ρ'[i]? with
      | none => rw [q] at e2; simp [gIxS] at e2
      | some sl =>
        rw [q] at e2
        cases sl with
        | un => simp [gIxS] at e2
        | val d =>
          obtain ⟨v', ev', rd'⟩ := R1.val i d q
          rw [ev] at ev'
          cases ev'
          exact vIx.run v v2 d c s H1 H' Q R1.s2 rd' rd1 (show gIx d c = some s from e2) (.of n R1 (h.later s1))
        | own o =>
          obtain ⟨a, ev', n0, q0, or⟩ := R1.own i o q
          rw [ev] at ev'
          cases ev'
          cases o with
          | lst ds =>
            obtain ⟨xs, hx, hr⟩ := or
            cases c <;> simp only [gIxS] at e2 <;> try cases e2
            rename_i k
            cases qa : atI ds k with
            | none => rw [qa] at e2; cases e2
            | some d =>
              rw [qa] at e2
              cases e2
              obtain ⟨u, eu, ru⟩ := hr.atI qa
              exact .inl ⟨a, xs, k, u, rfl, rd1.int_inv, .inl (.inl hx), eu, h u H1 H' s1 (R1.push ru)⟩
          | dct ks ds => simp [gIxS] at e2
          | ins C ns ds => simp [gIxS] at e2
    · cases e
/-! ### xs.append(e) -/
def fApp (i : Nat) (f : M (List Dt)) : M Sl := fun ρ => match ρ[i]? with
  | some (.own (.lst _)) => mB f (fun ds ρ1 => match ds, ρ1[i]? with
    | [d], some (.own (.lst xs)) => if small xs.length then some (.ok (.val .non), ρ1.set i (.own (.lst (xs ++ [d])))) else none
    | _, _ => none) ρ
  | _ => none
instance (priority := high) sApp {i : Nat} {t : TA} {f : M (List Dt)} [A : SimA K E t f] : SimE K E (tBM K "list" rAppend (tVar i) t) (fApp i f) where
  run := fun F σ H0 H ρ r ρ' Q R e h => by
    unfold fApp at e
    split at e
    · rename_i xs0 q
      obtain ⟨a, ev, n0, q0, xs1, hx, hr⟩ := R.own i _ q
      refine ⟨.ref a, ev, .inl ⟨rfl, xs1, .inl (.inl hx)⟩, ?_⟩
      refine A.bind R e h.hx fun ds ρ1 vs H1 H' e1 s1 R1 rd1 => ?_
      split at e1
      · rename_i d xs q1
        split at e1
        · rename_i hz
          simp only [Option.some.injEq, Prod.mk.injEq] at e1
          obtain ⟨rfl, rfl⟩ := e1
          obtain ⟨a', ev', n1, q2, xs2, hx2, hr2⟩ := R1.own i _ q1
          rw [ev] at ev'
          cases ev'
          obtain ⟨v, rfl, hv⟩ := rd1.one
          refine ⟨a, xs2, v, rfl, rfl, hx2, by rw [hr2.length]; exact small_lt hz, ?_⟩
          exact h .non H1 _ s1 ((R1.write (o' := .lst (xs ++ [d])) q1 ev ⟨xs2 ++ [v], upd_same, hr2.append (RDs.cons hv RDs.nil)⟩).push RD.non)
        · cases e1
      · cases e1
    · cases e
/-! ### xs[k] = e -/
abbrev EN : SX := fun _ _ _ _ => False
def gSetL (i : Nat) (fi : M Sl) (d : Dt) : Up := fun ρ => match ρ[i]? with
  | some (.own (.lst _)) => match vl fi ρ with
    | some (.ok (.int k), ρ1) => match ρ1[i]? with
      | some (.own (.lst xs)) => (ixN xs.length k).map fun j => ρ1.set i (.own (.lst (xs.set j d)))
      | _ => none
    | _ => none
  | _ => none
instance sGSub {i : Nat} {ti : TE} {fi : M Sl} [A : SimE K EN ti fi] : SimG K pin (gSub (tVar i) ti rSetL) (gSetL i fi) where
  run := fun F σ H0 H ρ ρ' d v Q R rd e h => by
    unfold gSetL at e
    split at e
    · rename_i xs0 q0
      obtain ⟨a, ev, _⟩ := R.own i _ q0
      split at e
      · rename_i k ρ1 q
        split at e
        · rename_i xs q1
          cases qx : ixN xs.length k with
          | none => rw [qx] at e; cases e
          | some j =>
            rw [qx] at e
            cases e
            refine ⟨.ref a, ev, ?_⟩
            refine A.runV R q fun v' H1 H' s R1 rd1 => ?_
            obtain ⟨a', ev', n1, q2, xs2, hx2, hr2⟩ := R1.own i _ q1
            rw [ev] at ev'
            cases ev'
            refine ⟨a, xs2, k, j, rfl, rd1.int_inv, hx2, by rw [hr2.length]; exact qx, ?_⟩
            have W := R1.write (o' := .lst (xs.set j d)) q1 ev ⟨xs2.set j v, upd_same, hr2.set j (rd.mono s)⟩
            exact h σ H1 _ s (Pin.refl _ _) W
        · cases e
      · cases e
    · cases e
/-! ### xs[k] += e -/
theorem get_list {X : Cx} : PGet X (rIxL X.K) := by
  intro pins s σ H o i ov iv Q I ro ri h
  obtain ⟨p, xs, k, v, rfl, rfl, hl, ha, q⟩ := h
  cases ro
  obtain ⟨t, rfl⟩ := ri
  obtain ⟨its, rv, pl, hz⟩ := I.list hl
  obtain ⟨j, h1, h2, h3, h4, h5⟩ := atI_get ha
  obtain ⟨u, e1, r1⟩ := rv.get h2
  have hlen := rv.length
  have hn : sizeLine = 16777216 := sizeLine_eq
  have fin : EP X pins σ Q u s := ⟨v, H, I, r1, q⟩
  by_cases h0 : 0 ≤ k
  · have hj : k.toNat = j := by
      rw [seqIndex_of h0 h5] at h1
      exact Option.some.inj h1
    exact wpAny_getItem_list pl.isList h0 (by omega) (by rw [hj]; simpa using e1) fin
  · have hj : (k + (its.toArray.size : Int)).toNat = j := by
      rw [seqIndex_neg (by omega) h4] at h1
      rw [List.size_toArray, ← hlen]
      exact Option.some.inj h1
    exact wpAny_getItem_list_neg pl.isList (by omega) (by rw [List.size_toArray]; omega) (by omega) (by rw [hj]; simpa using e1) fin
def fAugL (i : Nat) (fi fe : M Sl) (op : Int → Int → Int) : M So := fun ρ => match ρ[i]? with
  | some (.own (.lst _)) => mB (vl fi) (fun ix ρ1 => match ix, ρ1[i]? with
    | .int k, some (.own (.lst xs)) => match atI xs k with
      | some (.int z) => mB (vl fe) (fun y ρ2 => match y, ρ2[i]? with
        | .int w, some (.own (.lst ys)) => match ixN ys.length k with
          | some j => some (.ok .nx, ρ2.set i (.own (.lst (ys.set j (.int (op z w))))))
          | none => none
        | _, _ => none) ρ1
      | _ => none
    | _, _ => none) ρ
  | _ => none
instance sAugL {i : Nat} {ti te : TE} {fi fe : M Sl} {op : Int → Int → Int} [A : SimE K E ti fi] [B : SimE K E te fe] : SimS K E pin (tAugS (tVar i) ti te (rIxL K) (ipI op) rSetL) (fAugL i fi fe op) where
  run := fun F σ H0 H ρ r ρ' D R e h => by
    unfold fAugL at e
    split at e
    · rename_i xs0 q0
      obtain ⟨a, ev, _⟩ := R.own i _ q0
      refine ⟨.ref a, ev, ?_⟩
      refine A.bindV R e h.hx fun c ρ1 v1 H1 H1' e1 s1 R1 rd1 => ?_
      split at e1
      · rename_i k xs q1
        split at e1
        · rename_i z qz
          obtain ⟨a', ev', n1, p1, vs1, hx1, hr1⟩ := R1.own i _ q1
          rw [ev] at ev'
          cases ev'
          obtain ⟨u, eu, ru⟩ := hr1.atI qz
          refine ⟨a, vs1, k, u, rfl, rd1.int_inv, .inl (.inl hx1), eu, ?_⟩
          refine B.bindV R1 e1 (h.later s1 (Pin.refl _ _)).hx fun y ρ2 v2 H2 H2' e2 s2 R2 rd2 => ?_
          split at e2
          · rename_i w ys q2
            split at e2
            · rename_i j qj
              simp only [Option.some.injEq, Prod.mk.injEq] at e2
              obtain ⟨rfl, rfl⟩ := e2
              obtain ⟨a2, ev2, n2, p2, vs2, hx2, hr2⟩ := R2.own i _ q2
              rw [ev] at ev2
              cases ev2
              refine ⟨z, w, ru.int_inv, rd2.int_inv, a, vs2, k, j, rfl, rd1.int_inv, hx2, by rw [hr2.length]; exact qj, ?_⟩
              exact h σ H2 _ (s1.trans s2) (Pin.refl _ _) (R2.write (o' := .lst (ys.set j (.int (op z w)))) q2 ev ⟨_, upd_same, hr2.set j RD.int⟩)
            · cases e2
          · cases e2
        · cases e1
      · cases e1
    · cases e
/-- x += e, ints -/
def fAug (pin : Nat → Bool) (i : Nat) (fe : M Sl) (op : Int → Int → Int) : M So := fun ρ => match ρ[i]? with
  | some (.val (.int z)) => mB (vl fe) (fun y => match y with
    | .int w => mU (put pin i (.val (.int (op z w)))) (mP .nx)
    | _ => fun _ => none) ρ
  | _ => none
instance sAug {i : Nat} {te : TE} {fe : M Sl} {op : Int → Int → Int} [B : SimE K E te fe] : SimS K E pin (tAug i te (ipI op)) (fAug pin i fe op) where
  run := fun F σ H0 H ρ r ρ' D R e h => by
    unfold fAug at e
    split at e
    · rename_i z q0
      obtain ⟨v, ev, rd⟩ := R.val i _ q0
      refine ⟨v, ev, ?_⟩
      refine B.bindV R e h.hx fun c ρ1 v1 H1 H1' e1 s1 R1 rd1 => ?_
      split at e1
      · rename_i w
        obtain ⟨ρ2, e2, e3⟩ := mU_inv e1
        obtain ⟨rfl, rfl⟩ := mP_inv e3
        obtain ⟨hp, rfl⟩ := put_inv e2
        exact ⟨z, w, rd.int_inv, rd1.int_inv, h _ H1 H1' s1 (Pin.set hp) (R1.push RD.int).store⟩
      · cases e1
    · cases e
/-! ### fields of data -/
def lookD : List Str → List Dt → Str → Option Dt
  | n :: ns, d :: ds, f => if f == n then some d else lookD ns ds f
  | _, _, _ => none
theorem lookD_read : ∀ {fs : List (Str × V)} {ns : List Str} {ds : List Dt} {f : Str} {d : Dt}, fs.map (·.1) = ns → RDs K H ds (fs.map (·.2)) → lookD ns ds f = some d → ∃ v, fs.lookup f = some v ∧ RD K H d v
  | [], ns, ds, f, d, h1, h2, e => by
    subst h1
    simp [lookD] at e
  | (n, v) :: fs, ns, ds, f, d, h1, h2, e => by
    subst h1
    cases ds with
    | nil => simp [lookD] at e
    | cons d0 ds =>
      obtain ⟨v', r, e1, h3, h4⟩ := RDs.inv h2
      simp only [List.map_cons, List.cons.injEq] at e1
      obtain ⟨rfl, rfl⟩ := e1
      simp only [List.map_cons, lookD] at e
      rw [List.lookup_cons]
      split at e
      · rename_i hq
        cases e
        rw [hq]
        exact ⟨v, rfl, h3⟩
      · rename_i hq
        rw [show (f == n) = false by simpa using hq]
        exact lookD_read rfl h4 e
open Classical in
noncomputable def fFld (K : Fg) (f : Str) (fa : M Sl) : M Sl := mB (vl fa) fun d => match d with
  | .obj C ns ds => mO (if Cls K C ∧ NoAttr K C f then (lookD ns ds f).map Sl.val else none)
  | _ => fun _ => none
instance sFld {ta : TE} {f : Str} {fa : M Sl} [A : SimE K E ta fa] : SimE K E (tFld K ta f) (fFld K f fa) where
  run := fun F σ H0 H ρ r ρ' Q R e h => by
    refine A.bindV R e h.hx fun c ρ1 v H1 H' e1 s1 R1 rd1 => ?_
    split at e1
    · rename_i C ns ds
      obtain ⟨s, es, rfl, rfl⟩ := mO_inv e1
      split at es
      · rename_i hc
        cases q : lookD ns ds f with
        | none => rw [q] at es; cases es
        | some d =>
          rw [q] at es
          cases es
          obtain ⟨a, dx, fs, rfl, h1, h2, h3⟩ := rd1.obj_inv
          obtain ⟨u, eu, ru⟩ := lookD_read h2 h3 q
          exact ⟨a, C, dx, fs, u, rfl, R1.s2 _ _ h1, hc.1, hc.2, eu, h u H1 H' s1 (R1.push ru)⟩
      · cases es
    · cases e1
/-! ### methods of texts -/
def fM1 (g : Dt → List Dt → Option Sl) (fo fe : M Sl) : M Sl := mB (vl fo) fun d => match d with
  | .str z => mB (vl fe) fun e => mO (unOk (g (.str z) [e]))
  | _ => fun _ => none
instance sM1 {r : V → List V → Hp → VK → Prop} {g : Dt → List Dt → Option Sl} {to te : TE} {fo fe : M Sl} [A : SimE K E to fo] [B : SimE K E te fe] [O : MtV K r g] : SimE K E (tM1 r to te) (fM1 g fo fe) where
  run := fun F σ H0 H ρ r' ρ' Q R e h => by
    refine A.bindV R e h.hx fun c ρ1 v H1 H' e1 s1 R1 rd1 => ?_
    split at e1
    · rename_i z
      refine ⟨⟨z, rd1.str_inv⟩, ?_⟩
      refine B.bindV R1 e1 (h.later s1).hx fun c2 ρ2 v2 H2 H'' e2 s2 R2 rd2 => ?_
      obtain ⟨s, es, rfl, rfl⟩ := mO_inv e2
      obtain ⟨e3, n⟩ := unOk_inv es
      exact O.run v [v2] _ [c2] s H2 H'' Q R2.s2 (rd1.mono s2) (RDs.cons rd2 RDs.nil) e3 (.of n R2 (h.later (s1.trans s2)))
    · cases e1
def gJoin : Dt → List Dt → Option Sl
  | .str a, [d] => match seqOf d with
    | some ds => match strsOf ds with
      | some ys => if decide ((ys.map (·.length)).sum + ys.length * a.length ≤ 16777216) then some (.val (.str (Txt.join a ys))) else none
      | none => none
    | none => none
  | _, _ => none
instance vJoin : MtV K (fun x xs H Q => ∃ a p, ∃ ys : List Str, x = V.str a ∧ xs = [V.ref p] ∧ (SqL K H p (ys.map V.str) ∨ SqT K H p (ys.map V.str)) ∧ (ys.map (·.length)).sum + ys.length * a.length ≤ 16777216 ∧ Q (.str (Txt.join a ys)) H) gJoin where
  run := fun x xs d ds s H0 H Q sm rx rxs eq h => by
    unfold gJoin at eq
    split at eq
    · rename_i a d1
      split at eq
      · rename_i es q1
        split at eq
        · rename_i ys q2
          split at eq
          · rename_i hz
            cases eq
            obtain ⟨v, rfl, hv⟩ := rxs.one
            obtain ⟨p, us, rfl, hs, h2⟩ := hv.seq q1
            rw [strsOf_inv q2] at h2
            rw [h2.strs] at hs
            refine ⟨a, p, ys, rx.str_inv, rfl, ?_, of_decide_eq_true hz, h.val sm RD.str⟩
            rcases hs with hs | hs
            · exact .inl (sm.seq hs)
            · exact .inr (sqT_mono sm hs)
          · cases eq
        · cases eq
      · cases eq
    · cases eq
def gSplit : Dt → List Dt → Option Sl
  | .str a, [.str b] => if !(b.length == 0) && small a.length then some (.own (.lst ((Txt.split a b).map Dt.str))) else none
  | _, _ => none
instance vSplit : MtV K (fun x xs H Q => ∃ a b, x = V.str a ∧ xs = [V.str b] ∧ (b.length == 0) = false ∧ a.length + 2 ≤ sizeLine ∧ rNewStrs (Txt.split a b) H Q) gSplit where
  run := fun x xs d ds s H0 H Q sm rx rxs eq h => by
    unfold gSplit at eq
    split at eq
    · rename_i a b
      split at eq
      · rename_i hz
        cases eq
        obtain ⟨v, rfl, hv⟩ := rxs.one
        have z := Bool.and_eq_true _ _ ▸ hz
        have z2 := of_decide_eq_true z.2
        exact ⟨a, b, rx.str_inv, by rw [hv.str_inv], by simpa using z.1, by rw [sizeLine_eq]; omega, h.newL (RDs.of_strs _)⟩
      · cases eq
    · cases eq
end
end DL

end
section
set_option Elab.async false
set_option linter.all false
set_option maxRecDepth 100000
set_option maxHeartbeats 4000000
/-! D7: defs and their calls. -/
namespace DL
open PySem PySem.Spec L2
/-- a def's promise by a run on its arguments' slots -/
def spD (K : Fg) (n : Nat) (g : M Sl) : Sp := fun vs H Q E => vs.length = n ∧ ∃ H0 as r as', Rep K (snap (vs.map some) H0 H as) (vs.map some) H0 H as ∧ g as = some (r, as') ∧
  EndE K (fun _ => E) (snap (vs.map some) H0 H as) (vs.map some) H0 as' Q r
theorem spD_imp {K : Fg} {n : Nat} {g g' : M Sl} (h : ∀ as x, g' as = some x → g as = some x) : ∀ vs H Q E, spD K n g' vs H Q E → spD K n g vs H Q E := by
  rintro vs H Q E ⟨hl, H0, as, r, as', R, e, q⟩
  exact ⟨hl, H0, as, r, as', R, h _ _ e, q⟩
/-- arguments: data, or a slot's own cell lent -/
inductive Ar where
  | d (x : Dt) | b (i : Nat)
def arSl (ρ : List Sl) : Ar → Sl
  | .d x => .val x
  | .b i => ρ[i]?.getD .un
def backs : List Ar → List Sl → List Sl → List Sl
  | .b i :: as, s :: ss, ρ => backs as ss (ρ.set i s)
  | .d _ :: as, _ :: ss, ρ => backs as ss ρ
  | _, _, ρ => ρ
def lent : List Ar → List Nat
  | [] => []
  | .b i :: as => i :: lent as
  | .d _ :: as => lent as
section
variable {K : Fg} {E : SX} {F : Fr} {pin : Nat → Bool} {σ : L2.St} {H0 H : Hp} {ρ ρ' : List Sl}
def ArR (K : Fg) (H0 : Hp) (σ : L2.St) (v : V) : Ar → Prop
  | .d x => RD K H0 x v
  | .b i => σ[i]? = some (some v)
inductive ArRs (K : Fg) (H0 : Hp) (σ : L2.St) : List Ar → List V → Prop
  | nil : ArRs K H0 σ [] []
  | cons {a : Ar} {v : V} {as : List Ar} {vs : List V} : ArR K H0 σ v a → ArRs K H0 σ as vs → ArRs K H0 σ (a :: as) (v :: vs)
theorem ArRs.mono {H0' : Hp} (s : Same H0 H0') : ∀ {as : List Ar} {vs : List V}, ArRs K H0 σ as vs → ArRs K H0' σ as vs
  | _, _, .nil => .nil
  | .d x :: _, _, .cons h r => .cons (RD.mono s h) (ArRs.mono s r)
  | .b i :: _, _, .cons h r => .cons h (ArRs.mono s r)
theorem ArRs.length : ∀ {as : List Ar} {vs : List V}, ArRs K H0 σ as vs → as.length = vs.length
  | _, _, .nil => rfl
  | _, _, .cons _ r => by simp [ArRs.length r]
def EndB (K : Fg) (E : SX) (F : Fr) (σ : L2.St) (H0 : Hp) (ρ' : List Sl) (Q : List V → Hp → Prop) : Rs (List Ar) → Prop
  | .ok c => ∀ v H0' H', Same H0 H0' → Rep K F σ H0' H' ρ' → ArRs K H0' σ c v → Q v H'
  | .ex C ns ds => ∀ d H0' H', Same H0 H0' → Rep K F σ H0' H' ρ' → ExF K F H0' H' d ns ds → E σ (.ref C) d H'
class SimB (K : Fg) (E : SX) (t : TA) (f : outParam (M (List Ar))) : Prop where
  run : ∀ (F : Fr) (σ : L2.St) (H0 H : Hp) (ρ : List Sl) (r : Rs (List Ar)) (ρ' : List Sl) (Q : List V → Hp → Prop), Rep K F σ H0 H ρ → f ρ = some (r, ρ') → EndB K E F σ H0 ρ' Q r → t σ H Q
theorem EndB.hx {Q : List V → Hp → Prop} {r : Rs (List Ar)} (h : EndB K E F σ H0 ρ' Q r) : ∀ C ns ds, r = .ex C ns ds → ∀ d H0' H', Same H0 H0' → Rep K F σ H0' H' ρ' → ExF K F H0' H' d ns ds → E σ (.ref C) d H' := by
  rintro C ns ds rfl
  exact h
theorem EndB.later {H0' : Hp} {Q : List V → Hp → Prop} {r : Rs (List Ar)} (s : Same H0 H0') (h : EndB K E F σ H0 ρ' Q r) : EndB K E F σ H0' ρ' Q r := by
  cases r with
  | ok sl => exact fun v H1 H' s1 R => h v H1 H' (s.trans s1) R
  | ex C ns ds => exact fun d H1 H' s1 R x => h d H1 H' (s.trans s1) R x
theorem SimB.bind {α : Type} {t : TA} {f : M (List Ar)} (S : SimB K E t f) {g : List Ar → M α} {r : Rs α} {Q : List V → Hp → Prop} (R : Rep K F σ H0 H ρ) (e : mB f g ρ = some (r, ρ'))
    (hx : ∀ C ns ds, r = .ex C ns ds → ∀ d H0' H', Same H0 H0' → Rep K F σ H0' H' ρ' → ExF K F H0' H' d ns ds → E σ (.ref C) d H')
    (h : ∀ c ρ1 v H0' H', g c ρ1 = some (r, ρ') → Same H0 H0' → Rep K F σ H0' H' ρ1 → ArRs K H0' σ c v → Q v H') : t σ H Q := by
  rcases mB_inv e with ⟨a, ρ1, e1, e2⟩ | ⟨C, ns, ds, e1, rfl⟩
  · exact S.run F σ H0 H ρ _ _ Q R e1 fun v H0' H' s R' rd => h a ρ1 v H0' H' e2 s R' rd
  · exact S.run F σ H0 H ρ _ _ Q R e1 (hx C ns ds rfl)
instance sBNil : SimB K E tNil (mP []) where
  run := fun F σ H0 H ρ r ρ' Q R e h => by
    obtain ⟨rfl, rfl⟩ := mP_inv e
    exact h [] H0 H (Same.refl _) R .nil
def fBCons (fa : M Sl) (fr : M (List Ar)) : M (List Ar) := mB (vl fa) fun d => mB fr fun as => mP (.d d :: as)
instance sBCons {ta : TE} {tr : TA} {fa : M Sl} {fr : M (List Ar)} [A : SimE K E ta fa] [B : SimB K E tr fr] : SimB K E (tCons ta tr) (fBCons fa fr) where
  run := fun F σ H0 H ρ r ρ' Q R e h => by
    refine A.bindV R e h.hx fun c ρ1 v H1 H' e1 s1 R1 rd1 => ?_
    refine B.bind R1 e1 (h.later s1).hx fun cs ρ2 vs H2 H'' e2 s2 R2 rd2 => ?_
    obtain ⟨rfl, rfl⟩ := mP_inv e2
    exact h _ H2 H'' (s1.trans s2) R2 (.cons (RD.mono s2 rd1) rd2)
/-- a name as an argument: what it owns is lent -/
def fBVar (i : Nat) (fr : M (List Ar)) : M (List Ar) := fun ρ => match ρ[i]? with
  | some (.val d) => mB fr (fun as => mP (.d d :: as)) ρ
  | some (.own _) => mB fr (fun as => mP (.b i :: as)) ρ
  | _ => none
instance (priority := high) sBVar {i : Nat} {tr : TA} {fr : M (List Ar)} [B : SimB K E tr fr] : SimB K E (tCons (tVar i) tr) (fBVar i fr) where
  run := fun F σ H0 H ρ r ρ' Q R e h => by
    unfold fBVar at e
    split at e
    · rename_i d q
      obtain ⟨v, ev, rd⟩ := R.val i d q
      refine ⟨v, ev, ?_⟩
      refine B.bind R e h.hx fun cs ρ2 vs H2 H'' e2 s2 R2 rd2 => ?_
      obtain ⟨rfl, rfl⟩ := mP_inv e2
      exact h _ H2 H'' s2 R2 (.cons (RD.mono s2 rd) rd2)
    · rename_i o q
      obtain ⟨a, ev, _⟩ := R.own i o q
      refine ⟨.ref a, ev, ?_⟩
      refine B.bind R e h.hx fun cs ρ2 vs H2 H'' e2 s2 R2 rd2 => ?_
      obtain ⟨rfl, rfl⟩ := mP_inv e2
      exact h _ H2 H'' s2 R2 (.cons ev rd2)
    · cases e
/-- the arguments' own view -/
theorem ArRs.rep : ∀ {as : List Ar} {vs : List V}, ArRs K H0 σ as vs → Rep K F σ H0 H ρ → (lent as).Nodup → (∀ i ∈ lent as, ∃ o, ρ[i]? = some (.own o)) →
    (∀ (i : Nat) (d : Dt), (as.map (arSl ρ))[i]? = some (.val d) → ∃ v, (vs.map some)[i]? = some (some v) ∧ RD K H0 d v) ∧
    (∀ (i : Nat) (o : Od), (as.map (arSl ρ))[i]? = some (.own o) → ∃ j a, as[i]? = some (.b j) ∧ ρ[j]? = some (.own o) ∧ (vs.map some)[i]? = some (some (.ref a)) ∧ σ[j]? = some (some (.ref a)))
  | _, _, .nil, R, _, _ => ⟨fun i d h => by simp at h, fun i o h => by simp at h⟩
  | .d x :: as, v :: vs, .cons h r, R, nd, ho => by
    obtain ⟨h1, h2⟩ := ArRs.rep r R nd ho
    refine ⟨fun i d e => ?_, fun i o e => ?_⟩
    · cases i with
      | zero =>
        have e' : Sl.val x = .val d := by simpa [arSl] using e
        cases e'
        exact ⟨v, rfl, h⟩
      | succ i => exact h1 i d (by simpa using e)
    · cases i with
      | zero => simp [arSl] at e
      | succ i => simpa using h2 i o (by simpa using e)
  | .b j :: as, v :: vs, .cons h r, R, nd, ho => by
    have nd' : j ∉ lent as ∧ (lent as).Nodup := by simpa [lent] using nd
    obtain ⟨h1, h2⟩ := ArRs.rep r R nd'.2 fun i hi => ho i (by simp [lent, hi])
    obtain ⟨o, eo⟩ := ho j (by simp [lent])
    refine ⟨fun i d e => ?_, fun i o' e => ?_⟩
    · cases i with
      | zero =>
        have e' : (ρ[j]?.getD .un) = .val d := by simpa [arSl] using e
        rw [eo] at e'; cases e'
      | succ i => exact h1 i d (by simpa using e)
    · cases i with
      | zero =>
        have e' : (ρ[j]?.getD .un) = .own o' := by simpa [arSl] using e
        rw [eo] at e'
        cases e'
        obtain ⟨a, ea, _⟩ := R.own j o eo
        have hv : v = .ref a := by
          have : σ[j]? = some (some v) := h
          rw [ea] at this
          cases this; rfl
        subst hv
        exact ⟨j, a, rfl, eo, rfl, ea⟩
      | succ i => simpa using h2 i o' (by simpa using e)
theorem mem_lent : ∀ {as : List Ar} {i j : Nat}, as[i]? = some (.b j) → j ∈ lent as
  | [], _, _, h => by simp at h
  | .d x :: as, 0, j, h => by simp at h
  | .d x :: as, i + 1, j, h => by unfold lent; exact mem_lent (by simpa using h)
  | .b k :: as, 0, j, h => by
    have : k = j := by simpa using h
    subst this
    simp [lent]
  | .b k :: as, i + 1, j, h => by
    unfold lent
    exact List.mem_cons_of_mem _ (mem_lent (by simpa using h))
theorem lent_inj : ∀ {as : List Ar} {i i' j : Nat}, (lent as).Nodup → as[i]? = some (.b j) → as[i']? = some (.b j) → i = i'
  | [], _, _, _, _, h, _ => by simp at h
  | .d x :: as, 0, _, j, _, h, _ => by simp at h
  | .d x :: as, i + 1, 0, j, _, _, h => by simp at h
  | .d x :: as, i + 1, i' + 1, j, nd, h, h' => congrArg (· + 1) (lent_inj (as := as) (i := i) (i' := i') (j := j) nd (by simpa using h) (by simpa using h'))
  | .b k :: as, i, i', j, nd, h, h' => by
    have nd' : k ∉ lent as ∧ (lent as).Nodup := by simpa [lent] using nd
    cases i with
    | zero =>
      have e : k = j := by simpa using h
      subst e
      cases i' with
      | zero => rfl
      | succ i' => exact absurd (mem_lent (as := as) (by simpa using h')) nd'.1
    | succ i =>
      cases i' with
      | zero =>
        have e : k = j := by simpa using h'
        subst e
        exact absurd (mem_lent (as := as) (by simpa using h)) nd'.1
      | succ i' => exact congrArg (· + 1) (lent_inj (as := as) (i := i) (i' := i') (j := j) nd'.2 (by simpa using h) (by simpa using h'))
/-- the callee's entry -/
theorem Rep.enter {as : List Ar} {vs : List V} (R : Rep K F σ H0 H ρ) (r : ArRs K H0 σ as vs) (nd : (lent as).Nodup) (ho : ∀ i ∈ lent as, ∃ o, ρ[i]? = some (.own o)) :
    Rep K (DL.snap (vs.map some) H0 H (as.map (arSl ρ))) (vs.map some) H0 H (as.map (arSl ρ)) := by
  obtain ⟨h1, h2⟩ := r.rep R nd ho
  refine ⟨by simp [r.length], Same.refl _, R.s2, fun _ _ h _ => h, fun _ _ h _ => h, fun _ h => h, h1, fun i o h => ?_, fun i j o o' a e1 e2 e3 e4 => ?_⟩
  · obtain ⟨j, a, e1, e2, e3, e4⟩ := h2 i o h
    obtain ⟨b, e5, n, q, z⟩ := R.own j o e2
    rw [e4] at e5; cases e5
    exact ⟨a, e3, n, .inr (mem_owns.mpr ⟨i, o, h, e3⟩), z⟩
  · obtain ⟨i', a1, x1, x2, x3, x4⟩ := h2 i o e1
    obtain ⟨j', a2, y1, y2, y3, y4⟩ := h2 j o' e2
    rw [e3] at x3; cases x3
    rw [e4] at y3; cases y3
    have : i' = j' := R.dis i' j' o o' a x2 y2 x4 y4
    subst this
    exact lent_inj nd x1 y1
/-- back from the callee: the lent slots hold what it left -/
theorem Rep.leave {as : List Ar} {vs : List V} {tops : L2.St} {topsS as' : List Sl} {H0' H' : Hp} (R : Rep K F σ H0 H ρ) (r : ArRs K H0 σ as vs) (nd : (lent as).Nodup) (ho : ∀ i ∈ lent as, ∃ o, ρ[i]? = some (.own o))
    (ht : tops.length = topsS.length) (S : Rep K (DL.snap (vs.map some) H0 H (as.map (arSl ρ))) (tops ++ vs.map some) H0' H' (topsS ++ as')) : Rep K F (tops ++ σ) H0' H' (topsS ++ backs as as' ρ) := by
  have hlen : as'.length = as.length := by
    have := S.len
    simp only [List.length_append, List.length_map] at this
    rw [r.length]; omega
  obtain ⟨h1, h2⟩ := r.rep R nd ho
  -- what stands in a slot behind the call
  have key : ∀ (as : List Ar) (as' ρ : List Sl), as'.length = as.length → (lent as).Nodup → ∀ j : Nat, (∃ k : Nat, as[k]? = some (.b j) ∧ j < ρ.length ∧ (backs as as' ρ)[j]? = as'[k]?) ∨ (j ∉ lent as ∧ (backs as as' ρ)[j]? = ρ[j]?) ∨ (j ≥ ρ.length ∧ (backs as as' ρ)[j]? = none) := by
    intro as
    induction as with
    | nil => intro as' ρ _ _ j; exact .inr (.inl ⟨by simp [lent], by unfold backs; rfl⟩)
    | cons a as ih =>
      intro as' ρ hl nd j
      cases as' with
      | nil => simp at hl
      | cons s ss =>
        have hl' : ss.length = as.length := by simpa using hl
        cases a with
        | d x =>
          rcases ih ss ρ hl' (by simpa [lent] using nd) j with ⟨k, e1, e2, e3⟩ | ⟨e1, e2⟩ | ⟨e1, e2⟩
          · exact .inl ⟨k + 1, by simpa using e1, e2, by simpa [backs] using e3⟩
          · exact .inr (.inl ⟨by simpa [lent] using e1, by simpa [backs] using e2⟩)
          · exact .inr (.inr ⟨e1, by simpa [backs] using e2⟩)
        | b i =>
          have nd' : i ∉ lent as ∧ (lent as).Nodup := by simpa [lent] using nd
          rcases ih ss (ρ.set i s) hl' nd'.2 j with ⟨k, e1, e2, e3⟩ | ⟨e1, e2⟩ | ⟨e1, e2⟩
          · exact .inl ⟨k + 1, by simpa using e1, by simpa using e2, by simpa [backs] using e3⟩
          · by_cases hij : i = j
            · subst hij
              by_cases hlt : i < ρ.length
              · refine .inl ⟨0, rfl, hlt, ?_⟩
                unfold backs
                rw [e2, List.getElem?_set_self hlt]
                rfl
              · refine .inr (.inr ⟨by omega, ?_⟩)
                unfold backs
                rw [e2]
                exact List.getElem?_eq_none_iff.mpr (by simp; omega)
            · refine .inr (.inl ⟨?_, ?_⟩)
              · simp only [lent, List.mem_cons, not_or]
                exact ⟨fun z => hij z.symm, e1⟩
              · unfold backs
                rw [e2, List.getElem?_set_ne hij]
          · exact .inr (.inr ⟨by simpa using e1, by simpa [backs] using e2⟩)
  have bl : ∀ (as : List Ar) (as' ρ : List Sl), (backs as as' ρ).length = ρ.length := by
    intro as
    induction as with
    | nil => intro _ _; unfold backs; rfl
    | cons a as ih =>
      intro as' ρ
      cases as' with
      | nil => cases a <;> (unfold backs; rfl)
      | cons s ss =>
        cases a with
        | d x => unfold backs; exact ih ss ρ
        | b i => unfold backs; rw [ih ss (ρ.set i s), List.length_set]
  -- an own cell of the caller that wasn't lent
  have apart : ∀ (j : Nat) (o : Od) (a : Addr), ρ[j]? = some (.own o) → σ[j]? = some (some (.ref a)) → j ∉ lent as → a ∉ owns (vs.map some) (as.map (arSl ρ)) := by
    intro j o a e1 e2 hj hm
    obtain ⟨i, o', e3, e4⟩ := mem_owns.mp hm
    obtain ⟨j', b, x1, x2, x3, x4⟩ := h2 i o' e3
    rw [e4] at x3; cases x3
    have := R.dis j j' o o' a e1 x2 e2 x4
    subst this
    exact hj (mem_lent x1)
  have lentAt : ∀ (k j : Nat), as[k]? = some (.b j) → ∃ o a, ρ[j]? = some (.own o) ∧ σ[j]? = some (some (.ref a)) ∧ (vs.map some)[k]? = some (some (.ref a)) := by
    intro k j e
    obtain ⟨o, eo⟩ := ho j (mem_lent e)
    have : (as.map (arSl ρ))[k]? = some (.own o) := by
      rw [List.getElem?_map, e]
      show some (ρ[j]?.getD .un) = _
      rw [eo]; rfl
    obtain ⟨j', a, x1, x2, x3, x4⟩ := h2 k o this
    rw [e] at x1; cases x1
    exact ⟨o, a, eo, x4, x3⟩
  have nt : ∀ {a : Addr}, F.He a ≠ none → F.B0 a = none → a ∉ F.P → a ∉ owns (vs.map some) (as.map (arSl ρ)) := by
    intro a h h0 hp hm
    obtain ⟨i, o', e3, e4⟩ := mem_owns.mp hm
    obtain ⟨j', b, x1, x2, x3, x4⟩ := h2 i o' e3
    rw [e4] at x3; cases x3
    obtain ⟨b, e5, n, q, z⟩ := R.own j' o' x2
    rw [x4] at e5; cases e5
    rcases q with q | q
    · exact h q
    · exact hp q
  have nt2 : ∀ {a : Addr} {o : HO}, F.He a = some o → a ∉ F.P → a ∉ owns (vs.map some) (as.map (arSl ρ)) := by
    intro a o h hp hm
    obtain ⟨i, o', e3, e4⟩ := mem_owns.mp hm
    obtain ⟨j', b, x1, x2, x3, x4⟩ := h2 i o' e3
    rw [e4] at x3; cases x3
    obtain ⟨b, e5, n, q, z⟩ := R.own j' o' x2
    rw [x4] at e5; cases e5
    rcases q with q | q
    · rw [q] at h; cases h
    · exact hp q
  -- a slot of the whole, by what it is
  have split : ∀ (i : Nat), (i < tops.length ∧ (tops ++ σ)[i]? = (tops ++ vs.map some)[i]? ∧ (topsS ++ backs as as' ρ)[i]? = (topsS ++ as')[i]?) ∨
      (∃ j, i = tops.length + j ∧ (tops ++ σ)[i]? = σ[j]? ∧ (topsS ++ backs as as' ρ)[i]? = (backs as as' ρ)[j]?) := by
    intro i
    by_cases h : i < tops.length
    · refine .inl ⟨h, ?_, ?_⟩
      · rw [List.getElem?_append_left h, List.getElem?_append_left h]
      · rw [List.getElem?_append_left (by omega), List.getElem?_append_left (by omega)]
    · refine .inr ⟨i - tops.length, by omega, ?_, ?_⟩
      · rw [List.getElem?_append_right (by omega)]
      · rw [List.getElem?_append_right (by omega), ht]
  have sAt : ∀ (k : Nat) (sl : Sl), as'[k]? = some sl → (topsS ++ as')[tops.length + k]? = some sl ∧ (tops ++ vs.map some)[tops.length + k]? = (vs.map some)[k]? := by
    intro k sl e
    refine ⟨?_, ?_⟩
    · rw [List.getElem?_append_right (by omega), ht, Nat.add_sub_cancel_left]; exact e
    · rw [List.getElem?_append_right (by omega), Nat.add_sub_cancel_left]
  refine ⟨?_, R.s1.trans S.s1, S.s2, fun a o h hp => S.s3 a o (R.s3 a o h hp) (nt2 h hp), fun a h h0 hp => S.s4 a (R.s5 a h) (R.s4 a h h0 hp) (nt h h0 hp), fun a h => S.s5 a (R.s5 a h), fun i d e => ?_, fun i o e => ?_, ?_⟩
  · simp only [List.length_append, bl]
    rw [ht, R.len]
  · rcases split i with ⟨hi, e1, e2⟩ | ⟨j, rfl, e1, e2⟩
    · rw [e2] at e
      rw [e1]
      exact S.val i d e
    · rw [e2] at e
      rw [e1]
      rcases key as as' ρ hlen nd j with ⟨k, x1, x2, x3⟩ | ⟨x1, x2⟩ | ⟨x1, x2⟩
      · rw [x3] at e
        obtain ⟨o, a, y1, y2, y3⟩ := lentAt k j x1
        obtain ⟨z1, z2⟩ := sAt k _ e
        obtain ⟨v, w1, w2⟩ := S.val _ d z1
        rw [z2, y3] at w1
        cases w1
        exact ⟨_, y2, w2⟩
      · rw [x2] at e
        obtain ⟨v, w1, w2⟩ := R.val j d e
        exact ⟨v, w1, w2.mono S.s1⟩
      · rw [x2] at e; cases e
  · rcases split i with ⟨hi, e1, e2⟩ | ⟨j, rfl, e1, e2⟩
    · rw [e2] at e
      rw [e1]
      obtain ⟨a, w1, w2, w3, w4⟩ := S.own i o e
      refine ⟨a, w1, w2, ?_, w4⟩
      rcases w3 with w3 | w3
      · exact .inl (R.fresh w3)
      · obtain ⟨i', o', e3, e4⟩ := mem_owns.mp w3
        obtain ⟨j', b, y1, y2, y3, y4⟩ := h2 i' o' e3
        rw [e4] at y3; cases y3
        obtain ⟨b, e5, n, q, z⟩ := R.own j' o' y2
        rw [y4] at e5; cases e5
        exact q
    · rw [e2] at e
      rw [e1]
      rcases key as as' ρ hlen nd j with ⟨k, x1, x2, x3⟩ | ⟨x1, x2⟩ | ⟨x1, x2⟩
      · rw [x3] at e
        obtain ⟨o1, a, y1, y2, y3⟩ := lentAt k j x1
        obtain ⟨z1, z2⟩ := sAt k _ e
        obtain ⟨b, w1, w2, w3, w4⟩ := S.own _ o z1
        rw [z2, y3] at w1
        cases w1
        obtain ⟨b, e5, n, q, z⟩ := R.own j o1 y1
        rw [y2] at e5; cases e5
        exact ⟨a, y2, w2, q, w4⟩
      · rw [x2] at e
        obtain ⟨a, w1, w2, w3, w4⟩ := R.own j o e
        have na := apart j o a e w1 x1
        exact ⟨a, w1, S.s4 a w4.there w2 na, w3, w4.mono S.s1 fun x z => S.s3 a x z na⟩
      · rw [x2] at e; cases e
  · intro i j o o' a e1 e2 e3 e4
    -- each own slot of the whole is one of S's, or one of R's that wasn't lent
    have cls : ∀ (i : Nat) (o : Od) (a : Addr), (topsS ++ backs as as' ρ)[i]? = some (.own o) → (tops ++ σ)[i]? = some (some (.ref a)) →
        (∃ i', (topsS ++ as')[i']? = some (.own o) ∧ (tops ++ vs.map some)[i']? = some (some (.ref a)) ∧ ((i < tops.length ∧ i' = i) ∨ ∃ j k, i = tops.length + j ∧ i' = tops.length + k ∧ as[k]? = some (.b j))) ∨
        (∃ j, i = tops.length + j ∧ j ∉ lent as ∧ ρ[j]? = some (.own o) ∧ σ[j]? = some (some (.ref a))) := by
      intro i o a e1 e3
      rcases split i with ⟨hi, x1, x2⟩ | ⟨j, rfl, x1, x2⟩
      · rw [x2] at e1; rw [x1] at e3
        exact .inl ⟨i, e1, e3, .inl ⟨hi, rfl⟩⟩
      · rw [x2] at e1; rw [x1] at e3
        rcases key as as' ρ hlen nd j with ⟨k, y1, y2, y3⟩ | ⟨y1, y2⟩ | ⟨y1, y2⟩
        · rw [y3] at e1
          obtain ⟨o1, b, w1, w2, w3⟩ := lentAt k j y1
          rw [w2] at e3; cases e3
          obtain ⟨z1, z2⟩ := sAt k _ e1
          exact .inl ⟨_, z1, by rw [z2]; exact w3, .inr ⟨j, k, rfl, rfl, y1⟩⟩
        · rw [y2] at e1
          exact .inr ⟨j, rfl, y1, e1, e3⟩
        · rw [y2] at e1; cases e1
    have cross : ∀ (i' j : Nat) (o o' : Od) (a : Addr), (topsS ++ as')[i']? = some (.own o) → (tops ++ vs.map some)[i']? = some (some (.ref a)) → j ∉ lent as → ρ[j]? = some (.own o') → σ[j]? = some (some (.ref a)) → False := by
      intro i' j o o' a x1 x2 x3 x4 x5
      obtain ⟨b, w1, w2, w3, w4⟩ := S.own i' o x1
      rw [x2] at w1; cases w1
      have na := apart j o' a x4 x5 x3
      rcases w3 with w3 | w3
      · obtain ⟨b, e5, n, q, z⟩ := R.own j o' x4
        rw [x5] at e5; cases e5
        exact z.there w3
      · exact na w3
    rcases cls i o a e1 e3 with ⟨i', x1, x2, x3⟩ | ⟨j1, x1, x2, x3, x4⟩
    · rcases cls j o' a e2 e4 with ⟨i2, y1, y2, y3⟩ | ⟨j2, y1, y2, y3, y4⟩
      · have hij := S.dis i' i2 o o' a x1 y1 x2 y2
        subst hij
        rcases x3 with ⟨x3, rfl⟩ | ⟨jj, kk, rfl, rfl, x3⟩
        · rcases y3 with ⟨y3, rfl⟩ | ⟨j3, k3, rfl, y4, y5⟩
          · rfl
          · omega
        · rcases y3 with ⟨y3, y4⟩ | ⟨j3, k3, rfl, y4, y5⟩
          · omega
          · have : kk = k3 := by omega
            subst this
            rw [x3] at y5
            cases y5
            rfl
      · exact (cross i' j2 o o' a x1 x2 y2 y3 y4).elim
    · rcases cls j o' a e2 e4 with ⟨i2, y1, y2, y3⟩ | ⟨j2, y1, y2, y3, y4⟩
      · exact (cross i2 j1 o' o a y1 y2 x2 x3 x4).elim
      · have := R.dis j1 j2 o o' a x3 y3 x4 y4
        omega
/-! ### a call -/
/-- the constants that fill up -/
def callD (n : Nat) (g : M Sl) (dv : List Dt) (as : List Ar) : M Sl := fun ρ =>
  if decide ((lent as).Nodup) && (lent as).all (fun i => match ρ[i]? with | some (.own _) => true | _ => false) && decide ((as ++ dv.map Ar.d).length = n) then
    match g ((as ++ dv.map Ar.d).map (arSl ρ)) with
    | none => none
    | some (r, as') => some (r, backs (as ++ dv.map Ar.d) as' ρ)
  else none
class CVs (dvs : List V) (dv : outParam (List Dt)) : Prop where
  rd : ∀ (K : Fg) (H : Hp), RDs K H dv dvs
instance : CVs [] [] := ⟨fun _ _ => RDs.nil⟩
instance {v : V} {d : Dt} {vs : List V} {ds : List Dt} [a : CV v d] [b : CVs vs ds] : CVs (v :: vs) (d :: ds) := ⟨fun K H => RDs.cons (a.rd K H) (b.rd K H)⟩
theorem ArRs.app {as bs : List Ar} {vs us : List V} (a : ArRs K H0 σ as vs) (b : ArRs K H0 σ bs us) : ArRs K H0 σ (as ++ bs) (vs ++ us) := by
  induction a with
  | nil => exact b
  | cons h r ih => exact .cons h ih
theorem ArRs.data : ∀ {ds : List Dt} {vs : List V}, RDs K H0 ds vs → ArRs K H0 σ (ds.map Ar.d) vs
  | [], vs, h => by rw [RDs.nil_inv h]; exact .nil
  | d :: ds, vs, h => by
    obtain ⟨v, r, rfl, h1, h2⟩ := h.inv
    exact .cons h1 (ArRs.data h2)
theorem lent_app {as : List Ar} {ds : List Dt} : lent (as ++ ds.map Ar.d) = lent as := by
  induction as with
  | nil =>
    show lent (ds.map Ar.d) = []
    induction ds with
    | nil => rfl
    | cons d ds ih => exact ih
  | cons a as ih =>
    cases a with
    | d x => exact ih
    | b i => exact congrArg (i :: ·) ih
def fCall (n : Nat) (g : M Sl) (dv : List Dt) (fa : M (List Ar)) : M Sl := mB fa (callD n g dv)
/-- a promise kept, from the caller's slots -/
theorem call_run {n : Nat} {g : M Sl} {dv : List Dt} {as : List Ar} {vs us : List V} {E0 : XK} {r : Rs Sl} {Q : VK} (R : Rep K F σ H0 H ρ) (ra : ArRs K H0 σ as vs) (rd : RDs K H0 dv us) (e : callD n g dv as ρ = some (r, ρ'))
    (h : EndE K (fun _ => E0) F σ H0 ρ' Q r) : spD K n g (vs ++ us) H Q E0 := by
  unfold callD at e
  split at e
  · rename_i hc
    simp only [Bool.and_eq_true, decide_eq_true_eq, List.all_eq_true] at hc
    obtain ⟨⟨nd, ho⟩, hn⟩ := hc
    have ra' := ra.app (ArRs.data (σ := σ) rd)
    have nd' : (lent (as ++ dv.map Ar.d)).Nodup := by rw [lent_app]; exact nd
    have ho' : ∀ i ∈ lent (as ++ dv.map Ar.d), ∃ o, ρ[i]? = some (.own o) := fun i hi => by
      rw [lent_app] at hi
      have := ho i hi
      split at this
      · rename_i o q; exact ⟨o, q⟩
      · cases this
    cases q : g ((as ++ dv.map Ar.d).map (arSl ρ)) with
    | none => rw [q] at e; cases e
    | some p =>
      obtain ⟨r0, as'⟩ := p
      rw [q] at e
      simp only [Option.some.injEq, Prod.mk.injEq] at e
      obtain ⟨rfl, rfl⟩ := e
      refine ⟨by rw [← ra'.length]; exact hn, H0, _, r0, as', R.enter ra' nd' ho', q, ?_⟩
      cases r0 with
      | ok sl => exact fun v H1 H' s R' => h v H1 H' s (R.leave (tops := [some v]) (topsS := [sl]) ra' nd' ho' rfl R')
      | ex C ns ds =>
        intro d H1 H' s R' x
        refine h d H1 H' s (R.leave (tops := []) (topsS := []) ra' nd' ho' rfl R') ?_
        rcases x with x | ⟨a, fs, x1, x2, x3, x4⟩
        · exact .inl x
        · exact .inr ⟨a, fs, x1, R.fresh x2, x3, x4⟩
  · cases e
instance sCall {n : Nat} {g : M Sl} {dvs : List V} {dv : List Dt} {E0 : XK} {t : TA} {fa : M (List Ar)} [A : SimB K (fun _ => E0) t fa] [D : CVs dvs dv] : SimE K (fun _ => E0) (tCall (spD K n g) dvs E0 t) (fCall n g dv fa) where
  run := fun F σ H0 H ρ r ρ' Q R e h => by
    refine A.bind R e h.hx fun as ρ1 vs H1 H' e1 s1 R1 ra => ?_
    exact call_run R1 ra (D.rd _ _) e1 (h.later s1)
/-! ### a def's body -/
/-- as data, but what is lent -/
def norm (pin : Nat → Bool) (i : Nat) : Sl → Sl
  | .own o => if pin i then .own o else .val o.dt
  | s => s
def norms (pin : Nat → Bool) (as : List Sl) : List Sl := as.mapIdx (norm pin)
def backsD (pin : Nat → Bool) (as ρ : List Sl) : List Sl := as.mapIdx fun i s => if pin i then ρ[i]?.getD .un else s
def mDef (pin : Nat → Bool) (N : Nat) (G : M So) : M Sl := fun as => match G (norms pin as ++ List.replicate (N - as.length) .un) with
  | some (.ok .nx, ρ) => some (.ok (.val .non), backsD pin (norms pin as) ρ)
  | some (.ok (.rt s), ρ) => some (.ok s, backsD pin (norms pin as) ρ)
  | some (.ex C ns ds, ρ) => some (.ex C ns ds, backsD pin (norms pin as) ρ)
  | _ => none
def normsK (pin : Nat → Bool) (k : Nat) (as : List Sl) : List Sl := as.mapIdx fun i s => if i < k then norm pin i s else s
theorem normsK_step {k : Nat} {as : List Sl} : normsK pin (k + 1) as = match as[k]? with
    | some s => (normsK pin k as).set k (norm pin k s)
    | none => normsK pin k as := by
  apply List.ext_getElem?
  intro i
  have L : (normsK pin (k + 1) as)[i]? = (as[i]?).map fun s => if i < k + 1 then norm pin i s else s := by unfold normsK; rw [List.getElem?_mapIdx]
  have L0 : ∀ j, (normsK pin k as)[j]? = (as[j]?).map fun s => if j < k then norm pin j s else s := fun j => by unfold normsK; rw [List.getElem?_mapIdx]
  have hlen : (normsK pin k as).length = as.length := by simp [normsK]
  rw [L]
  cases q : as[k]? with
  | none =>
    simp only
    rw [L0]
    by_cases hi : i = k
    · subst hi; rw [q]; rfl
    · cases as[i]? with
      | none => rfl
      | some s =>
        simp only [Option.map_some]
        by_cases h1 : i < k
        · rw [if_pos h1, if_pos (by omega)]
        · rw [if_neg h1, if_neg (by omega)]
  | some s =>
    have hk : k < as.length := (List.getElem?_eq_some_iff.mp q).1
    simp only
    rw [List.getElem?_set]
    by_cases hi : k = i
    · subst hi
      rw [if_pos rfl, if_pos (by omega), q]
      simp
    · rw [if_neg hi, L0]
      cases as[i]? with
      | none => rfl
      | some s =>
        simp only [Option.map_some]
        by_cases h1 : i < k
        · rw [if_pos h1, if_pos (by omega)]
        · rw [if_neg h1, if_neg (by omega)]
theorem Rep.normsK (R : Rep K F σ H0 H ρ) : ∀ k : Nat, ∃ H0', Same H0 H0' ∧ Rep K F σ H0' H (DL.normsK pin k ρ)
  | 0 => by
    have : DL.normsK pin 0 ρ = ρ := by
      apply List.ext_getElem?
      intro i
      unfold DL.normsK
      rw [List.getElem?_mapIdx]
      cases ρ[i]? <;> simp
    exact ⟨H0, Same.refl _, by rw [this]; exact R⟩
  | k + 1 => by
    obtain ⟨H1, s1, R1⟩ := R.normsK k
    rw [normsK_step]
    cases q : ρ[k]? with
    | none => exact ⟨H1, s1, R1⟩
    | some s =>
      have hq : (DL.normsK pin k ρ)[k]? = some s := by
        unfold DL.normsK
        rw [List.getElem?_mapIdx, q]
        simp
      have same : ∀ {x : Sl}, x = s → (DL.normsK pin k ρ).set k x = DL.normsK pin k ρ := by
        rintro x rfl
        apply List.ext_getElem?
        intro i
        rw [List.getElem?_set]
        by_cases hi : k = i
        · subst hi
          rw [if_pos rfl, if_pos (List.getElem?_eq_some_iff.mp hq).1, hq]
        · rw [if_neg hi]
      cases s with
      | un => exact ⟨H1, s1, by simp only [norm]; rw [same rfl]; exact R1⟩
      | val d => exact ⟨H1, s1, by simp only [norm]; rw [same rfl]; exact R1⟩
      | own o =>
        simp only [norm]
        by_cases hp : pin k = true
        · rw [if_pos hp, same rfl]
          exact ⟨H1, s1, R1⟩
        · rw [if_neg hp]
          obtain ⟨a, ea, _⟩ := R1.own k o hq
          obtain ⟨H2, s2, _, R2⟩ := R1.freeze hq ea
          exact ⟨H2, s1.trans s2, R2⟩
theorem normsK_all {as : List Sl} : normsK pin as.length as = norms pin as := by
  apply List.ext_getElem?
  intro i
  unfold normsK norms
  rw [List.getElem?_mapIdx, List.getElem?_mapIdx]
  cases q : as[i]? with
  | none => rfl
  | some s =>
    have := (List.getElem?_eq_some_iff.mp q).1
    simp [this]
theorem Rep.norms (R : Rep K F σ H0 H ρ) : ∃ H0', Same H0 H0' ∧ Rep K F σ H0' H (DL.norms pin ρ) := by
  have := R.normsK (pin := pin) ρ.length
  rwa [normsK_all] at this
/-- more slots, of which nothing is known -/
theorem Rep.pad {n : Nat} (R : Rep K F σ H0 H ρ) : Rep K F (σ ++ List.replicate n none) H0 H (ρ ++ List.replicate n .un) := by
  have f : ∀ (i : Nat) (s : Sl), (ρ ++ List.replicate n Sl.un)[i]? = some s → s ≠ .un → ρ[i]? = some s ∧ (σ ++ List.replicate n none)[i]? = σ[i]? := fun i s e ne => by
    by_cases hi : i < ρ.length
    · rw [List.getElem?_append_left hi] at e
      exact ⟨e, List.getElem?_append_left (by rw [R.len]; exact hi)⟩
    · rw [List.getElem?_append_right (by omega), List.getElem?_replicate] at e
      split at e
      · cases e; exact absurd rfl ne
      · cases e
  refine ⟨by simp [R.len], R.s1, R.s2, R.s3, R.s4, R.s5, fun i d e => ?_, fun i o e => ?_, fun i j o o' a e1 e2 e3 e4 => ?_⟩
  · obtain ⟨e1, e2⟩ := f i _ e (fun z => nomatch z)
    rw [e2]; exact R.val i d e1
  · obtain ⟨e1, e2⟩ := f i _ e (fun z => nomatch z)
    rw [e2]; exact R.own i o e1
  · obtain ⟨h1, h2⟩ := f i _ e1 (fun z => nomatch z)
    obtain ⟨h3, h4⟩ := f j _ e2 (fun z => nomatch z)
    rw [h2] at e3; rw [h4] at e4
    exact R.dis i j o o' a h1 h3 e3 e4
/-- back at the arguments: what is lent as the body left it, the others as they were -/
theorem Rep.toArgs {σ' : L2.St} {vs : L2.St} {as ρq tS : List Sl} {tops : L2.St} {H0' H' : Hp} {n : Nat} (A : Rep K F vs H0 H as) (s : Same H0 H0') (na : ∀ i, pin i ≠ true → ∀ o, as[i]? ≠ some (.own o))
    (ht : tops.length = tS.length) (hp : Pin pin (vs ++ List.replicate n none) σ') (S : Rep K F (tops ++ σ') H0' H' (tS ++ ρq)) : Rep K F (tops ++ vs) H0' H' (tS ++ backsD pin as ρq) := by
  have hl : (backsD pin as ρq).length = as.length := by simp [backsD]
  have get : ∀ j, (backsD pin as ρq)[j]? = (as[j]?).map fun s => if pin j then ρq[j]?.getD .un else s := fun j => by unfold backsD; rw [List.getElem?_mapIdx]
  have pj : ∀ j, j < vs.length → pin j = true → σ'[j]? = vs[j]? := fun j h1 h2 => by
    rw [hp.2 j h2, List.getElem?_append_left h1]
  have sAt : ∀ (j : Nat), (tS ++ ρq)[tops.length + j]? = ρq[j]? ∧ (tops ++ σ')[tops.length + j]? = σ'[j]? := fun j => by
    refine ⟨?_, ?_⟩
    · rw [List.getElem?_append_right (by omega), ht, Nat.add_sub_cancel_left]
    · rw [List.getElem?_append_right (by omega), Nat.add_sub_cancel_left]
  have split : ∀ (i : Nat) (s : Sl), (tS ++ backsD pin as ρq)[i]? = some s → s ≠ .un →
      (∃ i', (tS ++ ρq)[i']? = some s ∧ (tops ++ vs)[i]? = (tops ++ σ')[i']? ∧ i' = i) ∨ (∃ j d, i = tops.length + j ∧ s = .val d ∧ as[j]? = some (.val d) ∧ (tops ++ vs)[i]? = vs[j]?) := by
    intro i s e ne
    by_cases h : i < tops.length
    · refine .inl ⟨i, ?_, ?_, rfl⟩
      · rw [List.getElem?_append_left (by omega)] at e ⊢; exact e
      · rw [List.getElem?_append_left h, List.getElem?_append_left h]
    · have hi : i = tops.length + (i - tops.length) := by omega
      generalize hj : i - tops.length = j at hi
      subst hi
      rw [List.getElem?_append_right (by omega), ht, Nat.add_sub_cancel_left, get] at e
      cases q : as[j]? with
      | none => rw [q] at e; cases e
      | some s0 =>
        have hlt : j < vs.length := by rw [A.len]; exact (List.getElem?_eq_some_iff.mp q).1
        rw [q] at e
        simp only [Option.map_some, Option.some.injEq] at e
        have evs : (tops ++ vs)[tops.length + j]? = vs[j]? := by rw [List.getElem?_append_right (by omega), Nat.add_sub_cancel_left]
        by_cases hpj : pin j = true
        · rw [if_pos hpj] at e
          cases qr : ρq[j]? with
          | none => rw [qr] at e; exact absurd e.symm ne
          | some s1 =>
            rw [qr] at e
            obtain ⟨z1, z2⟩ := sAt j
            refine .inl ⟨tops.length + j, by rw [z1, qr]; exact congrArg some e, by rw [evs, z2, pj j hlt hpj], rfl⟩
        · rw [if_neg hpj] at e
          subst e
          cases s0 with
          | un => exact absurd rfl ne
          | own o => exact absurd q (na j hpj o)
          | val d => exact .inr ⟨j, d, rfl, rfl, q, evs⟩
  refine ⟨?_, S.s1, S.s2, S.s3, S.s4, S.s5, fun i d e => ?_, fun i o e => ?_, fun i j o o' a e1 e2 e3 e4 => ?_⟩
  · simp only [List.length_append, hl]; rw [ht, A.len]
  · rcases split i _ e (fun z => nomatch z) with ⟨i', x1, x2, rfl⟩ | ⟨j, d', rfl, x1, x2, x3⟩
    · rw [x2]; exact S.val _ d x1
    · cases x1
      obtain ⟨v, w1, w2⟩ := A.val j d x2
      exact ⟨v, by rw [x3]; exact w1, w2.mono s⟩
  · rcases split i _ e (fun z => nomatch z) with ⟨i', x1, x2, rfl⟩ | ⟨j, d', rfl, x1, x2, x3⟩
    · rw [x2]; exact S.own _ o x1
    · cases x1
  · rcases split i _ e1 (fun z => nomatch z) with ⟨i', x1, x2, rfl⟩ | ⟨j, d', rfl, x1, x2, x3⟩
    · rcases split j _ e2 (fun z => nomatch z) with ⟨j', y1, y2, rfl⟩ | ⟨j, d', rfl, y1, y2, y3⟩
      · rw [x2] at e3; rw [y2] at e4
        exact S.dis _ _ o o' a x1 y1 e3 e4
      · cases y1
    · cases x1
/-- THE RULE for a def: its body's run keeps the promise by that run -/
theorem body_ok {t : TS} {G : M So} {N : List Str} {n : Nat} {vs : List V} {Q : VK} {E0 : XK} [S : SimS K (fun _ => E0) pin t G] (hN : n ≤ N.length) (h : spD K n (mDef pin N.length G) vs H Q E0) :
    t { nx := fun _ H' => Q .non H', rt := Q } (L2.start N vs) H := by
  obtain ⟨hl, H0, as, r, as', R, e, q⟩ := h
  have hla : as.length = vs.length := by have := R.len; simpa using this.symm
  obtain ⟨H1, s1, R1⟩ := R.norms (pin := pin)
  have R2 := R1.pad (n := N.length - vs.length)
  have na : ∀ i, pin i ≠ true → ∀ o, (norms pin as)[i]? ≠ some (.own o) := fun i hp o z => by
    unfold norms at z
    rw [List.getElem?_mapIdx] at z
    cases q : as[i]? with
    | none => rw [q] at z; cases z
    | some s =>
      rw [q] at z
      have z' : norm pin i s = .own o := by simpa using z
      cases s with
      | un => cases z'
      | val d => cases z'
      | own o' =>
        simp only [norm] at z'
        rw [if_neg hp] at z'
        cases z'
  unfold mDef at e
  rw [hla] at e
  cases qG : G (norms pin as ++ List.replicate (N.length - vs.length) .un) with
  | none => rw [qG] at e; cases e
  | some p =>
    obtain ⟨r0, ρ0⟩ := p
    rw [qG] at e
    unfold L2.start
    refine S.run _ _ H1 H _ _ _ _ R2 qG ?_
    have fin : ∀ {tops : L2.St} {tS : List Sl} {σ' : L2.St} {H0' H' : Hp}, Same H1 H0' → Pin pin (vs.map some ++ List.replicate (N.length - vs.length) none) σ' → tops.length = tS.length →
        Rep K (DL.snap (vs.map some) H0 H as) (tops ++ σ') H0' H' (tS ++ ρ0) → Rep K (DL.snap (vs.map some) H0 H as) (tops ++ vs.map some) H0' H' (tS ++ backsD pin (norms pin as) ρ0) :=
      fun {tops tS σ' H0' H'} s p ht S' => Rep.toArgs R1 s na ht p S'
    cases r0 with
    | ok o =>
      cases o with
      | nx =>
        simp only [Option.some.injEq, Prod.mk.injEq] at e
        obtain ⟨rfl, rfl⟩ := e
        intro σ' H0' H' s p S'
        exact q .non H0' H' (s1.trans s) ((fin (tops := []) (tS := []) s p rfl S').push RD.non)
      | bk => cases e
      | ct => cases e
      | rt sl =>
        simp only [Option.some.injEq, Prod.mk.injEq] at e
        obtain ⟨rfl, rfl⟩ := e
        intro v σ' H0' H' s p S'
        exact q v H0' H' (s1.trans s) (fin (tops := [some v]) (tS := [sl]) s p rfl S')
    | ex C ns ds =>
      simp only [Option.some.injEq, Prod.mk.injEq] at e
      obtain ⟨rfl, rfl⟩ := e
      intro d σ' H0' H' s p S' x
      exact q d H0' H' (s1.trans s) (fin (tops := []) (tS := []) s p rfl S') x
/-! ### defs that let nothing out -/
def spP (K : Fg) (n : Nat) (g : M Sl) : Sp := fun vs H Q _ => vs.length = n ∧ ∃ H0 as sl as', Rep K (DL.snap (vs.map some) H0 H as) (vs.map some) H0 H as ∧ g as = some (.ok sl, as') ∧
  ∀ v H0' H', Same H0 H0' → Rep K (DL.snap (vs.map some) H0 H as) (some v :: vs.map some) H0' H' (sl :: as') → Q v H'
theorem spP_imp {n : Nat} {g g' : M Sl} (h : ∀ as x, g' as = some x → g as = some x) : ∀ vs H Q E, spP K n g' vs H Q E → spP K n g vs H Q E := by
  rintro vs H Q E ⟨hl, H0, as, r, as', R, e, q⟩
  exact ⟨hl, H0, as, r, as', R, h _ _ e, q⟩
theorem spP_len {n : Nat} {g : M Sl} : ∀ vs H Q E, spP K n g vs H Q E → vs.length = n := fun _ _ _ _ h => h.1
theorem spD_len {n : Nat} {g : M Sl} : ∀ vs H Q E, spD K n g vs H Q E → vs.length = n := fun _ _ _ _ h => h.1
theorem spP_spD {n : Nat} {g : M Sl} {vs : List V} {Q : VK} {E0 E1 : XK} (h : spP K n g vs H Q E0) : spD K n g vs H Q E1 := by
  obtain ⟨hl, H0, as, r, as', R, e, q⟩ := h
  exact ⟨hl, H0, as, _, as', R, e, q⟩
theorem body_okP {t : TS} {G : M So} {N : List Str} {n : Nat} {vs : List V} {Q : VK} {E0 : XK} [S : SimS K EN pin t G] (hN : n ≤ N.length) (h : spP K n (mDef pin N.length G) vs H Q E0) :
    t { nx := fun _ H' => Q .non H', rt := Q } (L2.start N vs) H :=
  body_ok (E0 := fun _ _ _ => False) (S := S) hN (spP_spD h)
def okOnly : Option (Rs Sl × List Sl) → Option (Rs Sl × List Sl)
  | some (.ok s, ρ) => some (.ok s, ρ)
  | _ => none
def fCallP (n : Nat) (g : M Sl) (dv : List Dt) (fa : M (List Ar)) : M Sl := mB fa fun as ρ => okOnly (callD n g dv as ρ)
theorem callP_run {n : Nat} {g : M Sl} {dv : List Dt} {as : List Ar} {vs us : List V} {E0 : XK} {sl : Sl} {Q : VK} (R : Rep K F σ H0 H ρ) (ra : ArRs K H0 σ as vs) (rd : RDs K H0 dv us) (e : callD n g dv as ρ = some (.ok sl, ρ'))
    (h : ∀ v H0' H', Same H0 H0' → Rep K F (some v :: σ) H0' H' (sl :: ρ') → Q v H') : spP K n g (vs ++ us) H Q E0 := by
  unfold callD at e
  split at e
  · rename_i hc
    simp only [Bool.and_eq_true, decide_eq_true_eq, List.all_eq_true] at hc
    obtain ⟨⟨nd, ho⟩, hn⟩ := hc
    have ra' := ra.app (ArRs.data (σ := σ) rd)
    have nd' : (lent (as ++ dv.map Ar.d)).Nodup := by rw [lent_app]; exact nd
    have ho' : ∀ i ∈ lent (as ++ dv.map Ar.d), ∃ o, ρ[i]? = some (.own o) := fun i hi => by
      rw [lent_app] at hi
      have := ho i hi
      split at this
      · rename_i o q; exact ⟨o, q⟩
      · cases this
    cases q : g ((as ++ dv.map Ar.d).map (arSl ρ)) with
    | none => rw [q] at e; cases e
    | some p =>
      obtain ⟨r0, as'⟩ := p
      rw [q] at e
      simp only [Option.some.injEq, Prod.mk.injEq] at e
      obtain ⟨rfl, rfl⟩ := e
      exact ⟨by rw [← ra'.length]; exact hn, H0, _, sl, as', R.enter ra' nd' ho', q, fun v H1 H' s R' => h v H1 H' s (R.leave (tops := [some v]) (topsS := [sl]) ra' nd' ho' rfl R')⟩
  · cases e
instance sCallP {n : Nat} {g : M Sl} {dvs : List V} {dv : List Dt} {E0 : XK} {t : TA} {fa : M (List Ar)} [A : SimB K E t fa] [D : CVs dvs dv] : SimE K E (tCall (spP K n g) dvs E0 t) (fCallP n g dv fa) where
  run := fun F σ H0 H ρ r ρ' Q R e h => by
    refine A.bind R e h.hx fun as ρ1 vs H1 H' e1 s1 R1 ra => ?_
    cases q : callD n g dv as ρ1 with
    | none => rw [q] at e1; cases e1
    | some p =>
      obtain ⟨r0, ρ2⟩ := p
      rw [q] at e1
      cases r0 with
      | ex C ns ds => cases e1
      | ok sl =>
        simp only [okOnly, Option.some.injEq, Prod.mk.injEq] at e1
        obtain ⟨rfl, rfl⟩ := e1
        exact callP_run R1 ra (D.rd _ _) q (h.later s1)
end
end DL

end
section
set_option Elab.async false
set_option linter.all false
set_option maxRecDepth 100000
set_option maxHeartbeats 4000000
/-! D8: a def by its name, for callers; the rules with the written part told. -/
namespace DL
open PySem PySem.Spec L2 RZ
structure Df (P : Program) (w : World) (K : Fg) (mg : Str → Option Value) (base : Heap) (k : Nat) (x : Str) (n : Nat) (g : M Sl) : Prop where
  ex : ∃ (f : Addr) (fd : FuncData) (ps : List Str), FnOk P w K mg base CX0 k f fd ps (spP K n g) ∧ mg x = some (.ref f) ∧ PySem.W.keepIn K (.ref f) = true ∧ Binds K fd ps []
section
variable {X : Cx} {K : Fg}
theorem kCall {P : Program} {w : World} {mg : Str → Option Value} {base : Heap} {k : Nat} {x : Str} {n : Nat} {g : M Sl} {p pos : Pos} {e : Expr} {es : List Expr} {t : TA} (D : Df P w K mg base k x n g)
    (h1 : X.prog = P) (h2 : X.w = w) (h3 : X.K = K) (h4 : X.mg = mg) (h5 : X.base = base) (hr : Room k X.A) (hg : Gl X x) (ha : PA X (e :: es) t)
    (hdb : (x == ("__debug__" : Str)) = false := by decide) (he : starEach (e :: es) X.env = (false, eval e X.env) :: starEach es X.env := by rfl) (hpl : (backTo pos (starEach es X.env)).any (·.1) = false := by rfl) :
    PE X (.Call (.Name x p) (e :: es) [] pos) (tCall (spP K n g) [] E0 t) := by
  subst h1 h2 h3 h4 h5
  obtain ⟨f, fd, ps, F, h1, h2, h3⟩ := D.ex
  exact pe_call F hr hg h1 h2 h3 .nil pass0 ha hdb he hpl
theorem kAdd (h : X.K = K) : OpR X (binaryOp .Add) (rAddU K) := h ▸ opAddU
theorem kMul (h : X.K = K) : OpR X (binaryOp .Mult) (rMulU K) := h ▸ opMulU
theorem kEq (h : X.K = K) (hu : X.A.units + 64 < cLine) : OpR X (compareOp .Eq) (rEqD K) := h ▸ op_eqD hu
theorem kNe (h : X.K = K) (hu : X.A.units + 64 < cLine) : OpR X (compareOp .NotEq) (rNeD K) := h ▸ op_neD hu
theorem kLt (h : X.K = K) (hu : X.A.units < cLine) : OpR X (compareOp .Lt) (rLtU K) := h ▸ opLtU hu
theorem kLe (h : X.K = K) (hu : X.A.units < cLine) : OpR X (compareOp .LtE) (rLeU K) := h ▸ opLeU hu
theorem kIn (h : X.K = K) : OpR X (compareOp .In) (rInU K) := h ▸ opInU
theorem kNotIn (h : X.K = K) : OpR X (compareOp .NotIn) (rNotInU K) := h ▸ opNotInU
theorem kIx (h : X.K = K) : IxR X (rIx K) := h ▸ ix_seq
theorem kSl (h : X.K = K) : SlR X (rSlU K) := h ▸ slU
theorem kGet (h : X.K = K) : PGet X (rIxL K) := h ▸ get_list
theorem kLen (h : X.K = K) : CallR X (.builtin "len") (fun xs H Q => ∃ x n, xs = [x] ∧ LenV K x H n ∧ Q (.int n) H) := h ▸ call_len
theorem kSum (h : X.K = K) (hc : X.calm = true) : CallR X (.builtin "sum") (rSum K) := h ▸ cr_sum hc
theorem kAll (h : X.K = K) (hc : X.calm = true) : CallR X (.builtin "all") (rAll K) := h ▸ cr_all hc
theorem kAny (h : X.K = K) (hc : X.calm = true) : CallR X (.builtin "any") (rAny K) := h ▸ cr_any hc
theorem kIsi (h : X.K = K) : CallR X (.builtin "isinstance") (rIsi K) := h ▸ call_isi
theorem kList (h : X.K = K) : CallR X (.type "list") (fun xs H Q => ∃ p ys, xs = [V.ref p] ∧ (SqL K H p ys ∨ SqT K H p ys) ∧ ∀ l, H l = none → Q (.ref l) (upd H l (.lst ys))) := h ▸ call_list_of
theorem kTuple (h : X.K = K) : CallR X (.type "tuple") (fun xs H Q => ∃ p ys, xs = [V.ref p] ∧ ((SqL K H p ys ∧ ∀ l, H l = none → Q (.ref l) (upd H l (.tup ys))) ∨ (SqT K H p ys ∧ Q (.ref p) H))) := h ▸ call_tuple_of
theorem kJoin (h : X.K = K) : MtR X "str.join" (fun x xs H Q => ∃ a p, ∃ ys : List Str, x = V.str a ∧ xs = [V.ref p] ∧ (SqL K H p (ys.map V.str) ∨ SqT K H p (ys.map V.str)) ∧ (ys.map (·.length)).sum + ys.length * a.length ≤ 16777216 ∧ Q (.str (Txt.join a ys)) H) := h ▸ mt_join
theorem kFld {e : Expr} {f : Str} {pos : Pos} {ta : TE} (h : X.K = K) (he : PE X e ta) (hb : attributeBase e f X.env (eval e X.env) = eval e X.env) : PE X (.Attribute e f pos) (tFld K ta f) := h ▸ pe_fld he hb
theorem kgTup {es : List Expr} {k : Nat} {t : TGs} {n : Nat} {pos : Pos} (h : X.K = K) (hc : X.calm = true) (h1 : PGs X es t)
    (hn : (assignEach es X.env).length = n := by rfl) (hst : (assignEach es X.env).findIdx? (·.1) = none := by rfl) : PG X (.Tuple es k pos) (gTup K n t) := h ▸ pg_tup hc h1 hn hst
theorem kiList {tg l : Expr} {tl : TE} (h : X.K = K) (hl : PE X l tl) : PI X tg l (iList K tl) := h ▸ pi_list hl
theorem kiTup {tg l : Expr} {tl : TE} (h : X.K = K) (hl : PE X l tl) : PI X tg l (iTup K tl) := h ▸ pi_tup hl
theorem kiEnum {e : Expr} {ta : TA} {p pos tpos : Pos} {elts : List Expr} {kk : Nat} (h : X.K = K) (hg : Gl X "enumerate") (hm : X.mg "enumerate" = none) (ha : PA X [e] ta) (hs : starEach [e] X.env = [(false, eval e X.env)] := by rfl) :
    PI X (.Tuple elts kk tpos) (.Call (.Name "enumerate" p) [e] [] pos) (iEnum K ta) := h ▸ pi_enum hg hm ha hs
theorem kiZip {e e2 : Expr} {ta : TA} {p pos tpos : Pos} {elts : List Expr} {kk : Nat} (h : X.K = K) (hg : Gl X "zip") (hm : X.mg "zip" = none) (ha : PA X [e, e2] ta)
    (hs : starEach [e, e2] X.env = (false, eval e X.env) :: starEach [e2] X.env := by rfl) (hpl : (backTo pos (starEach [e2] X.env)).any (·.1) = false := by rfl) :
    PI X (.Tuple elts kk tpos) (.Call (.Name "zip" p) [e, e2] [] pos) (iZipA K ta) := h ▸ pi_zipA hg hm ha hs hpl
theorem kApp {o e : Expr} {es : List Expr} {to : TE} {t : TA} {apos cpos : Pos} (h : X.K = K) (ho : PE X o to) (ha : PA X (e :: es) t)
    (hbase : attributeBase o "append" X.env (eval o X.env) = eval o X.env := by rfl)
    (hfew : ((backTo cpos (starEach (e :: es) X.env)).all (fun x => !x.1) && (backToKw cpos (keywordEach [] X.env)).all (fun x => x.1.isSome)
      && decide ((e :: es).length + ([] : List Keyword).length + (if ([] : List Keyword).isEmpty then 0 else 1) < 30)) = true := by rfl)
    (hline : (apos.endLine == cpos.line) = true := by rfl) (hs : starEach (e :: es) X.env = (false, eval e X.env) :: starEach es X.env := by rfl) (hplain : (backTo cpos (starEach es X.env)).any (·.1) = false := by rfl) :
    PE X (.Call (.Attribute o "append" apos) (e :: es) [] cpos) (tBM K "list" rAppend to t) :=
  h ▸ pe_bm PySem.F.plainAttrs_list PySem.F.slot_list_append PySem.F.type_list_append mt_append ho ha hbase hfew hline hs hplain
end
section
variable {K : Fg} {E : SX} {F : Fr} {σ : L2.St} {H0 H : Hp} {ρ ρ' : List Sl}
theorem walk_zipT {a b : Addr} {xs ys : List V} {n : Nat} (hn : n = min xs.length ys.length) : Walk (ItzT K a b) n (fun H => SqT K H a xs ∧ SqT K H b ys) (YPair (fun i => xs[i]?) (fun i => ys[i]?)) := by
  subst hn
  refine ⟨fun i _ hi q => ?_, fun _ q => ⟨xs, ys, q.1, q.2, by omega⟩, fun i H v H' _ q y => ?_⟩
  · have h1 : i < xs.length := by omega
    have h2 : i < ys.length := by omega
    exact ⟨xs, ys, xs[i], ys[i], q.1, q.2, by simp [h1], by simp [h2]⟩
  · obtain ⟨T, x, z, h1, h2, h3, h4, h5⟩ := y
    exact ⟨T, x, z, h1, h2, h3, h4 xs q.1, h5 ys q.2⟩
theorem zipD_get {ds es : List Dt} {i : Nat} {d e : Dt} (h1 : ds[i]? = some d) (h2 : es[i]? = some e) : (zipD ds es)[i]? = some (.tup [d, e]) := by
  unfold zipD
  rw [List.getElem?_zipWith, h1, h2]
instance sIZip {ta : TA} {f : M (List Dt)} [A : SimA K E ta f] : SimI K E (iZipA K ta) (fRg zp1 f) where
  run := fun F σ H0 H ρ r ρ' Q R e h => by
    refine A.bind R e h.hx fun c ρ1 v H1 H' e1 s1 R1 rd1 => ?_
    obtain ⟨ds, es, rfl, rfl⟩ := mO_inv e1
    unfold zp1 at es
    split at es
    · rename_i d1 d2
      cases es
      obtain ⟨v, u, rfl, hv, hu⟩ := rd1.two
      obtain ⟨a, xs, rfl, h1, h2⟩ := hv.lst_inv
      obtain ⟨b, ys, rfl, h3, h4⟩ := hu.lst_inv
      have hl : (zipD d1 d2).length = min xs.length ys.length := by rw [h2.length, h4.length]; simp [zipD]
      refine ⟨a, b, xs, ys, rfl, .inl ⟨.inl (.inl (R1.s2 _ _ h1)), .inl (.inl (R1.s2 _ _ h3)), h _ H1 H' s1 R1 (walkD_pair (walk_zip (K := K) (a := a) (b := b) hl) (fun H' s => ⟨(SqL.of (K := K) (s _ _ h1) : SqL K H' a xs), (SqL.of (K := K) (s _ _ h3) : SqL K H' b ys)⟩) fun i x y hi ex ey => ?_)⟩⟩
      obtain ⟨d, ed, rd⟩ := h2.getV ex
      obtain ⟨e, ee, re⟩ := h4.getV ey
      exact ⟨d, e, zipD_get ed ee, rd, re⟩
    · rename_i d1 d2
      cases es
      obtain ⟨v, u, rfl, hv, hu⟩ := rd1.two
      obtain ⟨a, xs, rfl, h1, h2⟩ := hv.tup_inv
      obtain ⟨b, ys, rfl, h3, h4⟩ := hu.tup_inv
      have hl : (zipD d1 d2).length = min xs.length ys.length := by rw [h2.length, h4.length]; simp [zipD]
      refine ⟨a, b, xs, ys, rfl, .inr ⟨sqT_mono R1.s2 h1, sqT_mono R1.s2 h3, h _ H1 H' s1 R1 (walkD_pair (walk_zipT (K := K) (a := a) (b := b) hl) (fun H' s => ⟨sqT_mono s h1, sqT_mono s h3⟩) fun i x y hi ex ey => ?_)⟩⟩
      obtain ⟨d, ed, rd⟩ := h2.getV ex
      obtain ⟨e, ee, re⟩ := h4.getV ey
      exact ⟨d, e, zipD_get ed ee, rd, re⟩
    · cases es
end
def pin0 : Nat → Bool := fun i => decide (i = 0)
def pinN : Nat → Bool := fun _ => false
end DL

end
section
set_option Elab.async false
set_option linter.all false
set_option maxRecDepth 100000
set_option maxHeartbeats 4000000
/-! E1: enumerate over a tuple. -/
namespace DL
open PySem PySem.Spec L2
theorem new_enum1 {v : Value} {o : Obj} {Hq : Heap → Prop} (B : Begins v o Hq) :
    Meets (Builtin.«enumerate.__new__» ⟨[.type "enumerate", v], []⟩) (fun _ R s => Hq s.heap ∧ R (.ok (.ret (.ref (s.heap.push o).objs.size)))
      { s with heap := (s.heap.push o).push { cls := .type "enumerate", data := .fields #[.none, .bool false, .ref s.heap.objs.size, rawInt 0, .none, .none] } }) :=
  .of_wp fun prog w A R s h => by
    obtain ⟨hp, g, d, tk, os⟩ := s
    obtain ⟨hq0, hR⟩ := h
    have hsub := sub_enumerate
    have it1 : ∀ {A' : Around} {E : Value → Shared → Prop} {Q : Value → Shared → Prop}, Q (.ref hp.objs.size) ⟨hp.push o, g, d, tk, os⟩ → wpAny (model prog w) A' (pyIter v) Q E ⟨hp, g, d, tk, os⟩ :=
      fun q => B.iter prog w _ _ ⟨hp, g, d, tk, os⟩ _ hq0 q
    wp_walk using it1
    refine wpAny_stack_any fun st => wpAny_pure ?_
    split
    · rename_i cc _ _ _ _ _
      cases (cc == Value.type "enumerate") <;> (wp_walk using it1; exact ⟨_, rfl, hR⟩)
    · wp_walk using it1
      exact ⟨_, rfl, hR⟩
section
variable {prog : Program} {w : World} {A : Around} {E : Value → Shared → Prop} {s : Shared}
theorem call_enum1 {v : Value} {o : Obj} {Hq : Heap → Prop} {Q : Value → Shared → Prop} (B : Begins v o Hq) (h0 : Hq s.heap)
    (h : ∀ h', IsEnum h' (s.heap.objs.size + 1) s.heap.objs.size 0 .none → h'.get? s.heap.objs.size = some o → (∀ b u, s.heap.get? b = some u → h'.get? b = some u) → Q (.ref (s.heap.objs.size + 1)) { s with heap := h' }) :
    wpAny (model prog w) A (call (.type "enumerate") [v]) Q E s := by
  refine callType_new F.called_enumerate (by decide) (F.typeCall_enumerate_1 _) (F.newCall_enumerate_1 _) (fun obj => F.args_object_init_2 obj _) F.entry_enumerate_new (new_enum1 B) ⟨h0, ?_⟩
  have sz : (s.heap.push o).objs.size = s.heap.objs.size + 1 := Heap.size_push ..
  show _ ∧ _
  rw [sz]
  have en : IsEnum ((s.heap.push o).push { cls := .type "enumerate", data := .fields #[.none, .bool false, .ref s.heap.objs.size, rawInt 0, .none, .none] }) (s.heap.objs.size + 1) s.heap.objs.size 0 .none := by
    have q := Heap.get?_push_size (s.heap.push o) (o := { cls := .type "enumerate", data := .fields #[.none, .bool false, .ref s.heap.objs.size, rawInt 0, .none, .none] }) rfl
    rw [sz] at q
    exact q
  exact ⟨⟨_, en, rfl⟩, h _ en (Heap.get?_push_of_some _ (Heap.get?_push_size _ B.free)) fun b u x => Heap.get?_push_of_some _ (Heap.get?_push_of_some _ x)⟩
end
/-- the tuple at a, each item in a new pair with its place -/
def IteT (K : Fg) (a : Addr) : It :=
  ⟨fun i H => ∃ (xs : List V) (x : V), SqT K H a xs ∧ xs[i]? = some x, fun i H v H' => ∃ T x, v = .ref T ∧ H T = none ∧ H' = upd H T (.tup [.int (i : Nat), x]) ∧ ∀ xs, SqT K H a xs → xs[i]? = some x,
    fun i H => ∃ xs : List V, SqT K H a xs ∧ xs.length = i⟩
theorem turn_enumT {P : Program} {w : World} {K : Fg} {elts : List Expr} {kk : Nat} {tpos : Pos} (a e it : Addr) :
    Turn P w K (.Tuple elts kk tpos) (IteT K a) [e, it] e (fun i h => (∃ old, IsEnum h e it ((i : Nat) : Int) old) ∧ h.IsTupleIter it a i ∧ e ≠ it) where
  mem := by simp
  obj := fun i h st b hb => by
    obtain ⟨⟨old, he⟩, ⟨o, ho, hc, hd⟩, _⟩ := st
    have hb' : b = e ∨ b = it := by simpa using hb
    rcases hb' with z | z
    · subst z
      exact ⟨_, he, fun v q => nomatch q⟩
    · subst z
      exact ⟨o, ho, fun v q => by rw [hd] at q; cases q⟩
  keep := fun i h h' st k => by
    obtain ⟨⟨old, he⟩, hi, hne⟩ := st
    exact ⟨⟨old, k e (by simp) _ he⟩, hi.at fun o q => k it (by simp) o q, hne⟩
  item := by
    intro X hP hw hK hc i pins s σ H E I hf st hg
    subst hP hw hK
    obtain ⟨⟨old, he⟩, hit, hne⟩ := st
    obtain ⟨xs, x, hq, hx⟩ := hg
    obtain ⟨its, rv, pt, hz⟩ := I.tuple hq
    obtain ⟨u, hu, ru⟩ := rv.get hx
    have hel : e < s.heap.objs.size := Heap.lt_size he
    have hil : it < s.heap.objs.size := by obtain ⟨_, q, _⟩ := hit; exact Heap.lt_size q
    have hat : a ≠ it := by
      rintro rfl
      obtain ⟨o1, h1, h2, _⟩ := hit
      obtain ⟨o2, h3, h4, _⟩ := id pt
      rw [h1] at h3; cases h3
      rw [h2] at h4
      exact absurd (Value.type.inj h4) (by decide)
    have hae : a ≠ e := by
      rintro rfl
      obtain ⟨o2, h3, h4, _⟩ := id pt
      rw [show s.heap.get? a = _ from he] at h3; cases h3
      exact absurd (Value.type.inj h4) (by decide)
    have hlt : i < its.toArray.size := by
      have := (List.getElem?_eq_some_iff.mp hu).1
      simpa using this
    have pt' : s.heap.IsTuple a its.toArray := by
      obtain ⟨o, h1, h2, n, h3⟩ := id pt
      exact ⟨o, h1, h2, n, h3⟩
    refine wpAny_pyNext_enum_itemD (Draws.tuple (show X.A.in1.handled = none from I.ok.hd hc) it a hat its.toArray) he ⟨hit, pt'⟩ hlt hne (by simp [hne, Ne.symm hae]) fun y h' tk hy ho hst hT hsz hk => ?_
    have eu : y = u := by
      have : its.toArray[i]? = some u := by simpa using hu
      rw [this] at hy; exact (Option.some.inj hy).symm
    subst eu
    refine ⟨_, rfl, wpAny_letOwnedTupleGo_enum (s := { s with heap := h', toks := tk + 1 }) ho fun h'' he' sb => ?_⟩
    have hT2 : h''.get? s.heap.objs.size = some { cls := .type "tuple", data := .seq #[.int i tk, y] } := (sb.2 _ (Nat.ne_of_gt hel)).trans hT
    have new : ObjOk X.prog X.w (upd H s.heap.objs.size (.tup [.int (i : Nat), x])) h'' s.heap.objs.size (.tup [.int (i : Nat), x]) :=
      ⟨by show 2 ≤ sizeLine; decide, [.int i tk, y], .cons ⟨_, rfl⟩ (.cons ru .nil), ⟨_, hT2, rfl, _, rfl⟩⟩
    have J : Inv X pins σ (upd H s.heap.objs.size (.tup [.int (i : Nat), x])) { s with heap := h'', toks := tk + 1 } :=
      I.turnedNew (ch := [e, it]) (fun b ob hb q => (sb.2 b (fun z => hb (by simp [z]))).trans (hk b ob (fun z => hb (by simp [z])) (fun z => hb (by simp [z])) q)) hf (Nat.le_refl _) new
    refine ⟨.ref s.heap.objs.size, _, J, rfl, ⟨_, x, rfl, I.hok.fresh (Nat.le_refl _), rfl, fun l hl => by rw [I.tuple_inj hl hq]; exact hx⟩, ⟨⟨y, ?_⟩, hst.1.at fun o q => (sb.2 it (Ne.symm hne)).trans q, hne⟩, fun b hb => ?_⟩
    · rw [show ((i + 1 : Nat) : Int) = (i : Int) + 1 by omega]
      exact he'
    · have hb' : b = e ∨ b = it := by simpa using hb
      have blt : b < s.heap.objs.size := by
        rcases hb' with z | z
        · rw [z]; exact hel
        · rw [z]; exact hil
      rw [upd_ne (Nat.ne_of_lt blt)]
      exact (hf b hb).1
  done := by
    intro X hP hw hK hc i pins s σ H E I hf st hg
    subst hP hw hK
    obtain ⟨⟨old, he⟩, hit, hne⟩ := st
    obtain ⟨xs, hq, hx⟩ := hg
    obtain ⟨its, rv, pt, hz⟩ := I.tuple hq
    have hat : a ≠ it := by
      rintro rfl
      obtain ⟨o1, h1, h2, _⟩ := hit
      obtain ⟨o2, h3, h4, _⟩ := id pt
      rw [h1] at h3; cases h3
      rw [h2] at h4
      exact absurd (Value.type.inj h4) (by decide)
    have pt' : s.heap.IsTuple a its.toArray := by
      obtain ⟨o, h1, h2, n, h3⟩ := id pt
      exact ⟨o, h1, h2, n, h3⟩
    have hl : its.toArray.size = i := by
      have := rv.length
      simp; omega
    subst hl
    obtain ⟨f0, f1, f2, f3, f4, f5⟩ := hf it (by simp)
    exact wpAny_pyNext_enum_endD (Draws.tuple (show X.A.in1.handled = none from I.ok.hd hc) it a hat its.toArray) he ⟨hit, pt'⟩ fun h' eb => ⟨rfl, I.turned (t' := s.toks) (fun b o hb q => eb b o hb q) f0 f1 f3 f4 f5⟩
  self := fun A i s Q E st h => by
    obtain ⟨⟨_, he⟩, _⟩ := st
    exact wpAny_pyIter_enum he h
/-- enumerate(e), e a list or a tuple -/
def iEnumU (K : Fg) (ta : TA) : TI := fun σ H R => ta σ H fun vs H1 => ∃ a xs, vs = [.ref a] ∧ ((SqL K H1 a xs ∧ R (Ite K a) H1) ∨ (SqT K H1 a xs ∧ R (IteT K a) H1))
theorem kiEnumU {X : Cx} {K : Fg} {e : Expr} {ta : TA} {p pos tpos : Pos} {elts : List Expr} {kk : Nat} (hK : X.K = K) (hg : Gl X "enumerate") (hm : X.mg "enumerate" = none) (ha : PA X [e] ta) (hs : starEach [e] X.env = [(false, eval e X.env)] := by rfl) :
    PI X (.Tuple elts kk tpos) (.Call (.Name "enumerate" p) [e] [] pos) (iEnumU K ta) := by
  subst hK
  refine ⟨fun pins s σ H R I h => ?_⟩
  refine PyProof.Rows.Call_ (ld_blt I hg hm PyProof.Rows.boot_enumerate (PyProof.Rows.callWith_type1 (thn (ha.run pos pins s σ H _ I h) fun us s1 ⟨vs, H1, I1, r1, q1⟩ => ?_) hs rfl))
  obtain ⟨a, xs, rfl, q⟩ := q1
  obtain ⟨u, rfl, ru⟩ := r1.one
  cases ru
  have apart : ∀ b ∈ [s1.heap.objs.size + 1, s1.heap.objs.size], FpOk X pins H1 b := fun b hb => by
    have hle : s1.heap.objs.size ≤ b := by
      have hb' : b = s1.heap.objs.size + 1 ∨ b = s1.heap.objs.size := by simpa using hb
      rcases hb' with z | z
      · rw [z]; exact Nat.le_succ _
      · rw [z]; exact Nat.le_refl _
    exact I1.fpOk hle (I1.hok.fresh hle)
  rcases q with ⟨hq, q⟩ | ⟨hq, q⟩
  · obtain ⟨its, rv, pl, hz⟩ := I1.list hq
    refine call_enum1 (begins_list a its.toArray) pl.isList fun h' he hit hk => wpAny_pyIter_enum he ?_
    exact ⟨_, _, _, _, H1, rfl, I1.kept (t' := s1.toks) hk, turn_enum a (s1.heap.objs.size + 1) s1.heap.objs.size, ⟨⟨.none, he⟩, ⟨_, hit, rfl, rfl⟩, Nat.succ_ne_self _⟩, apart, q⟩
  · obtain ⟨its, rv, pt, hz⟩ := I1.tuple hq
    have pt' : s1.heap.IsTuple a its.toArray := by
      obtain ⟨o, h1, h2, n, h3⟩ := id pt
      exact ⟨o, h1, h2, n, h3⟩
    refine call_enum1 (begins_tuple a its.toArray) pt' fun h' he hit hk => wpAny_pyIter_enum he ?_
    exact ⟨_, _, _, _, H1, rfl, I1.kept (t' := s1.toks) hk, turn_enumT a (s1.heap.objs.size + 1) s1.heap.objs.size, ⟨⟨.none, he⟩, ⟨_, hit, rfl, rfl⟩, Nat.succ_ne_self _⟩, apart, q⟩
section
variable {K : Fg} {E : SX} {a : Addr} {xs : List V}
theorem walk_enumT : Walk (IteT K a) xs.length (fun H => SqT K H a xs) (YPair (fun i => some (.int (i : Nat))) (fun i => xs[i]?)) := by
  refine ⟨fun i _ hi q => ⟨xs, xs[i], q, by simp [hi]⟩, fun _ q => ⟨xs, q, rfl⟩, fun i H v H' _ q y => ?_⟩
  obtain ⟨T, x, h1, h2, h3, h4⟩ := y
  exact ⟨T, .int (i : Nat), x, h1, h2, h3, rfl, h4 xs q⟩
def en2 : List Dt → Option (List Dt)
  | [.lst ds] => some (enumD ds)
  | [.tup ds] => some (enumD ds)
  | _ => none
instance sIEnumU {ta : TA} {f : M (List Dt)} [A : SimA K E ta f] : SimI K E (iEnumU K ta) (fRg en2 f) where
  run := fun F σ H0 H ρ r ρ' Q R e h => by
    refine A.bind R e h.hx fun c ρ1 v H1 H' e1 s1 R1 rd1 => ?_
    obtain ⟨ds, es, rfl, rfl⟩ := mO_inv e1
    unfold en2 at es
    split at es
    · rename_i es'
      cases es
      obtain ⟨v, rfl, hv⟩ := rd1.one
      obtain ⟨a, xs, rfl, h1, h2⟩ := hv.lst_inv
      have hl : (enumD es').length = xs.length := by rw [h2.length]; simp [enumD]
      refine ⟨a, xs, rfl, .inl ⟨.inl (.inl (R1.s2 _ _ h1)), h _ H1 H' s1 R1 (walkD_pair (by rw [hl]; exact walk_enum (xs := xs)) (fun H' s => (SqL.of (K := K) (s _ _ h1) : SqL K H' a xs)) fun i x y hi ex ey => ?_)⟩⟩
      obtain ⟨d, ed, rd⟩ := h2.getV ey
      cases ex
      exact ⟨.int (i : Nat), d, by rw [enumD_get, ed]; rfl, RD.int, rd⟩
    · rename_i es'
      cases es
      obtain ⟨v, rfl, hv⟩ := rd1.one
      obtain ⟨a, xs, rfl, h1, h2⟩ := hv.tup_inv
      have hl : (enumD es').length = xs.length := by rw [h2.length]; simp [enumD]
      refine ⟨a, xs, rfl, .inr ⟨sqT_mono R1.s2 h1, h _ H1 H' s1 R1 (walkD_pair (by rw [hl]; exact walk_enumT (K := K) (a := a) (xs := xs)) (fun H' s => sqT_mono s h1) fun i x y hi ex ey => ?_)⟩⟩
      obtain ⟨d, ed, rd⟩ := h2.getV ey
      cases ex
      exact ⟨.int (i : Nat), d, by rw [enumD_get, ed]; rfl, RD.int, rd⟩
    · cases es
end
end DL

end
section
set_option Elab.async false
set_option linter.all false
set_option maxRecDepth 100000
set_option maxHeartbeats 4000000
/-! E2: texts walked, dicts, two fors. -/
namespace DL
open PySem PySem.Spec L2
section
variable {K : Fg} {E : SX} {F : Fr} {pin : Nat → Bool} {σ σ2 : L2.St} {H0 H : Hp} {ρ ρ' : List Sl}
/-! ### a text, sign by sign -/
def signsD (x : Str) : List Dt := x.cps.toList.map fun c => .str ⟨#[c]⟩
def fIS (f : M Sl) : M (List Dt) := mB (vl f) fun d => match d with
  | .str x => mP (signsD x)
  | _ => fun _ => none
instance sIStr {te : TE} {f : M Sl} [A : SimE K E te f] : SimI K E (iStr te) (fIS f) where
  run := fun F σ H0 H ρ r ρ' Q R e h => by
    refine A.bindV R e h.hx fun c ρ1 v H1 H' e1 s1 R1 rd1 => ?_
    split at e1
    · rename_i x
      obtain ⟨rfl, rfl⟩ := mP_inv e1
      refine ⟨x, rd1.str_inv, h _ H1 H' s1 R1 ?_⟩
      have hl : (signsD x).length = x.cps.size := by simp [signsD]
      refine ⟨_, _, (by rw [hl]; exact walk_str (z := x)), fun H' s => trivial, fun i Hq y Hq' H0q hi q1 q2 yy => ?_⟩
      obtain ⟨rfl, c, hc, rfl⟩ := yy
      have hc' : x.cps.toList[i]? = some c := by rw [Array.getElem?_toList]; exact hc
      exact ⟨_, H0q, by unfold signsD; rw [List.getElem?_map, hc']; rfl, .refl q2, RD.str⟩
    · cases e1
/-! ### dicts -/
def keyD : Dt → Option Key
  | .int i => some (.inl i)
  | .str x => some (.inr x)
  | _ => none
theorem keyD_read {d : Dt} {v : V} {k : Key} (h : RD K H d v) (e : keyD d = some k) : v = kV k := by
  cases d <;> simp only [keyD, Option.some.injEq] at e <;> try cases e
  · rw [h.int_inv]; rfl
  · rw [h.str_inv]; rfl
def getD2 : List Key → List Dt → Key → Option Dt
  | k :: ks, d :: ds, x => if k = x then some d else getD2 ks ds x
  | _, _, _ => none
theorem getD2_read : ∀ {kvs : List (Key × V)} {ks : List Key} {ds : List Dt} {k : Key}, kvs.map (·.1) = ks → RDs K H ds (kvs.map (·.2)) →
    (∀ d, getD2 ks ds k = some d → ∃ v, valV kvs k = some v ∧ RD K H d v) ∧ (getD2 ks ds k = none → valV kvs k = none)
  | [], ks, ds, k, h1, h2 => by
    subst h1
    exact ⟨fun d e => by simp [getD2] at e, fun _ => rfl⟩
  | (n, v) :: kvs, ks, ds, k, h1, h2 => by
    subst h1
    cases ds with
    | nil => simp only [List.map_cons] at h2; exact nomatch RDs.nil_inv h2
    | cons d0 ds =>
      obtain ⟨v', r, e1, h3, h4⟩ := RDs.inv h2
      simp only [List.map_cons, List.cons.injEq] at e1
      obtain ⟨rfl, rfl⟩ := e1
      obtain ⟨i1, i2⟩ := getD2_read (k := k) rfl h4
      simp only [List.map_cons, getD2]
      by_cases hn : n = k
      · rw [if_pos hn]
        exact ⟨fun d e => by cases e; exact ⟨v, valV_pos hn, h3⟩, fun e => nomatch e⟩
      · rw [if_neg hn, valV_neg hn]
        exact ⟨i1, i2⟩
def gDGet (d e : Dt) : Option Dt := match d, keyD e with
  | .dct ks ds, some k => getD2 ks ds k
  | _, _ => none
/-- what a slot that holds a dict answers, given away or not -/
def dctOf : Dt → Option (List Key × List Dt)
  | .dct ks ds => some (ks, ds)
  | _ => none
theorem dctOf_inv {d : Dt} {p : List Key × List Dt} (h : dctOf d = some p) : d = .dct p.1 p.2 := by
  cases d <;> simp [dctOf] at h
  rw [← h]
def fDGet (fd fy : M Sl) : M Sl := mB (vl fd) fun d => mB (vl fy) fun y => mO ((gDGet d y).map Sl.val)
instance sDGet {td ty : TE} {fd fy : M Sl} [A : SimE K E td fd] [B : SimE K E ty fy] : SimE K E (tDGet td ty) (fDGet fd fy) where
  run := fun F σ H0 H ρ r ρ' Q R e h => by
    refine A.bindV R e h.hx fun c ρ1 v H1 H' e1 s1 R1 rd1 => ?_
    refine B.bindV R1 e1 (h.later s1).hx fun c2 ρ2 v2 H2 H'' e2 s2 R2 rd2 => ?_
    obtain ⟨s, es, rfl, rfl⟩ := mO_inv e2
    unfold gDGet at es
    split at es
    · rename_i ks ds k ek
      cases q : getD2 ks ds k with
      | none => rw [q] at es; cases es
      | some d =>
        rw [q] at es
        cases es
        obtain ⟨a, kvs, rfl, h1, h2, h3⟩ := (rd1.mono s2).dct_inv
        obtain ⟨u, eu, ru⟩ := (getD2_read h2 h3).1 d q
        refine ⟨a, u, rfl, ?_, h u H2 H'' (s1.trans s2) (R2.push ru)⟩
        rw [keyD_read rd2 ek, ← eu]
        exact DGet.k (R2.s2 _ _ h1)
    · cases es
def gDIn (d e : Dt) : Option Bool := match d, keyD e with
  | .dct ks ds, some k => some (getD2 ks ds k).isSome
  | _, _ => none
theorem gDIn_read {d e : Dt} {b : Bool} {x y : V} (rd : RD K H0 d x) (ry : RD K H0 e y) (s : Same H0 H) (h : gDIn d e = some b) : ∃ a o, x = .ref a ∧ DGet H a y o ∧ o.isSome = b := by
  unfold gDIn at h
  split at h
  · rename_i ks ds k ek
    cases h
    obtain ⟨a, kvs, rfl, h1, h2, h3⟩ := rd.dct_inv
    refine ⟨a, valV kvs k, rfl, ?_, ?_⟩
    · rw [keyD_read ry ek]; exact DGet.k (s _ _ h1)
    · obtain ⟨i1, i2⟩ := getD2_read (k := k) h2 h3
      cases q : getD2 ks ds k with
      | none => rw [i2 q]; rfl
      | some d => obtain ⟨v, ev, _⟩ := i1 d q; rw [ev]; rfl
  · cases h
def fDIn (neg : Bool) (fy fd : M Sl) : M Sl := mB (vl fy) fun y => mB (vl fd) fun d => mO ((gDIn d y).map fun b => .val (.bl (if neg then !b else b)))
instance sDIn {ty td : TE} {fy fd : M Sl} [B : SimE K E ty fy] [A : SimE K E td fd] : SimE K E (tDIn ty td) (fDIn false fy fd) where
  run := fun F σ H0 H ρ r ρ' Q R e h => by
    refine B.bindV R e h.hx fun c ρ1 v H1 H' e1 s1 R1 rd1 => ?_
    refine A.bindV R1 e1 (h.later s1).hx fun c2 ρ2 v2 H2 H'' e2 s2 R2 rd2 => ?_
    obtain ⟨s, es, rfl, rfl⟩ := mO_inv e2
    cases q : gDIn c2 c with
    | none => rw [q] at es; cases es
    | some b =>
      rw [q] at es
      cases es
      obtain ⟨a, o, e3, e4, e5⟩ := gDIn_read rd2 (rd1.mono s2) R2.s2 q
      exact ⟨a, o, e3, e4, by rw [e5]; exact h _ H2 H'' (s1.trans s2) (R2.push RD.bl)⟩
instance sDNotIn {ty td : TE} {fy fd : M Sl} [B : SimE K E ty fy] [A : SimE K E td fd] : SimE K E (tDNotIn ty td) (fDIn true fy fd) where
  run := fun F σ H0 H ρ r ρ' Q R e h => by
    refine B.bindV R e h.hx fun c ρ1 v H1 H' e1 s1 R1 rd1 => ?_
    refine A.bindV R1 e1 (h.later s1).hx fun c2 ρ2 v2 H2 H'' e2 s2 R2 rd2 => ?_
    obtain ⟨s, es, rfl, rfl⟩ := mO_inv e2
    cases q : gDIn c2 c with
    | none => rw [q] at es; cases es
    | some b =>
      rw [q] at es
      cases es
      obtain ⟨a, o, e3, e4, e5⟩ := gDIn_read rd2 (rd1.mono s2) R2.s2 q
      exact ⟨a, o, e3, e4, by rw [e5]; exact h _ H2 H'' (s1.trans s2) (R2.push RD.bl)⟩
def inKs (ks : List Key) (k : Key) : Bool := ks.any fun x => decide (x = k)
/-- d[k] = v, by the lists -/
def putKs (ks : List Key) (k : Key) : List Key := if inKs ks k then ks else ks ++ [k]
def repD : List Key → List Dt → Key → Dt → List Dt
  | k :: ks, d :: ds, x, y => (if k = x then y else d) :: repD ks ds x y
  | _, _, _, _ => []
def putDs (ks : List Key) (ds : List Dt) (k : Key) (d : Dt) : List Dt := if inKs ks k then repD ks ds k d else ds ++ [d]
theorem putK_read {kvs : List (Key × V)} {ks : List Key} {ds : List Dt} {k : Key} {d : Dt} {v : V} (h1 : kvs.map (·.1) = ks) (h2 : RDs K H ds (kvs.map (·.2))) (rv : RD K H d v) :
    (putK kvs k v).map (·.1) = putKs ks k ∧ RDs K H (putDs ks ds k d) ((putK kvs k v).map (·.2)) := by
  have hany : (kvs.any fun kv => decide (kv.1 = k)) = inKs ks k := by
    subst h1
    unfold inKs
    rw [List.any_map]
    rfl
  unfold putK putKs putDs
  rw [hany]
  cases hk : inKs ks k with
  | true =>
    rw [if_pos rfl, if_pos rfl, if_pos rfl]
    clear hany hk
    subst h1
    refine ⟨?_, ?_⟩
    · rw [List.map_map]
      apply List.map_congr_left
      intro p _
      simp only [Function.comp]
      split <;> rfl
    · induction kvs generalizing ds with
      | nil => rw [show ds = [] by cases ds with | nil => rfl | cons a b => exact nomatch (RDs.inv h2).choose_spec.choose_spec.1]; exact RDs.nil
      | cons p kvs ih =>
        cases ds with
        | nil => exact nomatch RDs.nil_inv h2
        | cons d0 ds =>
          obtain ⟨v', r, e1, h3, h4⟩ := RDs.inv h2
          simp only [List.map_cons, List.cons.injEq] at e1
          obtain ⟨rfl, rfl⟩ := e1
          simp only [List.map_cons, repD]
          refine RDs.cons ?_ (ih h4)
          split <;> assumption
  | false =>
    rw [if_neg Bool.false_ne_true, if_neg Bool.false_ne_true, if_neg Bool.false_ne_true]
    subst h1
    refine ⟨by simp, ?_⟩
    rw [List.map_append]
    exact h2.append (RDs.cons rv RDs.nil)
/-! ### {k: v for ..} -/
def dcM (T : Dt → Up) (t : M Bool) (ek ev : M Sl) (vs : List Nat) : List Dt → List Key × List Dt → List Sl → Option ((List Key × List Dt) × List Sl)
  | [], acc, ρ => some (acc, ρ)
  | d :: ds, acc, ρ => match T d (wipeR ρ vs) with
    | none => none
    | some ρ1 => match t ρ1 with
      | some (.ok true, ρ2) => match vl ek ρ2 with
        | some (.ok x, ρ3) => match vl ev ρ3 with
          | some (.ok y, ρ4) => match keyD x with
            | some k => if small acc.1.length then dcM T t ek ev vs ds (putKs acc.1 k, putDs acc.1 acc.2 k y) (wipeR ρ4 vs) else none
            | none => none
          | _ => none
        | _ => none
      | some (.ok false, ρ2) => dcM T t ek ev vs ds acc (wipeR ρ2 vs)
      | _ => none
def fDc (fi : M (List Dt)) (T : Dt → Up) (t : M Bool) (ek ev : M Sl) (vs : List Nat) : M Sl := mB fi fun ds ρ => match dcM T t ek ev vs ds ([], []) (wipeR ρ vs) with
  | some (acc, ρ') => some (.ok (.own (.dct acc.1 acc.2)), ρ')
  | none => none
theorem wipeR_len : ∀ (l : List Nat) (ρ : List Sl), (wipeR ρ l).length = ρ.length
  | [], _ => rfl
  | v :: l, ρ => by unfold wipeR; rw [List.length_set, wipeR_len l ρ]
theorem wipeR_out : ∀ {l : List Nat} {ρ : List Sl} {i : Nat}, i ∉ l → (wipeR ρ l)[i]? = ρ[i]?
  | [], _, _, _ => rfl
  | v :: l, ρ, i, h => by
    simp only [List.mem_cons, not_or] at h
    unfold wipeR
    rw [List.getElem?_set_ne (fun z => h.1 z.symm)]
    exact wipeR_out h.2
theorem wipeR_in : ∀ {l : List Nat} {ρ : List Sl} {i : Nat}, i ∈ l → (wipeR ρ l)[i]? = if i < ρ.length then some .un else none
  | [], _, _, h => absurd h (by simp)
  | v :: l, ρ, i, h => by
    unfold wipeR
    rw [List.getElem?_set, wipeR_len]
    by_cases hv : v = i
    · rw [if_pos hv]; subst hv; rfl
    · rw [if_neg hv]; exact wipeR_in ((List.mem_cons.mp h).resolve_left (fun z => hv z.symm))
theorem wipeR_twice {l : List Nat} {ρ : List Sl} : wipeR (wipeR ρ l) l = wipeR ρ l := by
  apply List.ext_getElem?
  intro i
  by_cases hi : i ∈ l
  · rw [wipeR_in hi, wipeR_in hi, wipeR_len]
  · rw [wipeR_out hi]
/-- the slots of a block, seen from around it -/
theorem Rep.clean {vs : List Nat} (R : Rep K F σ H0 H ρ) : Rep K F σ H0 H (wipeR ρ vs) := by
  have := (R.wipe vs).unwipe wipe_wipe
  rwa [wipeR_twice] at this
theorem not_own_wipe {D : Addr} {vs : List Nat} (h : D ∉ owns σ ρ) : D ∉ owns (L2.wipe σ vs) (wipeR ρ vs) := fun hm => by
  obtain ⟨j, o, h1, h2⟩ := mem_owns.mp hm
  have hj : j ∉ vs := wipeR_some h1 (fun z => nomatch z)
  rw [wipe_get hj] at h2
  rw [wipeR_out hj] at h1
  exact h (mem_owns.mpr ⟨j, o, h1, h2⟩)
theorem not_own_clean {D : Addr} {vs : List Nat} (h : D ∉ owns σ ρ) : D ∉ owns σ (wipeR ρ vs) := fun hm => by
  obtain ⟨j, o, h1, h2⟩ := mem_owns.mp hm
  have hj : j ∉ vs := wipeR_some h1 (fun z => nomatch z)
  rw [wipeR_out hj] at h1
  exact h (mem_owns.mpr ⟨j, o, h1, h2⟩)
/-- behind a run that began where D stood apart, D is still apart -/
theorem still_apart {D : Addr} {x : HO} {σ0 σ1 : L2.St} {ρ0 ρ1 : List Sl} {H0' H' : Hp} (S : Rep K (DL.snap σ0 H0 H ρ0) σ1 H0' H' ρ1) (hD : H D = some x) (hn : D ∉ owns σ0 ρ0) : D ∉ owns σ1 ρ1 := fun hm => by
  obtain ⟨j, o, h1, h2⟩ := mem_owns.mp hm
  obtain ⟨a, e4, n4, q4, r4⟩ := S.own j o h1
  rw [h2] at e4
  cases e4
  rcases q4 with q4 | q4
  · exact nomatch (hD.symm.trans q4 : some x = none)
  · exact hn q4
instance sDc {wi : TI} {g : TG} {tt : TT} {tk tv : TE} {vs : List Nat} {fi : M (List Dt)} {T : Dt → Up} {t : M Bool} {ek ev : M Sl} [I : SimI K E wi fi] [G : SimG K (notIn vs) g T] [C : SimT K E tt t] [A : SimE K E tk ek] [B : SimE K E tv ev] :
    SimE K E (tDc wi g tt tk tv vs) (fDc fi T t ek ev vs) where
  run := fun F σ H0 H ρ r ρ' Q R e0 h => by
    rcases mB_inv e0 with ⟨ds, ρ1, e1, e2⟩ | ⟨C, ns, ds, e1, rfl⟩
    · refine I.run F σ H0 H ρ _ _ _ R e1 fun J H1 H' s1 R1 w => ?_
      cases q : dcM T t ek ev vs ds ([], []) (wipeR ρ1 vs) with
      | none => simp only [q] at e2; cases e2
      | some p =>
        obtain ⟨accF, ρF⟩ := p
        simp only [q, Option.some.injEq, Prod.mk.injEq] at e2
        obtain ⟨rfl, rfl⟩ := e2
        obtain ⟨Gd, Y, W, hG, hY⟩ := w
        intro D hD
        have hD1 : H1 D = none := same_none R1.s2 hD
        have hFD : F.He D = none := R1.fresh hD
        refine ⟨fun i m Hq => (m = ds.length - i ∧ i ≤ ds.length ∧ ∃ H0q ρq acc kvs, Same H1 H0q ∧ Rep K F σ H0q Hq ρq ∧ D ∉ owns σ ρq ∧ H0q D = none ∧ Hq D = some (.dK kvs) ∧ kvs.map (·.1) = acc.1 ∧ RDs K H0q acc.2 (kvs.map (·.2)) ∧
            dcM T t ek ev vs (ds.drop i) acc ρq = some (accF, ρF)), ⟨ds.length, rfl, Nat.zero_le _, H1, wipeR ρ1 vs, ([], []), [], Same.refl _, R1.clean.grow (.side R1.s2 hD), ?_, hD1, upd_same, rfl, RDs.nil, by simpa using q⟩, ?_⟩
        · exact not_own_clean (R1.notOwn hD)
        rintro i m Hq ⟨hm, hi, H0q, ρq, acc, kvs, sq, Rq, no, hD0, hDq, hk, ra, eq⟩
        by_cases hlt : i < ds.length
        · refine Or.inr ⟨W.goes i Hq hlt (hG Hq (sq.trans Rq.s2)), fun Hn => ∃ H0q ρq acc kvs, Same H1 H0q ∧ Rep K F σ H0q Hn ρq ∧ D ∉ owns σ ρq ∧ H0q D = none ∧ Hn D = some (.dK kvs) ∧ kvs.map (·.1) = acc.1 ∧ RDs K H0q acc.2 (kvs.map (·.2)) ∧
            dcM T t ek ev vs (ds.drop (i + 1)) acc ρq = some (accF, ρF), fun Hn hn => ⟨ds.length - (i + 1), by omega, rfl, hlt, hn⟩, fun x Hq' y0 => ?_⟩
          have y := W.yields i Hq x Hq' hlt (hG Hq (sq.trans Rq.s2)) y0
          obtain ⟨d, H0n, ed, gr, rd⟩ := hY i Hq x Hq' H0q hlt sq Rq.s2 y
          have Rn := Rq.grow gr
          have hDn : Hq' D = some (.dK kvs) := gr.g2 _ _ hDq
          have hD0n : H0n D = none := gr.g4 D (by rw [hDq]; exact fun z => nomatch z) hD0
          rw [List.drop_eq_getElem_cons hlt] at eq
          have ed' : ds[i] = d := by
            rw [List.getElem?_eq_getElem hlt] at ed
            exact Option.some.inj ed
          rw [ed'] at eq
          unfold dcM at eq
          have Rw := Rn.wipe vs
          have no0 := not_own_wipe (vs := vs) no
          cases qT : T d (wipeR ρq vs) with
          | none => rw [qT] at eq; cases eq
          | some ρ2 =>
            simp only [qT] at eq
            refine G.run (DL.snap (L2.wipe σ vs) H0n Hq' (wipeR ρq vs)) (L2.wipe σ vs) H0n Hq' (wipeR ρq vs) ρ2 d x _ Rw.snap rd qT fun σ2 H2 H2' s2 p2 R2 => ?_
            have ew : L2.wipe σ2 vs = L2.wipe σ vs := by
              rw [← wipe_wipe (σ := σ)]
              exact wipe_eq p2.1 fun j hj => p2.2 j (by simp [notIn, hj])
            refine ⟨ew, ?_⟩
            have sa : Same H1 H2 := (sq.trans gr.g1).trans s2
            cases qt : t ρ2 with
            | none => rw [qt] at eq; cases eq
            | some pt =>
              obtain ⟨rt, ρ3⟩ := pt
              rw [qt] at eq
              cases rt with
              | ex C ns ds' => cases eq
              | ok b =>
                refine C.run _ σ2 H2 H2' ρ2 _ _ _ R2 qt fun H3 H3' s3 R3 => ?_
                cases b with
                | false =>
                  simp only [Bool.false_eq_true, if_false] at eq ⊢
                  obtain ⟨z1, z2⟩ := R3.side hDn hD0n no0
                  exact ⟨H3, wipeR ρ3 vs, acc, kvs, sa.trans s3, (Rw.back R3).unwipe ew, still_apart (R3.unwipe ew) hDn no0, z2, z1, hk, ra.mono ((gr.g1.trans s2).trans s3), eq⟩
                | true =>
                  simp only [if_true] at eq ⊢
                  cases qe : vl ek ρ3 with
                  | none => rw [qe] at eq; cases eq
                  | some pe =>
                    obtain ⟨re, ρ4⟩ := pe
                    rw [qe] at eq
                    cases re with
                    | ex C ns ds' => cases eq
                    | ok xx =>
                      simp only at eq
                      refine A.runV R3 qe fun v H4 H4' s4 R4 rd4 => ?_
                      cases qv : vl ev ρ4 with
                      | none => rw [qv] at eq; cases eq
                      | some pv =>
                        obtain ⟨rv, ρ5⟩ := pv
                        rw [qv] at eq
                        cases rv with
                        | ex C ns ds' => cases eq
                        | ok yy =>
                          simp only at eq
                          refine B.runV R4 qv fun v2 H5 H5' s5 R5 rd5 => ?_
                          cases qk : keyD xx with
                          | none => rw [qk] at eq; cases eq
                          | some k =>
                            simp only [qk] at eq
                            split at eq
                            · rename_i hsm
                              obtain ⟨z1, z2⟩ := R5.side hDn hD0n no0
                              have hno5 := still_apart (R5.unwipe ew) hDn no0
                              have ra5 : RDs K H5 acc.2 (kvs.map (·.2)) := ra.mono ((((gr.g1.trans s2).trans s3).trans s4).trans s5)
                              obtain ⟨k1, k2⟩ := putK_read (k := k) hk ra5 rd5
                              have hlen : kvs.length = acc.1.length := by rw [← hk]; simp
                              refine ⟨kvs, k, keyD_read rd4 qk, z1, by rw [hlen]; exact small_lt hsm, H5, wipeR ρ5 vs, (putKs acc.1 k, putDs acc.1 acc.2 k yy), putK kvs k v2, ((sa.trans s3).trans s4).trans s5, ?_, hno5, z2, upd_same, k1, k2, eq⟩
                              have Z2 : Rep K F σ H5 H5' (wipeR ρ5 vs) := (Rw.back R5).unwipe ew
                              have Z3 : Rep K F (some (.ref D) :: σ) H5 H5' (.own (.dct acc.1 acc.2) :: wipeR ρ5 vs) :=
                                Z2.pushOwn z2 (.inl hFD) ⟨kvs, z1, hk, ra5⟩ fun j o h1 h2 => hno5 (mem_owns.mpr ⟨j, o, h1, h2⟩)
                              exact (Z3.write (i := 0) (o' := .dct (putKs acc.1 k) (putDs acc.1 acc.2 k yy)) rfl rfl ⟨putK kvs k v2, upd_same, k1, k2⟩).pop
                            · cases eq
        · have ei : i = ds.length := by omega
          subst ei
          rw [List.drop_length] at eq
          unfold dcM at eq
          simp only [Option.some.injEq, Prod.mk.injEq] at eq
          obtain ⟨rfl, rfl⟩ := eq
          exact Or.inl ⟨W.stops Hq (hG Hq (sq.trans Rq.s2)), h _ H0q Hq (s1.trans sq) (Rq.pushOwn hD0 (.inl hFD) ⟨kvs, hDq, hk, ra⟩ fun j o h1 h2 => no (mem_owns.mpr ⟨j, o, h1, h2⟩))⟩
    · exact I.run F σ H0 H ρ _ _ _ R e1 (h.hx C ns ds rfl)
end
end DL

end
section
set_option Elab.async false
set_option linter.all false
set_option maxRecDepth 100000
set_option maxHeartbeats 4000000
/-! F1: defs that are called where no display is under way (so that they may show data). -/
namespace DL
open PySem PySem.Spec L2 PyProof.Rows
/-- room, and no display under way -/
structure Rm (k : Nat) (A : Around) : Prop where
  r : Room k A
  g : A.guards = some []
theorem Rm.mono {j k : Nat} {A : Around} (h : Rm k A) (l : j ≤ k) : Rm j A := ⟨h.r.mono l, h.g⟩
theorem Rm.body {k : Nat} {A : Around} (h : Rm (k + 1) A) (e : Env) : Rm k (A.deeper e) := ⟨h.r.deeper e, h.g⟩
theorem Rm.made {k : Nat} {A : Around} (h : Rm (k + 1) A) (C : Addr) (us : List Value) (kw : List (Str × Value)) : Rm k (A.under (.builtin "type.__call__" ⟨.ref C :: us, kw⟩)) := by
  refine ⟨h.r.make C us kw, ?_⟩
  have : (Code.builtin "type.__call__" ⟨.ref C :: us, kw⟩).guards = [] := by
    unfold Code.guards
    rw [if_neg]
    show ¬ (guardIds.contains "type.__call__" = true)
    decide
  simp only [Around.under]
  rw [this]
  exact h.g
/-- a def's promise where no display is under way -/
structure GFn (P : Program) (w : World) (K : Fg) (mg : Str → Option Value) (base : Heap) (CX : CXT) (k : Nat) (f : Addr) (fd : FuncData) (ps : List Str) (sp : Sp) : Prop where
  arity : ∀ vs H Q E, sp vs H Q E → vs.length = ps.length
  go : ∀ {A : Around} {outer : List Env} {s : Shared} {H : Hp} {args : Args} {us : List Value} {vs : List V} {Q : VK} {E : XK}, Rm k A → Env0 P w K mg base A outer s H → BindsTo s fd args (ps.zip us) →
    Vals vs us → sp vs H Q E → codeAny (model P w) A (.call (.ref f) args) (CR CX outer P w H s Q E) s
section
variable {P : Program} {w : World} {K : Fg} {mg : Str → Option Value} {base : Heap} {CX : CXT} {j k : Nat} {f : Addr} {fd : FuncData} {ps : List Str} {sp sp' : Sp}
theorem GFn.ofOk (h : FnOk P w K mg base CX k f fd ps sp) : GFn P w K mg base CX k f fd ps sp := ⟨h.len, fun r => h.run _ _ _ _ _ _ _ _ _ r.r⟩
theorem GFn.mono (h : GFn P w K mg base CX j f fd ps sp) (l : j ≤ k) : GFn P w K mg base CX k f fd ps sp := ⟨h.arity, fun r => h.go (r.mono l)⟩
theorem GFn.imp (h : GFn P w K mg base CX k f fd ps sp) (i : ∀ vs H Q E, sp' vs H Q E → sp vs H Q E) : GFn P w K mg base CX k f fd ps sp' :=
  ⟨fun vs H Q E q => h.arity vs H Q E (i _ _ _ _ q), fun r e b v q => h.go r e b v (i _ _ _ _ q)⟩
/-- how a body's end is the call's end -/
theorem ends_of {N : List Str} {qual : Str} {sc : Scope} {cdv : Value} {A : Around} {outer : List Env} {s t : Shared} {H : Hp} {E : XK} {Q : VK} {σ : L2.St} {H' : Hp} {v : V} {u : Value}
    (J : Inv (cxOf CX P w K mg base N qual sc f cdv A outer s H E) [] σ H' t) (r : RelV v u) (q : Q v H') : CE outer P w H s Q u t := ⟨v, H', J.os, J.bare, J.base, J.hok, r, q⟩
/-- a def of the text, by its body -/
theorem gfn_text {name qual : Str} {params : Arguments} {body : List Stmt} {sc : Scope} {dV kV doc pm cdv ct oc : Value} {an od : Option Addr} {osl : Array (Option Value)} {N : List Str}
    (lk : K.lookup f = some ⟨oc, od, .func (PySem.W.fnOf name qual params body sc dV kV doc pm an cdv ct), osl⟩) (cd : PySem.W.codeIn K cdv qual = true) (S : FnScope N ps sc) (ar : ∀ vs H Q E, sp vs H Q E → vs.length = ps.length)
    (bd : ∀ (A : Around) (outer : List Env) (s : Shared) (H : Hp) (vs : List V) (Q : VK) (E : XK), Rm k (A.deeper (envOfC qual sc s.heap.objs.size f cdv)) → sp vs H Q E →
      ∃ t, PSs (cxOf CX P w K mg base N qual sc f cdv A outer s H E) body t ∧ t ⟨fun _ H' => Q .non H', Q, fun _ _ => False, fun _ _ => False⟩ (start N vs) H) :
    GFn P w K mg base CX (k + 1) f (PySem.W.fnOf name qual params body sc dV kV doc pm an cdv ct) ps sp := by
  constructor
  · exact ar
  intro A outer s H args us vs Q E rm env bt rel prom
  have kin : K.In s.heap := env.mod.kin.keeps fun b o z => (env.bs b o z).1
  have nl : s.heap.NoLimit := env.mod.nolimit.keeps fun b o z => (env.bs b o z).1
  obtain ⟨t, run, wish⟩ := bd A outer s H vs Q E (rm.body _) prom
  refine codeAny_call_function rm.r.depth (kin _ _ lk) rfl S.co S.gen rfl (PySem.W.codeRec_of kin cd) (bt _ _ _ _ (wpAny_newFunctionEnv_cells S.kind (fun p hp => ?_) fun env' ee s1 ic => ?_))
  · have hp1 : p.1 ∈ ps := (List.of_mem_zip (show (p.1, p.2) ∈ ps.zip us from hp)).1
    exact (S.par p.1 hp1).elim .inl fun c => .inr ⟨c, PySem.W.cellsFrom_some _ _ _ (.inl c)⟩
  subst ee
  have start_ok := inv_start (CX := CX) (base := base) (E := E) S rm.r.hd env (ar _ _ _ _ prom) rel ic
  refine ⟨nl.keeps ic.toInCall.keep, codeAny_func (wpAny_mono (run.run [] s1 (start N vs) H _ start_ok wish) ?_ fun _ _ z => z)⟩
  rintro (_ | _ | _ | u) s2 z
  all_goals first
    | exact (let ⟨_, _, J, q⟩ := z; ends_of (v := V.non) (u := Value.none) J rfl q)
    | exact (let ⟨_, _, _, J, r, q⟩ := z; ends_of J r q)
    | exact (let ⟨_, _, _, q⟩ := z; q.elim)
theorem FunD.gfn {x qual : Str} {params : Arguments} {body : List Stmt} {sc : Scope} {dvs : List V} {kws : List (Str × V)} {N : List Str} (D : FunD K x qual params body sc dvs kws f fd) (S : FnScope N ps sc) (ar : ∀ vs H Q E, sp vs H Q E → vs.length = ps.length)
    (bd : ∀ (cdv : Value) (A : Around) (outer : List Env) (s : Shared) (H : Hp) (vs : List V) (Q : VK) (E : XK), Rm k (A.deeper (envOfC qual sc s.heap.objs.size f cdv)) → sp vs H Q E →
      ∃ t, PSs (cxOf CX P w K mg base N qual sc f cdv A outer s H E) body t ∧ t ⟨fun _ H' => Q .non H', Q, fun _ _ => False, fun _ _ => False⟩ (start N vs) H) : GFn P w K mg base CX (k + 1) f fd ps sp := by
  obtain ⟨_, _, _, _, _, _, _, cdv, _, _, rfl, l, c, _, _⟩ := D.ex
  exact gfn_text l c S ar fun A outer s H vs Q E => bd cdv A outer s H vs Q E
theorem FunD.gfn0 {x qual : Str} {params : Arguments} {body : List Stmt} {sc : Scope} {dvs : List V} {kws : List (Str × V)} {N : List Str} (D : FunD K x qual params body sc dvs kws f fd) (S : FnScope N ps sc) (ar : ∀ vs H Q E, sp vs H Q E → vs.length = ps.length)
    (bd : ∀ (cdv : Value) (A : Around) (outer : List Env) (s : Shared) (H : Hp) (vs : List V) (Q : VK) (E : XK), Rm k (A.deeper (envOfC qual sc s.heap.objs.size f cdv)) → sp vs H Q E →
      ∃ t, PSs (cxOf CX0 P w K mg base N qual sc f cdv A outer s H E).nox body t ∧ t ⟨fun _ H' => Q .non H', Q, fun _ _ => False, fun _ _ => False⟩ (start N vs) H) : GFn P w K mg base CX0 (k + 1) f fd ps sp :=
  FunD.gfn D S ar fun cdv A outer s H vs Q E rm q => let ⟨t, a, b⟩ := bd cdv A outer s H vs Q E rm q; ⟨t, a.nox, b⟩
end
end DL

end
section
set_option Elab.async false
set_option linter.all false
set_option maxRecDepth 100000
set_option maxHeartbeats 4000000
/-! F2: calls of own defs and classes, by positions and keywords. -/
namespace DL
open PySem PySem.Spec L2 PyProof.Rows
section
variable {X : Cx} {CX : CXT} {k n : Nat} {f C : Addr} {fd : FuncData} {ps ks : List Str} {sp : Sp} {E : XK} {pins : List (Addr × Obj)} {σ : L2.St} {H : Hp} {s : Shared} {Q : VK}
/-- the callee runs -/
theorem GFn.run {args : Args} {us : List Value} {vs : List V} (F : GFn X.prog X.w X.K X.mg X.base CX k f fd ps sp) (rm : Rm k X.A) (hx : PassesAt CX X σ E) (I : Inv X pins σ H s) (bt : BindsTo s fd args (ps.zip us)) (r : Vals vs us)
    (h : sp vs H Q E) : wpAny (model X.prog X.w) X.A (call (.ref f) args.pos args.kw) (EP X pins σ Q) X.xe s := by
  apply wpAny_call
  refine codeAny_mono (F.go rm I.env0 bt r h) ?_
  rintro (e | (_ | _ | _ | u)) s' z
  · exact hx pins H s e s' I z
  all_goals first | exact I.after z | exact z.elim
/-- a new instance, then its __init__ -/
theorem GFn.make {args : Args} {us : List Value} {vs : List V} (M : Mk X.K C f) (F : GFn X.prog X.w X.K X.mg X.base CX k f fd ps sp) (rm : Rm (k + 1) X.A) (hx : PassesAt CX X σ E) (I : Inv X pins σ H s)
    (bt : ∀ s2 : Shared, X.K.In s2.heap → BindsTo s2 fd ⟨.ref (s.heap.objs.size + 1) :: args.pos, args.kw⟩ (ps.zip us)) (r : Vals vs us)
    (h : sp vs (upd (upd H s.heap.objs.size (.own (s.heap.objs.size + 1))) (s.heap.objs.size + 1) (.ins C s.heap.objs.size [])) (fun v H2 => v = .non ∧ Q (.ref (s.heap.objs.size + 1)) H2) E) :
    wpAny (model X.prog X.w) X.A (call (.ref C) args.pos args.kw) (EP X pins σ Q) X.xe s := by
  have J := Inv.made (C := C) I
  apply wpAny_call
  refine make_map (f := f) I.kIn M.makes M.init (beq_iff_eq.mp M.fn) (codeAny_mono (F.go (rm.made C args.pos args.kw) (J.env0.make C args.pos args.kw) (bt _ J.kIn) r h) ?_)
  rintro (e | (_ | _ | _ | u)) s' z
  · exact hx pins _ _ e s' J z
  all_goals first | exact z.elim | skip
  obtain ⟨v, H', J2, rv, ev, q⟩ := J.after z
  cases ev
  exact ⟨rv, .ref _, H', J2, rfl, q⟩
end
/-- how the arguments' slots go into the parameters' -/
def Puts (K : Fg) (n m : Nat) (gV : List V → List V → List V) (gD : List Ar → List Ar → List Ar) : Prop := ∀ (H0 : Hp) (σ : L2.St) (as bs : List Ar) (vs zs : List V), as.length = n → bs.length = m → ArRs K H0 σ as vs → ArRs K H0 σ bs zs → ArRs K H0 σ (gD as bs) (gV vs zs)
/-- a def that a name calls with n values and keywords ks -/
structure Dk (P : Program) (w : World) (K : Fg) (mg : Str → Option Value) (base : Heap) (CX : CXT) (k : Nat) (x : Str) (n : Nat) (ks : List Str) (gD : List Ar → List Ar → List Ar) (sp : Sp) : Prop where
  ex : ∃ (f : Addr) (fd : FuncData) (ps : List Str) (gF : List Value → List Value → List Value) (gV : List V → List V → List V), GFn P w K mg base CX k f fd ps sp ∧ mg x = some (.ref f) ∧ PySem.W.keepIn K (.ref f) = true ∧
    KBn K fd ps n ks gF gV ∧ Puts K n ks.length gV gD
/-- a class that a name makes with n values and keywords ks; the keywords and self bind as in its __init__ -/
structure Dm (P : Program) (w : World) (K : Fg) (mg : Str → Option Value) (base : Heap) (CX : CXT) (k : Nat) (C : Addr) (x : Str) (n : Nat) (ks : List Str) (gD : List Ar → List Ar → List Ar) (sp : Sp) : Prop where
  ex : ∃ (f : Addr) (fd : FuncData) (ps : List Str) (gF : List Value → List Value → List Value) (gV : List V → List V → List V), Mk K C f ∧ GFn P w K mg base CX k f fd ps sp ∧ mg x = some (.ref C) ∧
    KBn K fd ps (n + 1) ks gF gV ∧ Puts K (n + 1) ks.length gV gD
/-- what the callee is given -/
def Given (K : Fg) (σ : L2.St) (n m : Nat) (gD : List Ar → List Ar → List Ar) (vs zs us : List V) : Prop := vs.length = n ∧ zs.length = m ∧
  ∀ (H0 : Hp) (as bs : List Ar), as.length = n → bs.length = m → ArRs K H0 σ as vs → ArRs K H0 σ bs zs → ArRs K H0 σ (gD as bs) us
def tCk (K : Fg) (n m : Nat) (gD : List Ar → List Ar → List Ar) (sp : Sp) (E : SX) (t tk : TA) : TE := fun σ H Q => t σ H fun vs H1 => tk σ H1 fun zs H2 => vs.length = n ∧ zs.length = m ∧ ∀ us, Given K σ n m gD vs zs us → sp us H2 Q (E σ)
def tMk (K : Fg) (C : Addr) (n m : Nat) (gD : List Ar → List Ar → List Ar) (sp : Sp) (E : SX) (t tk : TA) : TE := fun σ H Q => t σ H fun vs H1 => tk σ H1 fun zs H2 => vs.length = n ∧ zs.length = m ∧
  ∀ x dx us, H2 x = none → H2 dx = none → dx ≠ x → Given K (some (.ref x) :: σ) (n + 1) m gD (.ref x :: vs) zs us →
    sp us (upd (upd H2 dx (.own x)) x (.ins C dx [])) (fun v H3 => v = .non ∧ Q (.ref x) H3) (E σ)
section
variable {X : Cx} {P : Program} {w : World} {K : Fg} {mg : Str → Option Value} {base : Heap} {CX : CXT} {k n : Nat} {x : Str} {C : Addr} {ks : List Str} {gD : List Ar → List Ar → List Ar} {sp : Sp} {E : SX} {p pos : Pos} {e : Expr} {es : List Expr} {kws : List Keyword} {t tk : TA}
theorem gk_call (D : Dk P w K mg base CX k x n ks gD sp) (h1 : X.prog = P) (h2 : X.w = w) (h3 : X.K = K) (h4 : X.mg = mg) (h5 : X.base = base) (rm : Rm k X.A) (hx : ∀ σ, PassesAt CX X σ (E σ)) (hg : Gl X x)
    (ha : PA X (e :: es) t) (hk : PK X kws tk) (al : (backToKw pos (keywordEach kws X.env)).all (·.1.isSome) = true := by rfl)
    (nm : (backToKw pos (keywordEach kws X.env)).filterMap (·.1) = ks := by rfl) (db : (x == ("__debug__" : Str)) = false := by decide)
    (st : starEach (e :: es) X.env = (false, eval e X.env) :: starEach es X.env := by rfl)
    (pl : ((backTo pos (starEach (e :: es) X.env)).any (·.1) || (backToKw pos (keywordEach kws X.env)).any (·.1.isNone)) = false := by rfl) :
    PE X (.Call (.Name x p) (e :: es) kws pos) (tCk K n ks.length gD sp E t tk) := by
  subst h1 h2 h3 h4 h5
  obtain ⟨f, fd, ps, gF, gV, F, m1, m2, B, pu⟩ := D.ex
  constructor
  intro pins s σ H Q I h
  apply wpAny_Call_Name_kw
  refine ld_glob I hg m1 (PySem.W.callWith_KW (h₀ := X.base) I.ok.mod.kin m2 al ?_ pl st) db
  refine thn (ha.run pos pins s σ H _ I h) fun us s1 ⟨vs, H1, J, r1, q1⟩ => thn (hk.run pos pins s1 σ H1 _ J q1) fun ws s2 ⟨zs, H2, L, r2, n1, n2, q2⟩ => ⟨L.kIn, ?_⟩
  subst nm
  exact F.run (args := ⟨us, _⟩) rm (hx σ) L (B.to s2 us ws L.kIn (by rw [← r1.length, n1]) (by rw [← r2.length, n2])) (B.rel r1 r2) (q2 _ ⟨n1, n2, fun H0 as bs l1 l2 a b => pu H0 σ as bs vs zs l1 l2 a b⟩)
theorem gk_call0 (D : Dk P w K mg base CX k x n ks gD sp) (h1 : X.prog = P) (h2 : X.w = w) (h3 : X.K = K) (h4 : X.mg = mg) (h5 : X.base = base) (rm : Rm k X.A) (hx : ∀ σ, PassesAt CX X σ (E σ)) (hg : Gl X x)
    (hk : PK X kws tk) (al : (backToKw pos (keywordEach kws X.env)).all (·.1.isSome) = true := by rfl)
    (nm : (backToKw pos (keywordEach kws X.env)).filterMap (·.1) = ks := by rfl) (db : (x == ("__debug__" : Str)) = false := by decide)
    (pl : ((backTo pos (starEach [] X.env)).any (·.1) || (backToKw pos (keywordEach kws X.env)).any (·.1.isNone)) = false := by rfl) :
    PE X (.Call (.Name x p) [] kws pos) (tCk K n ks.length gD sp E tNil tk) := by
  subst h1 h2 h3 h4 h5
  obtain ⟨f, fd, ps, gF, gV, F, m1, m2, B, pu⟩ := D.ex
  constructor
  intro pins s σ H Q I h
  apply wpAny_Call_Name_kw
  refine ld_glob I hg m1 (PySem.W.callWith_KW0 (h₀ := X.base) I.ok.mod.kin m2 al ?_ pl) db
  refine thn (hk.run pos pins s σ H _ I h) fun ws s2 ⟨zs, H2, L, r2, n1, n2, q2⟩ => ⟨L.kIn, ?_⟩
  subst nm
  exact F.run (args := ⟨[], _⟩) rm (hx σ) L (B.to s2 [] ws L.kIn (by rw [← n1]; rfl) (by rw [← r2.length, n2])) (B.rel .nil r2) (q2 _ ⟨n1, n2, fun H0 as bs l1 l2 a b => pu H0 σ as bs [] zs l1 l2 a b⟩)
theorem gk_make (D : Dm P w K mg base CX k C x n ks gD sp) (h1 : X.prog = P) (h2 : X.w = w) (h3 : X.K = K) (h4 : X.mg = mg) (h5 : X.base = base) (rm : Rm (k + 1) X.A) (hx : ∀ σ, PassesAt CX X σ (E σ)) (hg : Gl X x)
    (ha : PA X (e :: es) t) (hk : PK X kws tk) (al : (backToKw pos (keywordEach kws X.env)).all (·.1.isSome) = true := by rfl)
    (nm : (backToKw pos (keywordEach kws X.env)).filterMap (·.1) = ks := by rfl) (db : (x == ("__debug__" : Str)) = false := by decide)
    (st : starEach (e :: es) X.env = (false, eval e X.env) :: starEach es X.env := by rfl)
    (pl : ((backTo pos (starEach (e :: es) X.env)).any (·.1) || (backToKw pos (keywordEach kws X.env)).any (·.1.isNone)) = false := by rfl) :
    PE X (.Call (.Name x p) (e :: es) kws pos) (tMk K C n ks.length gD sp E t tk) := by
  subst h1 h2 h3 h4 h5
  obtain ⟨f, fd, ps, gF, gV, M, F, m1, B, pu⟩ := D.ex
  constructor
  intro pins s σ H Q I h
  apply wpAny_Call_Name_kw
  refine ld_glob I hg m1 (PySem.W.callWith_KW (h₀ := X.base) I.ok.mod.kin M.kp al ?_ pl st) db
  refine thn (ha.run pos pins s σ H _ I h) fun us s1 ⟨vs, H1, J, r1, q1⟩ => thn (hk.run pos pins s1 σ H1 _ J q1) fun ws s2 ⟨zs, H2, L, r2, n1, n2, q2⟩ => ⟨L.kIn, ?_⟩
  subst nm
  have f1 := L.hok.fresh (Nat.le_succ s2.heap.objs.size)
  have f2 := L.hok.fresh (Nat.le_refl s2.heap.objs.size)
  have r0 : Vals (V.ref (s2.heap.objs.size + 1) :: vs) (Value.ref (s2.heap.objs.size + 1) :: us) := .cons rfl r1
  exact GFn.make (args := ⟨us, _⟩) M F rm (hx σ) L (fun s3 kin => B.to s3 (_ :: us) ws kin (by rw [← r0.length, List.length_cons, n1]) (by rw [← r2.length, n2])) (B.rel r0 r2)
    (q2 _ _ _ f1 f2 (Nat.ne_of_lt (Nat.lt_succ_self _)) ⟨by rw [List.length_cons, n1], n2, fun H0 as bs l1 l2 a b => pu H0 _ as bs _ zs l1 l2 a b⟩)
end
/-! ### their runs -/
section
variable {K : Fg} {E : SX} {E0 : XK} {F : Fr} {pin : Nat → Bool} {σ : L2.St} {H0 H : Hp} {ρ ρ' : List Sl}
def fCk (n m N : Nat) (gD : List Ar → List Ar → List Ar) (g : M Sl) (fa fk : M (List Ar)) : M Sl := mB fa fun as => mB fk fun bs ρ => if as.length = n ∧ bs.length = m then callD N g [] (gD as bs) ρ else none
instance sCk {n m N : Nat} {gD : List Ar → List Ar → List Ar} {g : M Sl} {t tk : TA} {fa fk : M (List Ar)} [A : SimB K E t fa] [B : SimB K E tk fk] :
    SimE K E (tCk K n m gD (spD K N g) E t tk) (fCk n m N gD g fa fk) where
  run := fun F σ H0 H ρ r ρ' Q R e h => by
    refine A.bind R e h.hx fun as ρ1 vs H1 H' e1 s1 R1 ra => ?_
    refine B.bind R1 e1 (h.later s1).hx fun bs ρ2 zs H2 H'' e2 s2 R2 rb => ?_
    split at e2
    · rename_i hl
      refine ⟨by rw [← ra.length, hl.1], by rw [← rb.length, hl.2], fun us ⟨_, _, gv⟩ => ?_⟩
      have q := call_run R2 (gv H2 as bs hl.1 hl.2 (ra.mono s2) rb) RDs.nil e2 (h.later (s1.trans s2))
      rwa [List.append_nil] at q
    · cases e2
def fCkP (n m N : Nat) (gD : List Ar → List Ar → List Ar) (g : M Sl) (fa fk : M (List Ar)) : M Sl := mB fa fun as => mB fk fun bs ρ => if as.length = n ∧ bs.length = m then okOnly (callD N g [] (gD as bs) ρ) else none
instance sCkP {n m N : Nat} {gD : List Ar → List Ar → List Ar} {g : M Sl} {t tk : TA} {fa fk : M (List Ar)} [A : SimB K E t fa] [B : SimB K E tk fk] :
    SimE K E (tCk K n m gD (spP K N g) EN t tk) (fCkP n m N gD g fa fk) where
  run := fun F σ H0 H ρ r ρ' Q R e h => by
    refine A.bind R e h.hx fun as ρ1 vs H1 H' e1 s1 R1 ra => ?_
    refine B.bind R1 e1 (h.later s1).hx fun bs ρ2 zs H2 H'' e2 s2 R2 rb => ?_
    split at e2
    · rename_i hl
      refine ⟨by rw [← ra.length, hl.1], by rw [← rb.length, hl.2], fun us ⟨_, _, gv⟩ => ?_⟩
      cases q : callD N g [] (gD as bs) ρ2 with
      | none => rw [q] at e2; cases e2
      | some p =>
        obtain ⟨r0, ρ3⟩ := p
        rw [q] at e2
        cases r0 with
        | ex C ns ds => cases e2
        | ok sl =>
          simp only [okOnly, Option.some.injEq, Prod.mk.injEq] at e2
          obtain ⟨rfl, rfl⟩ := e2
          have q := callP_run (E0 := EN σ) R2 (gv H2 as bs hl.1 hl.2 (ra.mono s2) rb) RDs.nil q (h.later (s1.trans s2))
          rwa [List.append_nil] at q
    · cases e2
/-- an argument, seen with one slot more ahead -/
def Ar.up : Ar → Ar
  | .d x => .d x
  | .b i => .b (i + 1)
theorem ArRs.up {o : Option V} : ∀ {as : List Ar} {vs : List V}, ArRs K H0 σ as vs → ArRs K H0 (o :: σ) (as.map Ar.up) vs
  | _, _, .nil => .nil
  | .d x :: _, _, .cons h r => .cons (show ArR K H0 (o :: σ) _ (.d x) from h) (ArRs.up r)
  | .b i :: _, _, .cons h r => .cons (show ArR K H0 (o :: σ) _ (.b (i + 1)) by show (o :: σ)[i + 1]? = _; rw [List.getElem?_cons_succ]; exact h) (ArRs.up r)
def madeM : Option (Rs Sl × List Sl) → Option (Rs Sl × List Sl)
  | some (.ok (.val .non), s :: ρ) => some (.ok s, ρ)
  | some (.ex C ns ds, _ :: ρ) => some (.ex C ns ds, ρ)
  | _ => none
def fMk (C : Addr) (n m N : Nat) (gD : List Ar → List Ar → List Ar) (g : M Sl) (fa fk : M (List Ar)) : M Sl := mB fa fun as => mB fk fun bs ρ =>
  if as.length = n ∧ bs.length = m then madeM (callD N g [] (gD (.b 0 :: as.map Ar.up) (bs.map Ar.up)) (.own (.ins C [] []) :: ρ)) else none
/-- an instance just made -/
theorem Rep.made {C x dx : Addr} (R : Rep K F σ H0 H ρ) (hx : H x = none) (hdx : H dx = none) (ne : dx ≠ x) :
    Rep K F (some (.ref x) :: σ) H0 (upd (upd H dx (.own x)) x (.ins C dx [])) (.own (.ins C [] []) :: ρ) := by
  have h2 : (upd H dx (HO.own x)) x = none := by rw [upd_ne (fun z => ne z.symm)]; exact hx
  have R1 : Rep K F σ H0 (upd H dx (.own x)) ρ := R.grow (.side R.s2 hdx)
  have R2 := R1.grow (.side (o := HO.ins C dx []) R1.s2 h2)
  exact R2.pushOwn (same_none R.s2 hx) (.inl (R.fresh hx)) ⟨dx, [], upd_same, rfl, RDs.nil⟩ (R1.fresh_ne h2)
instance sMk {C : Addr} {n m N : Nat} {gD : List Ar → List Ar → List Ar} {g : M Sl} {t tk : TA} {fa fk : M (List Ar)} [A : SimB K E t fa] [B : SimB K E tk fk] :
    SimE K E (tMk K C n m gD (spD K N g) E t tk) (fMk C n m N gD g fa fk) where
  run := fun F σ H0 H ρ r ρ' Q R e h => by
    refine A.bind R e h.hx fun as ρ1 vs H1 H' e1 s1 R1 ra => ?_
    refine B.bind R1 e1 (h.later s1).hx fun bs ρ2 zs H2 H'' e2 s2 R2 rb => ?_
    split at e2
    · rename_i hl
      refine ⟨by rw [← ra.length, hl.1], by rw [← rb.length, hl.2], fun x dx us hx hdx ne ⟨_, _, gv⟩ => ?_⟩
      have RM := R2.made (C := C) hx hdx ne
      have a0 : ArRs K H2 (some (V.ref x) :: σ) (.b 0 :: as.map Ar.up) (.ref x :: vs) := .cons rfl (ra.mono s2).up
      have g1 := gv H2 _ _ (by simp [hl.1]) (by simp [hl.2]) a0 rb.up
      have hh := h.later (s1.trans s2)
      cases q : callD N g [] (gD (.b 0 :: as.map Ar.up) (bs.map Ar.up)) (.own (.ins C [] []) :: ρ2) with
      | none => rw [q] at e2; cases e2
      | some p =>
        obtain ⟨r0, ρ3⟩ := p
        rw [q] at e2
        have fin := fun QQ EE => call_run (E0 := E σ) (Q := QQ) RM g1 RDs.nil q EE
        simp only [List.append_nil] at fin
        apply fin
        unfold madeM at e2
        split at e2
        · rename_i s ρ4 e3
          simp only [Option.some.injEq, Prod.mk.injEq] at e3 e2
          obtain ⟨rfl, rfl⟩ := e3
          obtain ⟨rfl, rfl⟩ := e2
          intro v H3 H3' s3 R3
          obtain ⟨v', ev, rd⟩ := R3.val 0 .non rfl
          have : v = .non := by
            have := Option.some.inj (Option.some.inj ev)
            rw [this]; exact rd.non_inv
          subst this
          exact ⟨rfl, hh _ H3 H3' s3 R3.pop⟩
        · rename_i C' ns ds s ρ4 e3
          simp only [Option.some.injEq, Prod.mk.injEq] at e3 e2
          obtain ⟨rfl, rfl⟩ := e3
          obtain ⟨rfl, rfl⟩ := e2
          intro d H3 H3' s3 R3 xx
          exact hh d H3 H3' s3 R3.pop xx
        · cases e2
    · cases e2
/-! ### self.f = e -/
def putN : List Str → Str → List Str
  | [], f => [f]
  | g :: r, f => if g = f then g :: r else g :: putN r f
def putD : List Str → List Dt → Str → Dt → List Dt
  | g :: r, x :: ds, f, y => if g = f then y :: ds else x :: putD r ds f y
  | _, _, _, y => [y]
theorem putF_read {f : Str} {y : V} {d : Dt} (rd : RD K H d y) : ∀ {fs : List (Str × V)} {ns : List Str} {ds : List Dt}, fs.map (·.1) = ns → RDs K H ds (fs.map (·.2)) → (putF f y fs).map (·.1) = putN ns f ∧ RDs K H (putD ns ds f d) ((putF f y fs).map (·.2))
  | [], ns, ds, h1, h2 => by
    subst h1
    exact ⟨rfl, by show RDs K H (putD [] ds f d) [y]; unfold putD; exact RDs.cons rd RDs.nil⟩
  | (g, x) :: r, ns, ds, h1, h2 => by
    subst h1
    cases ds with
    | nil => simp only [List.map_cons] at h2; exact nomatch RDs.nil_inv h2
    | cons d0 ds =>
      obtain ⟨v, r', e1, h3, h4⟩ := RDs.inv h2
      simp only [List.map_cons, List.cons.injEq] at e1
      obtain ⟨rfl, rfl⟩ := e1
      obtain ⟨i1, i2⟩ := putF_read rd rfl h4
      simp only [List.map_cons, putF, putN, putD]
      by_cases hg : g = f
      · rw [if_pos hg, if_pos hg, if_pos hg]
        exact ⟨by rw [List.map_cons], RDs.cons rd h4⟩
      · rw [if_neg hg, if_neg hg, if_neg hg]
        exact ⟨by rw [List.map_cons, i1], RDs.cons h3 i2⟩
open Classical in
noncomputable def fSFld (K : Fg) (f : Str) (i : Nat) (fv : M Sl) : M So := mB (vl fv) fun y ρ => match ρ[i]? with
  | some (.own (.ins C ns ds)) => if Cls K C ∧ NoAttr K C f ∧ ns.length < 1000 then some (.ok .nx, ρ.set i (.own (.ins C (putN ns f) (putD ns ds f y)))) else none
  | _ => none
instance sSFld {tv : TE} {f : Str} {i : Nat} {fv : M Sl} [A : SimE K E tv fv] : SimS K E pin (L2.sFld K (tVar i) tv f) (fSFld K f i fv) where
  run := fun F σ H0 H ρ D r ρ' R e h => by
    refine A.bindV R e h.hx fun y ρ1 v H1 H' e1 s1 R1 rd1 => ?_
    split at e1
    · rename_i C ns ds q
      split at e1
      · rename_i hc
        obtain ⟨a, ea, n0, q0, dx, fs, h1, h2, h3⟩ := R1.own i _ q
        simp only [Option.some.injEq, Prod.mk.injEq] at e1
        obtain ⟨rfl, rfl⟩ := e1
        obtain ⟨p1, p2⟩ := putF_read (f := f) rd1 h2 h3
        refine ⟨.ref a, ea, a, C, dx, fs, rfl, h1, hc.1, hc.2.1, by rw [← h2, List.length_map] at hc; exact hc.2.2, ?_⟩
        have RW := R1.write (x := .ins C dx (putF f v fs)) (o' := .ins C (putN ns f) (putD ns ds f y)) q ea ⟨dx, putF f v fs, upd_same, p1, p2⟩
        exact h σ H1 _ s1 (Pin.refl _ _) RW
      · cases e1
    · cases e1
end
end DL

end
section
set_option Elab.async false
set_option linter.all false
set_option maxRecDepth 100000
set_option maxHeartbeats 4000000
/-! F3: data as text. -/
namespace DL
open PySem PySem.Spec L2 PyProof.Rows
mutual
def Shw (K : Fg) (H : Hp) : PyData → V → Prop
  | .none, v => v = V.non
  | .bool b, v => v = V.bl b
  | .int i, v => v = V.int i
  | .str x, v => v = V.str x
  | .list ds, v => ∃ a xs, v = V.ref a ∧ SqL K H a xs ∧ Shws K H ds xs
  | .tuple ds, v => ∃ a xs, v = V.ref a ∧ SqT K H a xs ∧ Shws K H ds xs
  | .dict _, _ => False
def Shws (K : Fg) (H : Hp) : List PyData → List V → Prop
  | [], vs => vs = []
  | d :: ds, vs => ∃ v r, vs = v :: r ∧ Shw K H d v ∧ Shws K H ds r
end
section
variable {X : Cx} {pins : List (Addr × Obj)} {σ : L2.St} {H : Hp} {s : Shared}
mutual
theorem Shw.reads (I : Inv X pins σ H s) : ∀ {d : PyData} {v : V} {u : Value}, Shw X.K H d v → RelV v u → (∃ as, Reads s.heap u d as) ∧ d.hasDict = false
  | .none, v, u, h, r => by
    unfold Shw at h; subst h
    obtain rfl : u = .none := r
    exact ⟨⟨_, .none⟩, by simp [PyData.hasDict]⟩
  | .bool b, v, u, h, r => by
    unfold Shw at h; subst h
    obtain rfl : u = .bool b := r
    exact ⟨⟨_, .bool b⟩, by simp [PyData.hasDict]⟩
  | .int i, v, u, h, r => by
    unfold Shw at h; subst h
    obtain ⟨t, rfl⟩ := r
    exact ⟨⟨_, .int i t⟩, by simp [PyData.hasDict]⟩
  | .str x, v, u, h, r => by
    unfold Shw at h; subst h
    obtain ⟨t, rfl⟩ := r
    exact ⟨⟨_, .str x t⟩, by simp [PyData.hasDict]⟩
  | .list ds, v, u, h, r => by
    unfold Shw at h
    obtain ⟨a, xs, rfl, h1, h2⟩ := h
    obtain rfl : u = .ref a := r
    obtain ⟨its, rv, ⟨o, n, e, c, _, dt⟩, _⟩ := I.list h1
    obtain ⟨⟨as, ra⟩, nd⟩ := Shws.reads I h2 rv
    exact ⟨⟨_, .list e c dt (by simpa using ra)⟩, by simpa [PyData.hasDict] using nd⟩
  | .tuple ds, v, u, h, r => by
    unfold Shw at h
    obtain ⟨a, xs, rfl, h1, h2⟩ := h
    obtain rfl : u = .ref a := r
    obtain ⟨its, rv, ⟨o, e, c, n, dt⟩, _⟩ := I.tuple h1
    obtain ⟨⟨as, ra⟩, nd⟩ := Shws.reads I h2 rv
    exact ⟨⟨_, .tuple e c dt (by simpa using ra)⟩, by simpa [PyData.hasDict] using nd⟩
  | .dict _, _, _, h, _ => by unfold Shw at h; exact h.elim
theorem Shws.reads (I : Inv X pins σ H s) : ∀ {ds : List PyData} {vs : List V} {us : List Value}, Shws X.K H ds vs → Vals vs us → (∃ as, ReadsAll s.heap us ds as) ∧ PyData.hasDictAll ds = false
  | [], vs, us, h, r => by
    unfold Shws at h; subst h
    cases r
    exact ⟨⟨_, .nil⟩, by simp [PyData.hasDictAll]⟩
  | d :: ds, vs, us, h, r => by
    unfold Shws at h
    obtain ⟨v, rr, rfl, h1, h2⟩ := h
    cases r with
    | cons r1 r2 =>
      obtain ⟨⟨as, ra⟩, n1⟩ := Shw.reads I h1 r1
      obtain ⟨⟨bs, rb⟩, n2⟩ := Shws.reads I h2 r2
      exact ⟨⟨_, .cons ra rb⟩, by simp [PyData.hasDictAll, n1, n2]⟩
end
def FitD (d : PyData) : Prop := d.showable = true ∧ d.shown.length ≤ sizeLine ∧ d.depth ≤ 40
def rRepr (K : Fg) : List V → Hp → VK → Prop := fun xs H Q => ∃ x d, xs = [x] ∧ Shw K H d x ∧ FitD d ∧ Q (.str d.shown) H
/-- what is shown, scalar or not -/
theorem shows {K : Fg} {x : V} {u : Value} {d : PyData} {R : Value → Shared → Prop} {c : Sem Value → Prop} {f : Value → Sem Value} (I : Inv X pins σ H s) (r : RelV x u) (h : Shw X.K H d x)
    (hR : ∀ h' k tk, (∀ b o, s.heap.get? b = some o → h'.get? b = some o) → R (.str d.shown k) { s with heap := h', toks := tk })
    (f0 : u = .none → d = .none → R (.str "None" s.toks) { s with toks := s.toks + 1 } → c (f u))
    (f1 : ∀ b, u = .bool b → R (.str (if b then "True" else "False") s.toks) { s with toks := s.toks + 1 } → c (f u))
    (f2 : ∀ i t, u = .int i t → d = .int i → R (.str (toString i) s.toks) { s with toks := s.toks + 1 } → c (f u))
    (f3 : ∀ y t, u = .str y t → d = .str y → R (.str (reprText y) s.toks) { s with toks := s.toks + 1 } → c (f u))
    (f4 : ∀ a as, u = .ref a → Reads s.heap (.ref a) d as → d.hasDict = false → c (f u)) : c (f u) := by
  obtain ⟨⟨as, ra⟩, nd⟩ := h.reads I r
  have sc : ∀ (y : Str), d.shown = y → R (.str y s.toks) { s with toks := s.toks + 1 } := fun y e => e ▸ hR s.heap s.toks (s.toks + 1) fun _ _ z => z
  have big : ∀ a, u = .ref a → c (f u) := fun a e => by
    subst e
    exact f4 a as rfl ra nd
  cases d with
  | none => cases ra; exact f0 rfl rfl (sc _ (by simp [PyData.shown]))
  | bool b => cases ra; exact f1 b rfl (sc _ (by simp [PyData.shown]))
  | int i => cases ra; exact f2 i _ rfl rfl (sc _ (by simp [PyData.shown]))
  | str y => cases ra; exact f3 y _ rfl rfl (sc _ (by simp [PyData.shown]))
  | list ds => cases ra; exact big _ rfl
  | tuple ds => cases ra; exact big _ rfl
  | dict kvs => unfold Shw at h; exact h.elim
theorem cr_repr (hu : X.A.units + 64 < cLine) (hg : X.A.guards = some []) : CallR X (.builtin "repr") (rRepr X.K) := by
  intro pins s σ H xs us Q I rv h
  obtain ⟨x, d, rfl, sh, ⟨f1, f2, f3⟩, q⟩ := h
  cases rv with
  | cons r1 r2 =>
    cases r2
    have hR : ∀ h' k tk, (∀ b o, s.heap.get? b = some o → h'.get? b = some o) → EP X pins σ Q (.str d.shown k) { s with heap := h', toks := tk } := fun h' k tk hk => ⟨.str d.shown, H, I.kept hk, ⟨_, rfl⟩, q⟩
    refine shows (K := X.K) (c := fun m => wpAny (model X.prog X.w) X.A m (EP X pins σ Q) X.xe s) (f := fun u => call (.builtin "repr") [u]) I r1 sh hR ?_ ?_ ?_ ?_ ?_
    · rintro rfl rfl e; exact P.repr_of_none e
    · rintro b rfl e; exact P.repr_of_bool e
    · rintro i t rfl rfl e
      exact P.repr_of_int (by simpa [PyData.showable] using f1) e
    · rintro y t rfl rfl e
      exact P.repr_of_str e (by simpa [PyData.shown] using f2)
    · rintro a as rfl ra nd
      exact PySem.repr_of_reads' ra f1 (PyData.noDict_hsm nd) hg (by omega) (fun _ _ z => z) hR f2
/-- {x!r} of data -/
def tFmtD (K : Fg) (te : TE) : TE := fun σ H Q => te σ H fun x H1 => ∃ d, Shw K H1 d x ∧ FitD d ∧ Q (.str d.shown) H1
theorem pe_fmtD {e : Expr} {te : TE} {pos : Pos} (hu : X.A.units + 64 < cLine) (hg : X.A.guards = some []) (he : PE X e te) : PE X (.FormattedValue e 114 none pos) (tFmtD X.K te) := by
  constructor
  intro pins s σ H Q I h
  refine wpAny_FormattedValue_repr (thn (he.run pins s σ H _ I h) ?_)
  rintro u s1 ⟨x, H1, J, r, d, sh, ⟨f1, f2, f3⟩, q⟩
  have ends : ∀ (t : Shared) (k : Tok), Inv X pins σ H1 t → wpAny (model X.prog X.w) X.A (formatField (.str d.shown k) Str.empty) (EP X pins σ Q) X.xe t := fun t k L =>
    wpAny_formatField_str ⟨.str d.shown, H1, L, ⟨_, rfl⟩, q⟩ ⟨.str d.shown, H1, L.tok _, ⟨_, rfl⟩, q⟩ f2
  have hR : ∀ h' k tk, (∀ b o, s1.heap.get? b = some o → h'.get? b = some o) → wpAny (model X.prog X.w) X.A (formatField (.str d.shown k) Str.empty) (EP X pins σ Q) X.xe { s1 with heap := h', toks := tk } := fun h' k tk hk => ends _ k (J.kept hk)
  refine shows (K := X.K) (R := fun v t => wpAny (model X.prog X.w) X.A (formatField v Str.empty) (EP X pins σ Q) X.xe t) (f := fun u => pyReprObj u)
    (c := fun m => wpAny (model X.prog X.w) X.A m (fun v t => wpAny (model X.prog X.w) X.A (formatField v Str.empty) (EP X pins σ Q) X.xe t) X.xe s1) J r sh hR ?_ ?_ ?_ ?_ ?_
  · rintro rfl rfl e; exact pyReprObj_none e
  · rintro b rfl e; exact pyReprObj_bool e
  · rintro i t rfl rfl e
    exact pyReprObj_int (by simpa [PyData.showable] using f1) e
  · rintro y t rfl rfl e
    exact pyReprObj_str e (by simpa [PyData.shown] using f2)
  · rintro a as rfl ra nd
    exact PySem.pyReprObj_of_reads ra f1 (PyData.noDict_hsm nd) hg (by omega) (fun _ _ z => z) hR f2
end
theorem kFmtD {X : Cx} {K : Fg} {e : Expr} {te : TE} {pos : Pos} (h : X.K = K) (hu : X.A.units + 64 < cLine) (hg : X.A.guards = some []) (he : PE X e te) : PE X (.FormattedValue e 114 none pos) (tFmtD K te) := h ▸ pe_fmtD hu hg he
theorem kRepr {X : Cx} {K : Fg} (h : X.K = K) (hu : X.A.units + 64 < cLine) (hg : X.A.guards = some []) : CallR X (.builtin "repr") (rRepr K) := h ▸ cr_repr hu hg
/-! ### on data -/
mutual
def pyD : Dt → Option PyData
  | .non => some .none
  | .bl b => some (.bool b)
  | .int i => some (.int i)
  | .str x => some (.str x)
  | .lst ds => (pyDs ds).map .list
  | .rol ds => (pyDs ds).map .list
  | .tup ds => (pyDs ds).map .tuple
  | _ => none
def pyDs : List Dt → Option (List PyData)
  | [] => some []
  | d :: ds => match pyD d, pyDs ds with
    | some p, some ps => some (p :: ps)
    | _, _ => none
end
section
variable {K : Fg} {H : Hp}
mutual
theorem pyD_shw : ∀ {d : Dt} {v : V} {p : PyData}, RD K H d v → pyD d = some p → Shw K H p v
  | .non, v, p, h, e => by simp [pyD] at e; subst e; unfold Shw; exact h.non_inv
  | .bl b, v, p, h, e => by simp [pyD] at e; subst e; unfold Shw; exact h.bl_inv
  | .int b, v, p, h, e => by simp [pyD] at e; subst e; unfold Shw; exact h.int_inv
  | .str b, v, p, h, e => by simp [pyD] at e; subst e; unfold Shw; exact h.str_inv
  | .ty n, v, p, h, e => by simp [pyD] at e
  | .ref n, v, p, h, e => by simp [pyD] at e
  | .dct _ _, v, p, h, e => by simp [pyD] at e
  | .obj _ _ _, v, p, h, e => by simp [pyD] at e
  | .exn _ _ _, v, p, h, e => by simp [pyD] at e
  | .lst ds, v, p, h, e => by
    obtain ⟨a, xs, rfl, h1, h2⟩ := h.lst_inv
    cases q : pyDs ds with
    | none => simp [pyD, q] at e
    | some ps =>
      simp [pyD, q] at e; subst e
      unfold Shw
      exact ⟨a, xs, rfl, SqL.of h1, pyDs_shw h2 q⟩
  | .rol ds, v, p, h, e => by
    unfold RD at h
    obtain ⟨a, xs, rfl, h1, h2⟩ := h
    cases q : pyDs ds with
    | none => simp [pyD, q] at e
    | some ps =>
      simp [pyD, q] at e; subst e
      unfold Shw
      exact ⟨a, xs, rfl, h1, pyDs_shw h2 q⟩
  | .tup ds, v, p, h, e => by
    obtain ⟨a, xs, rfl, h1, h2⟩ := h.tup_inv
    cases q : pyDs ds with
    | none => simp [pyD, q] at e
    | some ps =>
      simp [pyD, q] at e; subst e
      unfold Shw
      exact ⟨a, xs, rfl, h1, pyDs_shw h2 q⟩
theorem pyDs_shw : ∀ {ds : List Dt} {vs : List V} {ps : List PyData}, RDs K H ds vs → pyDs ds = some ps → Shws K H ps vs
  | [], vs, ps, h, e => by simp [pyDs] at e; subst e; unfold Shws; exact h.nil_inv
  | d :: ds, vs, ps, h, e => by
    obtain ⟨v, r, rfl, h1, h2⟩ := h.inv
    cases q1 : pyD d with
    | none => simp [pyDs, q1] at e
    | some p =>
      cases q2 : pyDs ds with
      | none => simp [pyDs, q1, q2] at e
      | some ps' =>
        simp [pyDs, q1, q2] at e; subst e
        unfold Shws
        exact ⟨v, r, rfl, pyD_shw h1 q1, pyDs_shw h2 q2⟩
end
mutual
theorem Shw.mono {H' : Hp} (e : Same H H') : ∀ {d : PyData} {v : V}, Shw K H d v → Shw K H' d v
  | .none, _, h | .bool _, _, h | .int _, _, h | .str _, _, h => by unfold Shw at h ⊢; exact h
  | .list ds, v, h => by unfold Shw at h ⊢; obtain ⟨a, xs, h1, h2, h3⟩ := h; exact ⟨a, xs, h1, e.seq h2, Shws.mono e h3⟩
  | .tuple ds, v, h => by unfold Shw at h ⊢; obtain ⟨a, xs, h1, h2, h3⟩ := h; exact ⟨a, xs, h1, sqT_mono e h2, Shws.mono e h3⟩
  | .dict _, _, h => by unfold Shw at h; exact h.elim
theorem Shws.mono {H' : Hp} (e : Same H H') : ∀ {ds : List PyData} {vs : List V}, Shws K H ds vs → Shws K H' ds vs
  | [], _, h => by unfold Shws at h ⊢; exact h
  | d :: ds, vs, h => by unfold Shws at h ⊢; obtain ⟨v, r, h1, h2, h3⟩ := h; exact ⟨v, r, h1, Shw.mono e h2, Shws.mono e h3⟩
end
instance fitDec (d : PyData) : Decidable (FitD d) := by unfold FitD; infer_instance
def textD (d : Dt) : Option Str := (pyD d).bind fun p => if FitD p then some p.shown else none
theorem textD_inv {d : Dt} {x : Str} (h : textD d = some x) : ∃ p, pyD d = some p ∧ FitD p ∧ p.shown = x := by
  unfold textD at h
  cases q : pyD d with
  | none => rw [q] at h; cases h
  | some p =>
    rw [q] at h
    have h' : (if FitD p then some p.shown else none) = some x := h
    split at h'
    · rename_i hf; cases h'; exact ⟨p, rfl, hf, rfl⟩
    · cases h'
def gRepr : List Dt → Option Sl
  | [d] => (textD d).map fun x => .val (.str x)
  | _ => none
instance vRepr : CallV K (rRepr K) gRepr where
  run := fun xs ds s H0 H Q sm rd e h => by
    unfold gRepr at e
    split at e
    · rename_i d
      obtain ⟨v, r, rfl, h1, h2⟩ := rd.inv
      rw [h2.nil_inv]
      cases q : textD d with
      | none => rw [q] at e; cases e
      | some x =>
        rw [q] at e
        cases e
        obtain ⟨p, q1, q2, q3⟩ := textD_inv q
        refine ⟨v, p, rfl, (pyD_shw h1 q1).mono sm, q2, ?_⟩
        rw [q3]
        exact h.val sm RD.str
    · cases e
variable {E : SX} {F : Fr} {σ : L2.St} {H0 : Hp} {ρ ρ' : List Sl}
def fFmtD (f : M Sl) : M Sl := mB (vl f) fun d => mO ((textD d).map fun x => .val (.str x))
instance sFmtD {te : TE} {f : M Sl} [A : SimE K E te f] : SimE K E (tFmtD K te) (fFmtD f) where
  run := fun F σ H0 H ρ r ρ' Q R e h => by
    refine A.bindV R e h.hx fun c ρ1 v H1 H' e1 s1 R1 rd1 => ?_
    obtain ⟨s, es, rfl, rfl⟩ := mO_inv e1
    cases q : textD c with
    | none => rw [q] at es; cases es
    | some x =>
      rw [q] at es; cases es
      obtain ⟨p, q1, q2, q3⟩ := textD_inv q
      refine ⟨p, (pyD_shw rd1 q1).mono R1.s2, q2, ?_⟩
      rw [q3]
      exact h _ H1 H' s1 (R1.push RD.str)
def fmtT : Dt → Option Str
  | .str y => if small y.length then some y else none
  | .int i => if i.natAbs.log2 < 1920 then some (toString i) else none
  | _ => none
def fFmt (f : M Sl) : M Sl := mB (vl f) fun d => mO ((fmtT d).map fun x => .val (.str x))
instance sFmt {te : TE} {f : M Sl} [A : SimE K E te f] : SimE K E (tFmt te) (fFmt f) where
  run := fun F σ H0 H ρ r ρ' Q R e h => by
    refine A.bindV R e h.hx fun c ρ1 v H1 H' e1 s1 R1 rd1 => ?_
    obtain ⟨s, es, rfl, rfl⟩ := mO_inv e1
    cases c with
    | str y =>
      have es : (if small y.length then some y else none).map (fun x => Sl.val (.str x)) = some s := es
      split at es
      · rename_i hz; cases es
        exact .inl ⟨y, rd1.str_inv, small_line hz, h _ H1 H' s1 (R1.push RD.str)⟩
      · cases es
    | int i =>
      have es : (if i.natAbs.log2 < 1920 then some (toString i : Str) else none).map (fun x => Sl.val (.str x)) = some s := es
      split at es
      · rename_i hz; cases es
        exact .inr ⟨i, rd1.int_inv, hz, h _ H1 H' s1 (R1.push RD.str)⟩
      · cases es
    | _ => cases es
/-! ### f'..' -/
def EndJ (K : Fg) (E : SX) (F : Fr) (σ : L2.St) (H0 : Hp) (ρ' : List Sl) (Q : Str → Hp → Prop) : Rs Str → Prop
  | .ok c => ∀ H0' H', Same H0 H0' → Rep K F σ H0' H' ρ' → Q c H'
  | .ex C ns ds => ∀ d H0' H', Same H0 H0' → Rep K F σ H0' H' ρ' → ExF K F H0' H' d ns ds → E σ (.ref C) d H'
class SimJ (K : Fg) (E : SX) (ts : List TE) (f : outParam (Str → M Str)) : Prop where
  run : ∀ (F : Fr) (σ : L2.St) (H0 H : Hp) (ρ : List Sl) (acc : Str) (r : Rs Str) (ρ' : List Sl) (Q : Str → Hp → Prop), Rep K F σ H0 H ρ → f acc ρ = some (r, ρ') → EndJ K E F σ H0 ρ' Q r → tJs ts acc σ H Q
instance sJNil : SimJ K E [] (fun acc => mP acc) where
  run := fun F σ H0 H ρ acc r ρ' Q R e h => by
    obtain ⟨rfl, rfl⟩ := mP_inv e
    exact h H0 H (Same.refl _) R
def fJCons (f : M Sl) (g : Str → M Str) : Str → M Str := fun acc => mB (vl f) fun d => match d with
  | .str y => if small (acc ++ y).length then g (acc ++ y) else fun _ => none
  | _ => fun _ => none
instance sJCons {t : TE} {ts : List TE} {f : M Sl} {g : Str → M Str} [A : SimE K E t f] [B : SimJ K E ts g] : SimJ K E (t :: ts) (fJCons f g) where
  run := fun F σ H0 H ρ acc r ρ' Q R e h => by
    refine A.bindV R e (by rintro C ns ds rfl; exact h) fun c ρ1 v H1 H' e1 s1 R1 rd1 => ?_
    split at e1
    · rename_i y
      split at e1
      · rename_i hz
        refine ⟨y, rd1.str_inv, small_line hz, B.run F σ H1 H' ρ1 _ _ _ Q R1 e1 ?_⟩
        cases r with
        | ok c => exact fun H2 H2' s2 R2 => h H2 H2' (s1.trans s2) R2
        | ex C ns ds => exact fun d H2 H2' s2 R2 x => h d H2 H2' (s1.trans s2) R2 x
      · cases e1
    · cases e1
def tJoin (ts : List TE) : TE := fun σ H Q => tJs ts Str.empty σ H fun out H1 => Q (.str out) H1
def fJoin (g : Str → M Str) : M Sl := mB (g Str.empty) fun x => mP (.val (.str x))
instance sJoin {ts : List TE} {g : Str → M Str} [B : SimJ K E ts g] : SimE K E (tJoin ts) (fJoin g) where
  run := fun F σ H0 H ρ r ρ' Q R e h => by
    rcases mB_inv e with ⟨x, ρ1, e1, e2⟩ | ⟨C, ns, ds, e1, rfl⟩
    · obtain ⟨rfl, rfl⟩ := mP_inv e2
      exact B.run F σ H0 H ρ _ _ _ _ R e1 fun H1 H1' s1 R1 => h _ H1 H1' s1 (R1.push RD.str)
    · exact B.run F σ H0 H ρ _ _ _ _ R e1 h
end
theorem pe_join {X : Cx} {v1 v2 : Expr} {rest : List Expr} {ts : List TE} {pos : Pos} (h : PJ X (v1 :: v2 :: rest) ts) : PE X (.JoinedStr (v1 :: v2 :: rest) pos) (tJoin ts) := pe_joined h
end DL

end
section
set_option Elab.async false
set_option linter.all false
set_option maxRecDepth 100000
set_option maxHeartbeats 4000000
/-! F4: two fors, while, starred displays. -/
namespace DL
open PySem PySem.Spec L2
section
variable {K : Fg} {E : SX} {F : Fr} {pin : Nat → Bool} {σ σ2 : L2.St} {H0 H : Hp} {ρ ρ' : List Sl}
/-- the state of a comprehension that makes the list at D -/
def LcAt (K : Fg) (F : Fr) (σ : L2.St) (D : Addr) (H1 Hq : Hp) (acc : List Dt) (ρq : List Sl) : Prop := ∃ H0q av, Same H1 H0q ∧ Rep K F σ H0q Hq ρq ∧ D ∉ owns σ ρq ∧ H0q D = none ∧ Hq D = some (.lst av) ∧ RDs K H0q acc av
theorem Rep.addTo {D : Addr} {acc : List Dt} {av : List V} {y : Dt} {v : V} (R : Rep K F σ H0 H ρ) (hFD : F.He D = none ∨ D ∈ F.P) (z1 : H D = some (.lst av)) (z2 : H0 D = none) (no : D ∉ owns σ ρ) (ra : RDs K H0 acc av) (rd : RD K H0 y v) :
    Rep K F σ H0 (upd H D (.lst (av ++ [v]))) ρ := by
  have Z3 : Rep K F (some (.ref D) :: σ) H0 H (.own (.lst acc) :: ρ) := R.pushOwn z2 hFD ⟨av, z1, ra⟩ fun j o h1 h2 => no (mem_owns.mpr ⟨j, o, h1, h2⟩)
  exact (Z3.write (i := 0) (o' := .lst (acc ++ [y])) rfl rfl ⟨av ++ [v], upd_same, ra.append (RDs.cons rd RDs.nil)⟩).pop
/-- the frame in which D may be written -/
def snapX (D : Addr) (σ : L2.St) (H0 H : Hp) (ρ : List Sl) : Fr := ⟨H, H0, D :: owns σ ρ⟩
theorem Rep.snapX {D : Addr} (R : Rep K F σ H0 H ρ) : Rep K (DL.snapX D σ H0 H ρ) σ H0 H ρ where
  len := R.len
  s1 := Same.refl _
  s2 := R.s2
  s3 := fun a o h _ => h
  s4 := fun a _ h0 _ => h0
  s5 := fun a h => h
  val := R.val
  own := fun i o h => by
    obtain ⟨a, e, n, _, r⟩ := R.own i o h
    exact ⟨a, e, n, .inr (List.mem_cons_of_mem _ (mem_owns.mpr ⟨i, o, h, e⟩)), r⟩
  dis := R.dis
theorem Rep.backX {D : Addr} {σ' : L2.St} {H0' H' : Hp} (R : Rep K F σ H0 H ρ) (hFD : F.He D = none ∨ D ∈ F.P) (S : Rep K (DL.snapX D σ H0 H ρ) σ' H0' H' ρ') (hD : H0 D = none) : Rep K F σ' H0' H' ρ' where
  len := S.len
  s1 := R.s1.trans S.s1
  s2 := S.s2
  s3 := fun a o h hp => S.s3 a o (R.s3 a o h hp) fun hm => by
    rcases List.mem_cons.mp hm with hm | hm
    · subst hm
      rcases hFD with z | z
      · rw [z] at h; cases h
      · exact hp z
    · obtain ⟨i, o', e3, e4⟩ := mem_owns.mp hm
      obtain ⟨b, e5, n, q, z⟩ := R.own i o' e3
      rw [e4] at e5; cases e5
      rcases q with q | q
      · rw [q] at h; cases h
      · exact hp q
  s4 := fun a h h0 hp => S.s4 a (R.s5 a h) (R.s4 a h h0 hp) fun hm => by
    rcases List.mem_cons.mp hm with hm | hm
    · subst hm
      rcases hFD with z | z
      · exact h z
      · exact hp z
    · obtain ⟨i, o', e3, e4⟩ := mem_owns.mp hm
      obtain ⟨b, e5, n, q, z⟩ := R.own i o' e3
      rw [e4] at e5; cases e5
      rcases q with q | q
      · exact h q
      · exact hp q
  s5 := fun a h => S.s5 a (R.s5 a h)
  val := S.val
  own := fun i o h => by
    obtain ⟨a, e, n, q, r⟩ := S.own i o h
    refine ⟨a, e, n, ?_, r⟩
    rcases q with q | q
    · exact .inl (R.fresh q)
    · rcases List.mem_cons.mp q with q | q
      · subst q; exact hFD
      · obtain ⟨i', o', e3, e4⟩ := mem_owns.mp q
        obtain ⟨b, e5, n, q', z⟩ := R.own i' o' e3
        rw [e4] at e5; cases e5
        exact q'
  dis := S.dis
/-- one turn: what the body is given and what it leaves -/
theorem lc_turn {vs : List Nat} {D : Addr} {H1 Hq : Hp} {acc : List Dt} {ρq : List Sl} {g : TG} {tt : TT} {te : TE} {T : Dt → Up} {t : M Bool} {e : M Sl} [G : SimG K (notIn vs) g T] [C : SimT K E tt t] [A : SimE K E te e]
    {ds : List Dt} {accF : List Dt} {ρF : List Sl} {x : V} {Hq' : Hp} {d : Dt} {H0q : Hp} {av : List V} {Nx : Hp → Prop}
    (hFD : F.He D = none ∨ D ∈ F.P) (sq : Same H1 H0q) (Rq : Rep K F σ H0q Hq ρq) (no : D ∉ owns σ ρq) (hD0 : H0q D = none) (hDq : Hq D = some (.lst av)) (ra : RDs K H0q acc av) {H0n : Hp} (gr : Grow H0q Hq H0n Hq') (rd : RD K H0n d x)
    (eq : lcM T t e vs (d :: ds) acc ρq = some (accF, ρF))
    (nx : ∀ Hn acc' ρn, LcAt K F σ D H1 Hn acc' ρn → lcM T t e vs ds acc' ρn = some (accF, ρF) → Nx Hn) :
    g x (L2.wipe σ vs) Hq' fun σ2 H2 => L2.wipe σ2 vs = L2.wipe σ vs ∧ tt σ2 H2 fun b H3 => if b = true then te σ2 H3 fun y H4 => ∃ acc, H4 D = some (.lst acc) ∧ acc.length < sizeLine ∧ Nx (upd H4 D (.lst (acc ++ [y]))) else Nx H3 := by
  have Rn := Rq.grow gr
  have hDn : Hq' D = some (.lst av) := gr.g2 _ _ hDq
  have hD0n : H0n D = none := gr.g4 D (by rw [hDq]; exact fun z => nomatch z) hD0
  unfold lcM at eq
  have Rw := Rn.wipe vs
  have no0 := not_own_wipe (vs := vs) no
  cases qT : T d (wipeR ρq vs) with
  | none => rw [qT] at eq; cases eq
  | some ρ2 =>
    simp only [qT] at eq
    refine G.run (DL.snap (L2.wipe σ vs) H0n Hq' (wipeR ρq vs)) (L2.wipe σ vs) H0n Hq' (wipeR ρq vs) ρ2 d x _ Rw.snap rd qT fun σ2 H2 H2' s2 p2 R2 => ?_
    have ew : L2.wipe σ2 vs = L2.wipe σ vs := by
      rw [← wipe_wipe (σ := σ)]
      exact wipe_eq p2.1 fun j hj => p2.2 j (by simp [notIn, hj])
    refine ⟨ew, ?_⟩
    have sa : Same H1 H2 := (sq.trans gr.g1).trans s2
    cases qt : t ρ2 with
    | none => rw [qt] at eq; cases eq
    | some pt =>
      obtain ⟨rt, ρ3⟩ := pt
      rw [qt] at eq
      cases rt with
      | ex C ns ds' => cases eq
      | ok b =>
        refine C.run _ σ2 H2 H2' ρ2 _ _ _ R2 qt fun H3 H3' s3 R3 => ?_
        cases b with
        | false =>
          simp only [Bool.false_eq_true, if_false] at eq ⊢
          obtain ⟨z1, z2⟩ := R3.side hDn hD0n no0
          exact nx _ acc _ ⟨H3, av, sa.trans s3, (Rw.back R3).unwipe ew, still_apart (R3.unwipe ew) hDn no0, z2, z1, ra.mono ((gr.g1.trans s2).trans s3)⟩ eq
        | true =>
          simp only [if_true] at eq ⊢
          cases qe : vl e ρ3 with
          | none => rw [qe] at eq; cases eq
          | some pe =>
            obtain ⟨re, ρ4⟩ := pe
            rw [qe] at eq
            cases re with
            | ex C ns ds' => cases eq
            | ok y =>
              simp only at eq
              split at eq
              · rename_i hsm
                refine A.runV R3 qe fun v H4 H4' s4 R4 rd4 => ?_
                obtain ⟨z1, z2⟩ := R4.side hDn hD0n no0
                have hno := still_apart (R4.unwipe ew) hDn no0
                have ra4 : RDs K H4 acc av := ra.mono (((gr.g1.trans s2).trans s3).trans s4)
                refine ⟨av, z1, by rw [ra.length]; exact small_lt hsm, nx _ (acc ++ [y]) (wipeR ρ4 vs) ⟨H4, av ++ [v], (sa.trans s3).trans s4, ?_, hno, z2, upd_same, ra4.append (RDs.cons rd4 RDs.nil)⟩ eq⟩
                have Z2 : Rep K F σ H4 H4' (wipeR ρ4 vs) := (Rw.back R4).unwipe ew
                exact Z2.addTo hFD z1 z2 hno ra4 rd4
              · cases eq
/-! ### [.. for .. for ..] -/
def lc2M (T : Dt → Up) (t : M Bool) (fi1 : M (List Dt)) (T1 : Dt → Up) (t1 : M Bool) (e : M Sl) (vs vs1 : List Nat) : List Dt → List Dt → List Sl → Option (List Dt × List Sl)
  | [], acc, ρ => some (acc, ρ)
  | d :: ds, acc, ρ => match T d (wipeR ρ vs) with
    | none => none
    | some ρ1 => match t ρ1 with
      | some (.ok true, ρ2) => match fi1 ρ2 with
        | some (.ok es, ρ3) => match lcM T1 t1 e vs1 es acc (wipeR ρ3 vs1) with
          | some (acc', ρ4) => lc2M T t fi1 T1 t1 e vs vs1 ds acc' (wipeR ρ4 vs)
          | none => none
        | _ => none
      | some (.ok false, ρ2) => lc2M T t fi1 T1 t1 e vs vs1 ds acc (wipeR ρ2 vs)
      | _ => none
def fLc2 (fi : M (List Dt)) (T : Dt → Up) (t : M Bool) (fi1 : M (List Dt)) (T1 : Dt → Up) (t1 : M Bool) (e : M Sl) (vs vs1 : List Nat) : M Sl := mB fi fun ds ρ => match lc2M T t fi1 T1 t1 e vs vs1 ds [] (wipeR ρ vs) with
  | some (acc, ρ') => some (.ok (.own (.lst acc)), ρ')
  | none => none
theorem not_own_back {D : Addr} {vs : List Nat} (ew : L2.wipe σ2 vs = L2.wipe σ vs) (h : D ∉ owns σ2 ρ) : D ∉ owns σ (wipeR ρ vs) := fun hm => by
  obtain ⟨j, o, h1, h2⟩ := mem_owns.mp hm
  have hj : j ∉ vs := wipeR_some h1 (fun z => nomatch z)
  rw [wipeR_out hj] at h1
  refine h (mem_owns.mpr ⟨j, o, h1, ?_⟩)
  rw [← wipe_get (σ := σ2) hj, ew, wipe_get hj]
  exact h2
instance sLc2 {wi wi1 : TI} {g g1 : TG} {tt tt1 : TT} {te : TE} {vs vs1 : List Nat} {fi fi1 : M (List Dt)} {T T1 : Dt → Up} {t t1 : M Bool} {e : M Sl} [I : SimI K E wi fi] [G : SimG K (notIn vs) g T] [C : SimT K E tt t]
    [I1 : SimI K E wi1 fi1] [G1 : SimG K (notIn vs1) g1 T1] [C1 : SimT K E tt1 t1] [A : SimE K E te e] : SimE K E (tLc2 wi g tt wi1 g1 tt1 te vs vs1) (fLc2 fi T t fi1 T1 t1 e vs vs1) where
  run := fun F σ H0 H ρ r ρ' Q R e0 h => by
    rcases mB_inv e0 with ⟨ds, ρ1, e1, e2⟩ | ⟨C, ns, ds, e1, rfl⟩
    · refine I.run F σ H0 H ρ _ _ _ R e1 fun J H1 H' s1 R1 w => ?_
      cases q : lc2M T t fi1 T1 t1 e vs vs1 ds [] (wipeR ρ1 vs) with
      | none => simp only [q] at e2; cases e2
      | some p =>
        obtain ⟨accF, ρF⟩ := p
        simp only [q, Option.some.injEq, Prod.mk.injEq] at e2
        obtain ⟨rfl, rfl⟩ := e2
        obtain ⟨Gd, Y, W, hG, hY⟩ := w
        intro D hD
        have hD1 : H1 D = none := same_none R1.s2 hD
        have hFD : F.He D = none ∨ D ∈ F.P := .inl (R1.fresh hD)
        refine ⟨fun i m Hq => m = ds.length - i ∧ i ≤ ds.length ∧ ∃ ρq acc, LcAt K F σ D H1 Hq acc ρq ∧ lc2M T t fi1 T1 t1 e vs vs1 (ds.drop i) acc ρq = some (accF, ρF),
          ⟨ds.length, rfl, Nat.zero_le _, wipeR ρ1 vs, [], ⟨H1, [], Same.refl _, R1.clean.grow (.side R1.s2 hD), not_own_clean (R1.notOwn hD), hD1, upd_same, RDs.nil⟩, by simpa using q⟩, ?_⟩
        rintro i m Hq ⟨hm, hi, ρq, acc, ⟨H0q, av, sq, Rq, no, hD0, hDq, ra⟩, eq⟩
        by_cases hlt : i < ds.length
        · refine Or.inr ⟨W.goes i Hq hlt (hG Hq (sq.trans Rq.s2)), fun Hn => ∃ ρq acc, LcAt K F σ D H1 Hn acc ρq ∧ lc2M T t fi1 T1 t1 e vs vs1 (ds.drop (i + 1)) acc ρq = some (accF, ρF),
            fun Hn hn => ⟨ds.length - (i + 1), by omega, rfl, hlt, hn⟩, fun x Hq' y0 => ?_⟩
          have y := W.yields i Hq x Hq' hlt (hG Hq (sq.trans Rq.s2)) y0
          obtain ⟨d, H0n, ed, gr, rd⟩ := hY i Hq x Hq' H0q hlt sq Rq.s2 y
          have Rn := Rq.grow gr
          have hDn : Hq' D = some (.lst av) := gr.g2 _ _ hDq
          have hD0n : H0n D = none := gr.g4 D (by rw [hDq]; exact fun z => nomatch z) hD0
          rw [List.drop_eq_getElem_cons hlt] at eq
          have ed' : ds[i] = d := by
            rw [List.getElem?_eq_getElem hlt] at ed
            exact Option.some.inj ed
          rw [ed'] at eq
          unfold lc2M at eq
          have Rw := Rn.wipe vs
          have no0 := not_own_wipe (vs := vs) no
          cases qT : T d (wipeR ρq vs) with
          | none => rw [qT] at eq; cases eq
          | some ρ2 =>
            simp only [qT] at eq
            refine G.run (DL.snap (L2.wipe σ vs) H0n Hq' (wipeR ρq vs)) (L2.wipe σ vs) H0n Hq' (wipeR ρq vs) ρ2 d x _ Rw.snap rd qT fun σ2 H2 H2' s2 p2 R2 => ?_
            have ew : L2.wipe σ2 vs = L2.wipe σ vs := by
              rw [← wipe_wipe (σ := σ)]
              exact wipe_eq p2.1 fun j hj => p2.2 j (by simp [notIn, hj])
            refine ⟨ew, ?_⟩
            have sa : Same H1 H2 := (sq.trans gr.g1).trans s2
            cases qt : t ρ2 with
            | none => rw [qt] at eq; cases eq
            | some pt =>
              obtain ⟨rt, ρ3⟩ := pt
              rw [qt] at eq
              cases rt with
              | ex C ns ds' => cases eq
              | ok b =>
                refine C.run _ σ2 H2 H2' ρ2 _ _ _ R2 qt fun H3 H3' s3 R3 => ?_
                cases b with
                | false =>
                  simp only [Bool.false_eq_true, if_false] at eq ⊢
                  obtain ⟨z1, z2⟩ := R3.side hDn hD0n no0
                  exact ⟨wipeR ρ3 vs, acc, ⟨H3, av, sa.trans s3, (Rw.back R3).unwipe ew, still_apart (R3.unwipe ew) hDn no0, z2, z1, ra.mono ((gr.g1.trans s2).trans s3)⟩, eq⟩
                | true =>
                  simp only [if_true] at eq ⊢
                  cases qi : fi1 ρ3 with
                  | none => rw [qi] at eq; cases eq
                  | some pi =>
                    obtain ⟨ri, ρ4⟩ := pi
                    rw [qi] at eq
                    cases ri with
                    | ex C ns ds' => cases eq
                    | ok es =>
                      simp only at eq
                      cases ql : lcM T1 t1 e vs1 es acc (wipeR ρ4 vs1) with
                      | none => rw [ql] at eq; cases eq
                      | some pl =>
                        obtain ⟨acc', ρ5⟩ := pl
                        rw [ql] at eq
                        simp only at eq
                        refine I1.run _ σ2 H3 H3' ρ3 _ _ _ R3 qi fun J1 H4 H4' s4 R4 w1 => ?_
                        obtain ⟨z1, z2⟩ := R4.side hDn hD0n no0
                        have hno4 := still_apart R4 hDn no0
                        have R4b := Rw.back R4
                        have s14 : Same H1 H4 := (sa.trans s3).trans s4
                        obtain ⟨Gd1, Y1, W1, hG1, hY1⟩ := w1
                        have hFi : (DL.snapX D σ2 H4 H4' (wipeR ρ4 vs1)).He D = none ∨ D ∈ (DL.snapX D σ2 H4 H4' (wipeR ρ4 vs1)).P := .inr (List.mem_cons_self ..)
                        have Rc := R4b.clean (vs := vs1)
                        refine ⟨fun j k Hj => k = es.length - j ∧ j ≤ es.length ∧ ∃ ρj accj, LcAt K (DL.snapX D σ2 H4 H4' (wipeR ρ4 vs1)) σ2 D H4 Hj accj ρj ∧ lcM T1 t1 e vs1 (es.drop j) accj ρj = some (acc', ρ5),
                          ⟨es.length, rfl, Nat.zero_le _, wipeR ρ4 vs1, acc, ⟨H4, av, Same.refl _, Rc.snapX, not_own_clean hno4, z2, z1, ra.mono (((gr.g1.trans s2).trans s3).trans s4)⟩, by simpa using ql⟩, ?_⟩
                        rintro j k Hj ⟨hk, hj, ρj, accj, ⟨H0j, avj, sj, Rj, noj, hDj0, hDj, raj⟩, eqj⟩
                        by_cases hjl : j < es.length
                        · refine Or.inr ⟨W1.goes j Hj hjl (hG1 Hj (sj.trans Rj.s2)), fun Hn => ∃ ρj accj, LcAt K (DL.snapX D σ2 H4 H4' (wipeR ρ4 vs1)) σ2 D H4 Hn accj ρj ∧ lcM T1 t1 e vs1 (es.drop (j + 1)) accj ρj = some (acc', ρ5),
                            fun Hn hn => ⟨es.length - (j + 1), by omega, rfl, hjl, hn⟩, fun x1 Hj' y1 => ?_⟩
                          have y2 := W1.yields j Hj x1 Hj' hjl (hG1 Hj (sj.trans Rj.s2)) y1
                          obtain ⟨d1, H0m, ed1, gr1, rd1⟩ := hY1 j Hj x1 Hj' H0j hjl sj Rj.s2 y2
                          rw [List.drop_eq_getElem_cons hjl] at eqj
                          have ed1' : es[j] = d1 := by
                            rw [List.getElem?_eq_getElem hjl] at ed1
                            exact Option.some.inj ed1
                          rw [ed1'] at eqj
                          exact lc_turn (E := E) (G := G1) (C := C1) (A := A) hFi sj Rj noj hDj0 hDj raj gr1 rd1 eqj fun Hn a' ρn la le => ⟨ρn, a', la, le⟩
                        · have ej : j = es.length := by omega
                          subst ej
                          rw [List.drop_length] at eqj
                          unfold lcM at eqj
                          simp only [Option.some.injEq, Prod.mk.injEq] at eqj
                          obtain ⟨rfl, rfl⟩ := eqj
                          refine Or.inl ⟨W1.stops Hj (hG1 Hj (sj.trans Rj.s2)), wipeR ρj vs, accj, ⟨H0j, avj, s14.trans sj, (Rc.backX hFD Rj z2).unwipe ew, not_own_back ew noj, hDj0, hDj, raj⟩, eq⟩
        · have ei : i = ds.length := by omega
          subst ei
          rw [List.drop_length] at eq
          unfold lc2M at eq
          simp only [Option.some.injEq, Prod.mk.injEq] at eq
          obtain ⟨rfl, rfl⟩ := eq
          exact Or.inl ⟨W.stops Hq (hG Hq (sq.trans Rq.s2)), h _ H0q Hq (s1.trans sq) (Rq.pushOwn hD0 hFD ⟨av, hDq, ra⟩ fun j o h1 h2 => no (mem_owns.mpr ⟨j, o, h1, h2⟩))⟩
    · exact I.run F σ H0 H ρ _ _ _ R e1 (h.hx C ns ds rfl)
end
end DL

end
section
set_option Elab.async false
set_option linter.all false
set_option maxRecDepth 100000
set_option maxHeartbeats 4000000
/-! F5: while, starred displays, reversed slices, list.index. -/
namespace DL
open PySem PySem.Spec L2
section
variable {K : Fg} {E : SX} {F : Fr} {pin : Nat → Bool} {σ σ2 : L2.St} {H0 H : Hp} {ρ ρ' : List Sl}
/-! ### while -/
def whileN (c : M Bool) (B : M So) : Nat → M So
  | 0 => fun _ => none
  | n + 1 => mB c fun b => if b then mB B (fun | .bk => mP .nx | .rt s => mP (.rt s) | _ => whileN c B n) else mP .nx
theorem mB_mono {α β : Type} {f : M α} {g g' : α → M β} (h : ∀ a ρ x, g a ρ = some x → g' a ρ = some x) {ρ : List Sl} {x : Rs β × List Sl} (e : mB f g ρ = some x) : mB f g' ρ = some x := by
  obtain ⟨r, ρ'⟩ := x
  rcases mB_inv e with ⟨a, ρ1, e1, e2⟩ | ⟨C, ns, ds, e1, rfl⟩
  · unfold mB; rw [e1]; exact h _ _ _ e2
  · unfold mB; rw [e1]
theorem whileN_mono {c : M Bool} {B : M So} : ∀ {n m : Nat} {ρ : List Sl} {x : Rs So × List Sl}, n ≤ m → whileN c B n ρ = some x → whileN c B m ρ = some x
  | 0, _, _, _, _, e => nomatch e
  | n + 1, 0, _, _, h, _ => absurd h (by omega)
  | n + 1, m + 1, ρ, x, h, e => by
    unfold whileN at e ⊢
    refine mB_mono (fun b ρ1 y e1 => ?_) e
    cases b with
    | false => exact e1
    | true =>
      simp only [if_true] at e1 ⊢
      refine mB_mono (fun o ρ2 z e2 => ?_) e1
      cases o with
      | nx => exact whileN_mono (by omega) e2
      | ct => exact whileN_mono (by omega) e2
      | bk => exact e2
      | rt s => exact e2
open Classical in
noncomputable def fWhile (c : M Bool) (B : M So) : M So := fun ρ => if h : ∃ n x, whileN c B n ρ = some x then some h.choose_spec.choose else none
theorem fWhile_of {c : M Bool} {B : M So} {n : Nat} {x : Rs So × List Sl} (e : whileN c B n ρ = some x) : fWhile c B ρ = some x := by
  unfold fWhile
  have h : ∃ n x, whileN c B n ρ = some x := ⟨n, x, e⟩
  rw [dif_pos h]
  have e2 := h.choose_spec.choose_spec
  have e3 := whileN_mono (Nat.le_max_left n h.choose) e
  have e4 := whileN_mono (Nat.le_max_right n h.choose) e2
  exact e4.symm.trans e3
theorem fWhile_inv {c : M Bool} {B : M So} {x : Rs So × List Sl} (e : fWhile c B ρ = some x) : ∃ n, whileN c B n ρ = some x := by
  unfold fWhile at e
  split at e
  · rename_i h
    cases e
    exact ⟨_, h.choose_spec.choose_spec⟩
  · cases e
noncomputable instance sWhile {tc : TT} {tb : TS} {c : M Bool} {B : M So} [C : SimT K E tc c] [S : SimS K E pin tb B] : SimS K E pin (tWhile tc tb) (fWhile c B) where
  run := fun F σ H0 H ρ r ρ' D R e h => by
    obtain ⟨n, en⟩ := fWhile_inv e
    refine ⟨fun m σ' Hq => ∃ H0q ρq, Same H0 H0q ∧ Pin pin σ σ' ∧ Rep K F σ' H0q Hq ρq ∧ whileN c B m ρq = some (r, ρ'), ⟨n, H0, ρ, Same.refl _, Pin.refl _ _, R, en⟩, ?_⟩
    rintro m σ' Hq ⟨H0q, ρq, sq, pq, Rq, eq⟩
    cases m with
    | zero => cases eq
    | succ m =>
      unfold whileN at eq
      have hq := h.later sq pq
      refine C.bind Rq eq (fun C ns ds er d H0' H' s R' x => by subst er; exact hq.hx C ns ds rfl d H0' H' s R' x) fun b ρ1 H1 H1' e1 s1 R1 => ?_
      cases b with
      | false =>
        obtain ⟨rfl, rfl⟩ := mP_inv e1
        exact hq _ H1 H1' s1 (Pin.refl _ _) R1
      | true =>
        simp only [if_true] at e1 ⊢
        refine ⟨fun σ' Hq => ∃ H0q ρq, Same H0 H0q ∧ Pin pin σ σ' ∧ Rep K F σ' H0q Hq ρq ∧ whileN c B m ρq = some (r, ρ'), fun σ2 H2 w => ⟨m, Nat.lt_succ_self m, w⟩, ?_⟩
        rcases mB_inv e1 with ⟨o, ρ2, e3, e4⟩ | ⟨C, ns, ds, e3, rfl⟩
        · refine S.run F σ' H1 H1' ρ1 _ _ _ R1 e3 ?_
          cases o with
          | nx => exact fun σ3 H3 H3' s3 p3 R3 => ⟨H3, ρ2, (sq.trans s1).trans s3, pq.trans p3, R3, e4⟩
          | ct => exact fun σ3 H3 H3' s3 p3 R3 => ⟨H3, ρ2, (sq.trans s1).trans s3, pq.trans p3, R3, e4⟩
          | bk =>
            obtain ⟨rfl, rfl⟩ := mP_inv e4
            exact fun σ3 H3 H3' s3 p3 R3 => hq σ3 H3 H3' (s1.trans s3) p3 R3
          | rt s =>
            obtain ⟨rfl, rfl⟩ := mP_inv e4
            exact fun v σ3 H3 H3' s3 p3 R3 => hq v σ3 H3 H3' (s1.trans s3) p3 R3
        · exact S.run F σ' H1 H1' ρ1 _ _ _ R1 e3 fun d' σ3 H3 H3' s3 p3 R3 x => hq d' σ3 H3 H3' (s1.trans s3) p3 R3 x
/-! ### *xs in a display -/
def fStar (f : M Sl) (g : M (List Dt)) : M (List Dt) := mB (vl f) fun d => match seqOf d with
  | some ds => mB g fun es => mP (ds ++ es)
  | none => fun _ => none
instance sStar {te : TE} {t : TA} {f : M Sl} {g : M (List Dt)} [A : SimE K E te f] [B : SimA K E t g] : SimA K E (StX.tStar K te t) (fStar f g) where
  run := fun F σ H0 H ρ r ρ' Q R e h => by
    refine A.bindV R e h.hx fun c ρ1 v H1 H' e1 s1 R1 rd1 => ?_
    cases q : seqOf c with
    | none => simp only [q] at e1; cases e1
    | some ds =>
      simp only [q] at e1
      obtain ⟨p, xs, rfl, hs, hr⟩ := rd1.seq q
      refine ⟨p, xs, rfl, hs.symm.imp (sqT_mono R1.s2) (fun z => R1.s2.seq z), ?_⟩
      refine B.bind R1 e1 (h.later s1).hx fun es ρ2 vs H2 H'' e2 s2 R2 rd2 => ?_
      obtain ⟨rfl, rfl⟩ := mP_inv e2
      exact h _ H2 H'' (s1.trans s2) R2 ((hr.mono s2).append rd2)
theorem kStar {X : Cx} {K : Fg} {e : Expr} {es : List Expr} {te : TE} {t : TA} {p : Pos} (h : X.K = K) (he : PE X e te) (hr : PA X es t) (hs : starEach (.Starred e p :: es) X.env = (true, eval e X.env) :: starEach es X.env := by rfl) : PA X (.Starred e p :: es) (StX.tStar K te t) := h ▸ StX.pa_star he hr hs
/-! ### xs[::-1], a list -/
def fRevL (f : M Sl) : M Sl := mB (vl f) fun d => match d with
  | .lst ds => mP (.own (.lst ds.reverse))
  | .rol ds => mP (.own (.lst ds.reverse))
  | _ => fun _ => none
theorem RDs.rev : ∀ {ds : List Dt} {xs : List V}, RDs K H ds xs → RDs K H ds.reverse xs.reverse
  | [], xs, h => by rw [h.nil_inv]; exact RDs.nil
  | d :: ds, xs, h => by
    obtain ⟨v, r, rfl, h1, h2⟩ := h.inv
    rw [List.reverse_cons, List.reverse_cons]
    exact (RDs.rev h2).append (RDs.cons h1 RDs.nil)
instance sRevL {te : TE} {f : M Sl} [A : SimE K E te f] : SimE K E (tRevL K te) (fRevL f) where
  run := fun F σ H0 H ρ r ρ' Q R e h => by
    refine A.bindV R e h.hx fun c ρ1 v H1 H' e1 s1 R1 rd1 => ?_
    split at e1
    · rename_i ds
      obtain ⟨rfl, rfl⟩ := mP_inv e1
      obtain ⟨a, xs, rfl, h1, h2⟩ := rd1.lst_inv
      exact ⟨a, xs, rfl, SqL.of (R1.s2 _ _ h1), fun p hp => h _ H1 _ s1 (R1.laid (o := .lst ds.reverse) hp ⟨xs.reverse, upd_same, h2.rev⟩)⟩
    · rename_i ds
      obtain ⟨rfl, rfl⟩ := mP_inv e1
      obtain ⟨a, xs, rfl, h1, h2⟩ := rd1.rol_inv
      exact ⟨a, xs, rfl, R1.s2.seq h1, fun p hp => h _ H1 _ s1 (R1.laid (o := .lst ds.reverse) hp ⟨xs.reverse, upd_same, h2.rev⟩)⟩
    · cases e1
theorem kRevL {X : Cx} {K : Fg} {e : Expr} {te : TE} {k : Nat} {p1 p2 p3 pos : Pos} (h : X.K = K) (he : PE X e te) : PE X (.Subscript e (.Slice none none (some (.UnaryOp .USub (.Constant (.int 1) k p1) p2)) p3) pos) (tRevL K te) := h ▸ pe_revL he
/-! ### methods of lists that only look -/
def fLM (g : Dt → List Dt → Option Sl) (fo : M Sl) (fa : M (List Dt)) : M Sl := mB (vl fo) fun d => match d with
  | .lst z => mB fa fun es => mO (unOk (g (.lst z) es))
  | .rol z => mB fa fun es => mO (unOk (g (.rol z) es))
  | _ => fun _ => none
instance sLM {r : V → List V → Hp → VK → Prop} {g : Dt → List Dt → Option Sl} {to : TE} {t : TA} {fo : M Sl} {fa : M (List Dt)} [A : SimE K E to fo] [B : SimA K E t fa] [O : MtV K r g] : SimE K E (tBM K "list" r to t) (fLM g fo fa) where
  run := fun F σ H0 H ρ r' ρ' Q R e h => by
    refine A.bindV R e h.hx fun c ρ1 v H1 H' e1 s1 R1 rd1 => ?_
    have fin : ∀ {z : Dt} {ρ1 : List Sl}, c = z → Rep K F σ H1 H' ρ1 → mB fa (fun es => mO (unOk (g z es))) ρ1 = some (r', ρ') → tyV K "list" v H' → tyV K "list" v H' ∧ t σ H' fun xs H2 => r v xs H2 Q := fun {z ρ1} ec R1 e1 ty => by
      subst ec
      refine ⟨ty, B.bind R1 e1 (h.later s1).hx fun ds ρ2 vs H2 H'' e2 s2 R2 rd2 => ?_⟩
      obtain ⟨s, es, rfl, rfl⟩ := mO_inv e2
      obtain ⟨e3, n⟩ := unOk_inv es
      exact O.run v vs _ ds s H2 H'' Q R2.s2 (rd1.mono s2) rd2 e3 (.of n R2 (h.later (s1.trans s2)))
    split at e1
    · rename_i z
      obtain ⟨a, xs, rfl, h1, h2⟩ := rd1.lst_inv
      exact fin rfl R1 e1 (.inl ⟨rfl, xs, SqL.of (R1.s2 _ _ h1)⟩)
    · rename_i z
      obtain ⟨a, xs, rfl, h1, h2⟩ := rd1.rol_inv
      exact fin rfl R1 e1 (.inl ⟨rfl, xs, R1.s2.seq h1⟩)
    · cases e1
def flatD : Dt → Bool
  | .non | .bl _ | .int _ | .str _ => true
  | _ => false
def eqFD : Dt → Dt → Bool
  | .non, .non => true
  | .bl a, .bl b => a == b
  | .bl a, .int b => (if a then 1 else 0) == b
  | .int a, .bl b => a == (if b then 1 else 0)
  | .int a, .int b => a == b
  | .str a, .str b => a == b
  | _, _ => false
theorem flatD_read {d : Dt} {v : V} (h : RD K H d v) (f : flatD d = true) : flatV v = true := by
  cases d <;> simp only [flatD] at f <;> try (exact absurd f Bool.false_ne_true)
  · rw [h.non_inv]; rfl
  · rw [h.bl_inv]; rfl
  · rw [h.int_inv]; rfl
  · rw [h.str_inv]; rfl
theorem eqFD_read {d e : Dt} {v u : V} (h : RD K H d v) (k : RD K H e u) (f : flatD d = true) (g : flatD e = true) : eqV v u = eqFD d e := by
  cases d <;> simp only [flatD] at f <;> try (exact absurd f Bool.false_ne_true)
  all_goals cases e <;> simp only [flatD] at g <;> try (exact absurd g Bool.false_ne_true)
  all_goals first | rw [h.non_inv] | rw [h.bl_inv] | rw [h.int_inv] | rw [h.str_inv]
  all_goals first | rw [k.non_inv] | rw [k.bl_inv] | rw [k.int_inv] | rw [k.str_inv]
  all_goals rfl
/-- the first place of an equal one -/
def placeD (y : Dt) : List Dt → Option Nat
  | [] => none
  | d :: ds => if eqFD d y then some 0 else (placeD y ds).map (· + 1)
theorem placeD_read {y : Dt} {u : V} (ky : RD K H y u) (fy : flatD y = true) : ∀ {ds : List Dt} {vs : List V} {j : Nat}, RDs K H ds vs → ds.all flatD = true → placeD y ds = some j →
    (∃ z, vs[j]? = some z ∧ eqV z u = true) ∧ ∀ (m : Nat) (z' : V), m < j → vs[m]? = some z' → eqV z' u = false
  | [], _, _, _, _, e => nomatch e
  | d :: ds, vs, j, h, f, e => by
    obtain ⟨v, r, rfl, h1, h2⟩ := h.inv
    simp only [List.all_cons, Bool.and_eq_true] at f
    have ev := eqFD_read h1 ky f.1 fy
    unfold placeD at e
    by_cases hq : eqFD d y = true
    · rw [if_pos hq] at e
      cases e
      exact ⟨⟨v, rfl, by rw [ev]; exact hq⟩, fun m z' hm => absurd hm (by omega)⟩
    · rw [if_neg hq] at e
      cases qp : placeD y ds with
      | none => rw [qp] at e; cases e
      | some k =>
        rw [qp] at e
        cases e
        obtain ⟨⟨z, e1, e2⟩, e3⟩ := placeD_read ky fy h2 f.2 qp
        refine ⟨⟨z, by simpa using e1, e2⟩, fun m z' hm hz => ?_⟩
        cases m with
        | zero =>
          have : v = z' := by simpa using hz
          subst this
          rw [ev]; simpa using hq
        | succ m => exact e3 m z' (by simpa using hm) (by simpa using hz)
def lstOf : Dt → Option (List Dt)
  | .lst ds => some ds
  | .rol ds => some ds
  | _ => none
theorem lstOf_read {d : Dt} {v : V} {ds : List Dt} (h : RD K H d v) (e : lstOf d = some ds) : ∃ a xs, v = V.ref a ∧ SqL K H a xs ∧ RDs K H ds xs := by
  cases d <;> simp only [lstOf, Option.some.injEq] at e <;> try cases e
  · obtain ⟨a, xs, h1, h2, h3⟩ := h.lst_inv; exact ⟨a, xs, h1, SqL.of h2, h3⟩
  · obtain ⟨a, xs, h1, h2, h3⟩ := h.rol_inv; exact ⟨a, xs, h1, h2, h3⟩
def gIndex : Dt → List Dt → Option Sl
  | d, [y] => match lstOf d with
    | some ds => if flatD y && ds.all flatD then (placeD y ds).map fun (j : Nat) => .val (.int j) else none
    | none => none
  | _, _ => none
theorem all_flat : ∀ {ds : List Dt} {vs : List V}, RDs K H ds vs → ds.all flatD = true → vs.all flatV = true
  | [], vs, h, _ => by rw [h.nil_inv]; rfl
  | d :: ds, vs, h, f => by
    obtain ⟨v, r, rfl, h1, h2⟩ := h.inv
    simp only [List.all_cons, Bool.and_eq_true] at f ⊢
    exact ⟨flatD_read h1 f.1, all_flat h2 f.2⟩
instance vIndex : MtV K (rIndex K) gIndex where
  run := fun x xs d ds s H0 H Q sm rx rxs eq h => by
    unfold gIndex at eq
    split at eq
    · rename_i y
      cases q : lstOf d with
      | none => rw [q] at eq; cases eq
      | some es =>
        rw [q] at eq
        simp only at eq
        split at eq
        · rename_i hf
          simp only [Bool.and_eq_true] at hf
          cases qp : placeD y es with
          | none => rw [qp] at eq; cases eq
          | some j =>
            rw [qp] at eq
            cases eq
            obtain ⟨u, rfl, hu⟩ := rxs.one
            obtain ⟨a, vs, rfl, hs, hr⟩ := lstOf_read rx q
            obtain ⟨⟨z, e1, e2⟩, e3⟩ := placeD_read hu hf.1 hr hf.2 qp
            exact ⟨a, vs, u, j, z, rfl, rfl, sm.seq hs, flatD_read hu hf.1, all_flat hr hf.2, e1, e2, e3, h.val sm RD.int⟩
        · cases eq
    · cases eq
end
end DL

end
section
set_option Elab.async false
set_option linter.all false
set_option maxRecDepth 100000
set_option maxHeartbeats 4000000
/-! X1: own classes of exceptions over any built-in one, whose __init__ stores one field. -/
namespace DL
open PySem PySem.Spec L2 PyProof.Rows
/-- what the written part says of such a class -/
structure OwnX (K : Fg) (C : Addr) (B N I : String) (bm : List Value) : Prop where
  facts : ExcBaseFacts B N I bm
  cls : ∃ nm q D bs sn sub ab col dd k0 k1 k2 k3 k5, K.lookup C = some (excClassObj nm q C D bs bm true sn sub ab col dd k0 k1 k2 k3 k5 N)
  obj : bm.contains (.type "object") = true
  pass : ∀ self, refuseLoop self "__setattr__" bm = pure ()
  sa : PySem.W.findIn K (.ref C) "__setattr__" = some (some (.builtin "object.__setattr__"))
  exC : PySem.W.subIn K (.ref C) (.type "BaseException") = some true
  tyC : PySem.W.typeIn K (.ref C) = some (.type "type")
  kC : PySem.W.keepIn K (.ref C) = true
section
open PySem.W PySem.Calls Builtin Builtin.ObjectAttr PySem.HandSPX
variable {prog : Program} {w : World} {A : Around} {R : Result → Shared → Prop} {hp : Heap} {g : Array GenState} {d : Drawn} {t : Nat} {os : OsState} {K : Fg}
/-- the first field: the exception gets its dict -/
theorem first_field {f : Str} {tk : Tok} {v : Value} {x C : Addr} {fv : Array Value} {cd : ClassData} (X : K.In hp) (hx : hp.get? x = some { cls := .ref C, data := .fields fv }) (hcd : PySem.W.clsIn K C = some cd)
    (ob : cd.mro.contains (.type "object") = true) (nn : cd.mro.isEmpty = false) (ps : ∀ self, refuseLoop self "__setattr__" cd.mro = pure ()) (hh : cd.hasDict = true) (ha : PySem.W.findIn K (.ref C) f = some none)
    (hq : ∀ G tk' dx, (∀ b o, b ≠ x → hp.get? b = some o → G.get? b = some o) → hp.objs.size ≤ dx → dx ≠ x → G.get? x = some { cls := .ref C, dict := some dx, data := .fields fv } →
      G.Ns1 dx (fun y => if y = f then some v else none) → R (.ok (.ret .none)) ⟨G, g, d, tk', os⟩) :
    codeAny (model prog w) A (.call (.builtin "object.__setattr__") ⟨[.ref x, .str f tk, v], []⟩) R ⟨hp, g, d, t, os⟩ := by
  have inst : InstAt hp x { cls := .ref C, data := .fields fv } C none := ⟨hx, rfl, rfl, trivial⟩
  have x_lt : x ≠ hp.objs.size := Nat.ne_of_lt (Heap.lt_size hx)
  have isObj : Looks (model prog w) hp (isInstance (.ref x) (.type "object")) true := by
    refine inst.type.andThen (looks_mroIn X ?_)
    unfold mroIn
    rw [hcd, Option.bind_some, if_neg (by rw [nn]; decide), ob]
  have chain : Looks (model prog w) hp (mroOf (.ref C)) cd.mro := (looks_clsIn X hcd).andThen .now
  have datas : Looks (model prog w) hp (classData C) cd := looks_clsIn X hcd
  have taker : Looks (model prog w) hp (storeTaker? none) none := .now
  refine codeAny_call_builtin F.store_object.slot.plain F.store_object.entry
    (@check_slot (model prog w) _ _ ⟨hp, g, d, t, os⟩ "object.__setattr__" "object" "__setattr__" (.ref x) [.str f tk, v] [] _ F.store_object.kind F.store_object.split isObj (F.store_object.args (.ref x) (.str f tk) v) ?_)
  rw [osa_eq, refuse_eq]
  refine wpAny_bind (wpAny_bind (inst.type.at (wpAny_bind (chain.at ?_))))
  rw [ps]
  refine wpAny_pure (wpAny_bind (inst.type.at (wpAny_bind ((looks_findIn X ha).at (wpAny_bind (taker.at (?_ : wpAny _ _ (storeInOwnDict (.ref x) (.ref C) (.str f tk) f v false) _ _ _)))))))
  rcases cd with ⟨nm, bs, mro, ns, qn, hd, sn, sb, ab, col, del⟩
  obtain rfl : hd = true := hh
  unfold storeInOwnDict ownDictForStores
  repeat (first | with_reducible refine store_in_new ?_ ?_ | with_reducible refine wpAny_loadPart_at hx ?_ | with_reducible refine datas.at ?_ | wp_step)
  · exact ⟨_, #[], _,
      (Heap.get?_update_ne _ _ _ _ x_lt.symm).trans (Heap.get?_push_at rfl rfl), rfl, fun e he => absurd he (by simp), fun _ => rfl⟩
  · rintro G tk' ns1 ⟨_, same⟩
    have hx1 : (hp.push { cls := .type "dict", data := .dict #[] }).get? x = some { cls := .ref C, data := .fields fv } := Heap.get?_push_of_some _ hx
    refine hq G tk' hp.objs.size (fun b o hb ho => ?_) (Nat.le_refl _) x_lt.symm ?_ ns1
    · exact (same b (Nat.ne_of_lt (Heap.lt_size ho))).trans ((Heap.get?_update_ne _ _ _ _ hb).trans (Heap.get?_push_of_some _ ho))
    · exact (same x x_lt).trans (Heap.get?_update_self _ hx1 rfl)
end
section
variable {X : Cx} {pins : List (Addr × Obj)} {σ : L2.St} {H : Hp} {s : Shared} {a C : Addr} {f : Str} {y : V} {u : Value} {B N I : String} {bm : List Value} {E : Value → Shared → Prop} {A : Around}
theorem OwnX.clsIn (T : OwnX X.K C B N I bm) : ∃ cd : ClassData, PySem.W.clsIn X.K C = some cd ∧ cd.mro = .ref C :: bm ∧ cd.hasDict = true := by
  obtain ⟨nm, q, D, bs, sn, sub, ab, col, dd, k0, k1, k2, k3, k5, hC⟩ := T.cls
  refine ⟨{ name := nm, bases := bs, mro := .ref C :: bm, ns := D, qualname := q, hasDict := true, slotNames := sn, subclasses := sub, abstract := ab, collection := col, hasDel := false }, ?_, rfl, rfl⟩
  unfold PySem.W.clsIn
  rw [hC]
/-- self.f = y, the exception's first field -/
theorem OwnX.store (T : OwnX X.K C B N I bm) (J : Inv X pins σ H s) (e : H a = some (exo a C none)) (hno : PySem.W.findIn X.K (.ref C) f = some none) (ry : RelV y u) {Q : Unit → Shared → Prop}
    (h : ∀ dx s', H dx = none → dx ≠ a → Inv X pins σ (upd (upd H dx (exd dx [(f, y)])) a (exo a C (some dx))) s' → Q () s') : wpAny (model X.prog X.w) A (setAttr (.ref a) f u) Q E s := by
  obtain ⟨cd, hcd, em, hh⟩ := T.clsIn
  obtain ⟨t1, ho⟩ := exo_at J.hok e
  rcases s with ⟨hp, g, d, t, os⟩
  have mro : ∀ self, refuseLoop self "__setattr__" cd.mro = pure () := fun self => by rw [em, refuseLoop_ref]; exact T.pass self
  have ob : cd.mro.contains (.type "object") = true := by rw [em, List.contains_cons, T.obj, Bool.or_true]
  have nn : cd.mro.isEmpty = false := by rw [em]; rfl
  refine PySem.W.set_plain J.kIn (ox := { cls := .ref C, dict := none, data := .fields #[.ref t1, .none, .none, .none, .bool false, .none] }) (od := none) ⟨ho, rfl, rfl, trivial⟩ T.sa ?_
  refine first_field J.kIn ho hcd ob nn mro hh hno fun G tk' dx keep big ne gx ns => ?_
  have free : H dx = none := J.hok.fresh big
  have oldNe : ∀ {b : Addr} {o : Obj}, hp.get? b = some o → b ≠ dx := fun z => Nat.ne_of_lt (Nat.lt_of_lt_of_le (Heap.lt_size z) big)
  have notA : ∀ {b : Addr}, H b = none → b ≠ a := fun n z => by rw [z, e] at n; exact nomatch n
  have two : ∀ {b : Addr} {o : HO}, H b = some o → o ≠ exo a C none → upd (upd H dx (exd dx [(f, y)])) a (exo a C (some dx)) b = some o := fun {b o} z nz => by
    rw [upd_ne (fun q => nz (by rw [q, e] at z; exact (Option.some.inj z).symm)), upd_ne (ne_of_none z free)]
    exact z
  refine h dx _ free ne (J.un (t' := tk') (H' := upd (upd H dx (exd dx [(f, y)])) a (exo a C (some dx))) ?_ ?_)
  · constructor
    · exact fun b o z n _ _ => keep b o (notA n) z
    · exact fun b o z n _ _ => ⟨o.slots, keep b o (notA n) z⟩
    · exact fun b o z n _ => by rw [upd_ne (notA n), upd_ne (oldNe z)]; exact n
    · exact fun b o z _ => (Classical.em (b = a)).elim (fun q => ⟨_, q ▸ gx⟩) fun q => ⟨o, keep b o q z⟩
    · exact fun b xs z => two z exo_tup.symm
    · exact fun b o v z => two z exo_frz.symm
    · exact fun b ps z => ⟨#[], by rw [two z exo_tbl.symm]; simp⟩
  · intro b o z
    rcases Classical.em (b = a) with rfl | hb
    · rw [upd_same] at z
      exact Option.some.inj z ▸ exo_ok gx
    rw [upd_ne hb] at z
    rcases Classical.em (b = dx) with rfl | hd
    · rw [upd_same] at z
      exact Option.some.inj z ▸ exd_ok ns (relO_put (fs := []) ry fun _ => True.intro)
    rw [upd_ne hd] at z
    refine (J.hok b o z).stay (fun c v hc q => keep c v ?_ q) (fun c hc => two hc exo_own.symm) fun c xs hc => two hc exo_tup.symm
    rcases hc with rfl | hc
    · exact hb
    · exact fun q => exo_own (by rw [q, e] at hc; exact Option.some.inj hc)
/-- B.__init__(self, ..) -/
theorem OwnX.base (T : OwnX X.K C B N I bm) (J : Inv X pins σ H s) (e : H a = some (exo a C none)) {us : List Value} (hl : us.length ≤ sizeLine) {Q : Value → Shared → Prop} (h : ∀ s', Inv X pins σ H s' → Q .none s') :
    wpAny (model X.prog X.w) A (call (.builtin I) (.ref a :: us)) Q E s := by
  obtain ⟨nm, q, D, bs, sn, sub, ab, col, dd, k0, k1, k2, k3, k5, hC⟩ := T.cls
  obtain ⟨t1, ho⟩ := exo_at J.hok e
  rcases s with ⟨hp, g, d, t, os⟩
  refine wpAny_call (PySem.HandSPX.init_base T.facts (fun _ => rfl) (J.kIn _ _ hC) ho hl fun G t2 keep gx => h _ ?_)
  have L := J.write (t' := t) (x := a) (e := a) (o := exo a C none) (by rw [e]; exact True.intro) (.inl rfl) keep ⟨_, gx⟩ (exo_ok gx)
  rwa [show upd H a (exo a C none) = H from funext fun b => by
    rcases Classical.em (b = a) with rfl | hb
    · rw [upd_same, e]
    · rw [upd_ne hb]] at L
end
end DL

end
section
set_option Elab.async false
set_option linter.all false
set_option maxRecDepth 100000
set_option maxHeartbeats 4000000
/-! X2: an own exception is made and raised. -/
namespace DL
open PySem PySem.Spec L2 PyProof.Rows
/-- B.__init__(self, ..) -/
def tBi (K : Fg) (B N I : String) (bm : List Value) (ta : TA) : TE := fun σ H Q => ta σ H fun vs H1 => ∃ (a C : Addr) (ws : List V), vs = .ref a :: ws ∧ ws.length ≤ 1000 ∧ OwnX K C B N I bm ∧ H1 a = some (exo a C none) ∧ Q .non H1
/-- self.f = e, the only one -/
def tSf (K : Fg) (B N I : String) (bm : List Value) (f : Str) (to te : TE) : TS := fun D σ H => te σ H fun y H1 => to σ H1 fun x H2 => ∃ a C : Addr, x = .ref a ∧ OwnX K C B N I bm ∧ PySem.W.findIn K (.ref C) f = some none ∧ H2 a = some (exo a C none) ∧
  ∀ dx, H2 dx = none → dx ≠ a → D.nx σ (upd (upd H2 dx (exd dx [(f, y)])) a (exo a C (some dx)))
section
variable {X : Cx} {o e : Expr} {es : List Expr} {to te : TE} {ta : TA} {f : Str} {p p' p1 p2 pos : Pos} {B N I : String} {bm : List Value} {Bn : Str}
theorem pe_binit {pl : Sem Bool} (hg : Gl X Bn) (hm : X.mg Bn = none) (bt : bootBuiltins Bn = some (.type B)) (ty : typeOf (.type B) = pure (.type "type")) (st : Manifest.isStub B = false)
    (look : PySem.W.findCls X.K (.type B) (.type "type") "__init__" = some (.val (.builtin I))) (hh : PySem.W.handedIn (.builtin I) = true) (ha : PA X (e :: es) ta) (nn : Bn ≠ "__name__" := by decide) (nd : (Bn == ("__debug__" : Str)) = false := by decide)
    (form : eval (.Call (.Attribute (.Name Bn p1) "__init__" p2) (e :: es) [] pos) X.env = (do
      let ov ← eval (.Name Bn p1) X.env
      standAt p2.atName
      let (fn, fst) ← holding [ov] (getMethod ov "__init__" pl)
      callWith pos fn fst (backTo pos (starEach (e :: es) X.env)) (backToKw pos (keywordEach [] X.env))) := by rfl)
    (he : starEach (e :: es) X.env = (false, eval e X.env) :: starEach es X.env := by rfl) (hpl : (backTo pos (starEach es X.env)).any (·.1) = false := by rfl) :
    PE X (.Call (.Attribute (.Name Bn p1) "__init__" p2) (e :: es) [] pos) (tBi X.K B N I bm ta) := by
  constructor
  intro pins s σ H Q J h
  obtain ⟨m, fr⟩ := J.fr
  refine PySem.W.methodCall_KW (ld_blt J hg hm bt (PySem.W.method_type fr J.ok.mod.kin ty st look hh (?_ : wpAny _ _ (callWith pos (Value.builtin I) [] (backTo pos (starEach (e :: es) X.env)) []) _ _ _)) nn nd) form
  refine PyProof.Rows.callWith_method1 (thn (ha.run pos pins _ σ H _ (J.tok _) h) ?_) he hpl
  rintro us s1 ⟨vs, H1, L, r, a, C, ws, rfl, hl, T, ea, q⟩
  cases r with
  | @cons _ u0 _ ur ra rw' =>
    obtain rfl : u0 = Value.ref a := ra
    exact T.base L ea (by rw [← Paired.length rw', sizeLine_eq]; omega) fun s' M => ⟨.non, H1, M, rfl, q⟩
theorem ps_sf (ho : PE X o to) (he : PE X e te) (hs : swapsWith e (some (.Attribute o f p')) pos.line X.env = pure false := by rfl) : PS X (.Assign [.Attribute o f p'] e pos) (tSf X.K B N I bm f to te) := by
  constructor
  intro pins s σ H D J h
  refine plainObj_wpAny_Assign_Attribute (thn (he.run pins s σ H _ J h) fun v s1 ⟨y, H1, J1, r1, q1⟩ => thn (ho.run pins s1 σ H1 _ J1 q1) ?_) hs
  rintro u s2 ⟨x, H2, J2, r2, a, C, rfl, T, hno, ea, q⟩
  obtain rfl : u = Value.ref a := r2
  exact T.store J2 ea hno r1 fun dx s' n ne L => ⟨σ, _, L, q dx n ne⟩
/-- C(e) as what is raised: its __init__ stores e as f -/
def tXm (C : Addr) (f : Str) (ok : V → Prop) (te : TE) : L2.St → Hp → XK → Prop := fun σ H Q => te σ H fun v H1 => ok v ∧ ∀ d, H1 d = none → Q (.ref C) (some d) (upd H1 d (.xd [(f, v)]))
/-- what such an __init__ promises -/
def spX (C : Addr) (f : Str) (ok : V → Prop) : Sp := fun vs H Q _ => ∃ a v, vs = [.ref a, v] ∧ ok v ∧ H a = some (exo a C none) ∧ ∀ dx, H dx = none → dx ≠ a → Q .non (upd (upd H dx (exd dx [(f, v)])) a (exo a C (some dx)))
theorem pmk_x {C fI : Addr} {k : Nat} {fd : FuncData} {ps : List Str} {x : Str} {ok : V → Prop} (T : OwnX X.K C B N I bm) (iC : PySem.W.findIn X.K (.ref C) "__init__" = some (some (.ref fI))) (tI : PySem.W.typeIn X.K (.ref fI) = some (.type "function"))
    (F1 : FnOk X.prog X.w X.K X.mg X.base CX0 k fI fd ps (spX C f ok)) (hr : Room (k + 1) X.A) (hb : Binds X.K fd ps []) (hg : Gl X x) (hm : X.mg x = some (.ref C)) (he : PE X e te)
    (hdb : (x == ("__debug__" : Str)) = false := by decide) (hs : starEach [e] X.env = (false, eval e X.env) :: starEach [] X.env := by rfl) :
    PMk X (.Call (.Name x p) [e] [] pos) (tXm C f ok te) := by
  intro pins s σ H Q J h
  obtain ⟨nm, q, D, bs, sn, sub, ab, col, dd, k0, k1, k2, k3, k5, hC⟩ := T.cls
  refine wpAny_Call_Name_kw (ld_glob J hg hm ?_ hdb)
  refine PySem.W.callWith_K (h₀ := X.base) J.ok.mod.kin T.kC ?_ hs (by rfl)
  rw [hs]
  show wpAny _ _ (spliced ((false, eval e X.env) :: backTo pos (starEach [] X.env))) _ _ s
  refine Calls.spliced_cons (thn (he.run pins s σ H _ J h) ?_)
  rintro u s1 ⟨v, H1, J1, r1, okv, q1⟩
  refine Calls.spliced_nil ⟨J1.kIn, ?_⟩
  show wpAny _ _ (call (.ref C) [u]) _ _ _
  rcases s1 with ⟨hp, g, dr, tk, os⟩
  have big : hp.objs.size ≤ hp.objs.size + 1 := Nat.le_succ _
  have free : H1 (hp.objs.size + 1) = none := J1.hok.fresh big
  have kk : ∀ b o, hp.get? b = some o → ((hp.push (PySem.W.kdv_tup [u])).push (PySem.HandSPX.excO C hp.objs.size)).get? b = some o := fun b o z => Heap.get?_push_of_some _ (Heap.get?_push_of_some _ z)
  have got : ((hp.push (PySem.W.kdv_tup [u])).push (PySem.HandSPX.excO C hp.objs.size)).get? (hp.objs.size + 1) = some (PySem.HandSPX.excO C hp.objs.size) := by heap_get
  have J2 := J1.laid (t' := tk) (o := exo (hp.objs.size + 1) C none) kk big (exo_ok got)
  have r2 : Vals [V.ref (hp.objs.size + 1), v] [Value.ref (hp.objs.size + 1), u] := .cons rfl (.cons r1 .nil)
  have prom : spX C f ok [V.ref (hp.objs.size + 1), v] (upd H1 (hp.objs.size + 1) (exo (hp.objs.size + 1) C none))
      (fun w H2 => w = .non ∧ ∃ dx, H1 dx = none ∧ dx ≠ hp.objs.size + 1 ∧ H2 = upd (upd (upd H1 (hp.objs.size + 1) (exo (hp.objs.size + 1) C none)) dx (exd dx [(f, v)])) (hp.objs.size + 1) (exo (hp.objs.size + 1) C (some dx))) (fun _ _ _ => False) :=
    ⟨_, v, rfl, okv, upd_same, fun dx n ne => ⟨rfl, dx, by rwa [upd_ne ne] at n, ne, rfl⟩⟩
  have hl : [Value.ref (hp.objs.size + 1), u].length = ps.length := F1.len _ _ _ _ prom
  have bnd := hb ⟨(hp.push (PySem.W.kdv_tup [u])).push (PySem.HandSPX.excO C hp.objs.size), g, dr, tk, os⟩ [Value.ref (hp.objs.size + 1), u] J2.kIn (by rw [List.append_nil]; exact hl)
  rw [List.append_nil] at bnd
  refine wpAny_call (PySem.HandSPX.call_own T.facts (fun _ => rfl) (J1.kIn _ _ hC) (PySem.W.looks_findIn J1.kIn iC) (fun self => PySem.W.bind_fn J1.kIn self tI) (by rw [sizeLine_eq]; show 1 ≤ 16777216; decide)
    (codeAny_mono (F1.run _ X.stack _ _ ⟨[Value.ref (hp.objs.size + 1), u], []⟩ _ _ _ (fun _ _ _ => False) (hr.make C [u] []) (J2.env0.make C [u] []) bnd r2 prom) ?_))
  rintro (er | (_ | _ | _ | w)) s' z
  · exact z.elim
  all_goals first | exact z.elim | skip
  obtain ⟨vw, H2, os2, bare2, un2, hok2, rv, ev, dx, nd, ne, rfl⟩ := z
  cases ev
  rcases s' with ⟨h2, g2, d2, t2, os'⟩
  have ea : (upd (upd (upd H1 (hp.objs.size + 1) (exo (hp.objs.size + 1) C none)) dx (exd dx [(f, v)])) (hp.objs.size + 1) (exo (hp.objs.size + 1) C (some dx))) (hp.objs.size + 1) = some (exo (hp.objs.size + 1) C (some dx)) := upd_same
  have ed : (upd (upd (upd H1 (hp.objs.size + 1) (exo (hp.objs.size + 1) C none)) dx (exd dx [(f, v)])) (hp.objs.size + 1) (exo (hp.objs.size + 1) C (some dx))) dx = some (exd dx [(f, v)]) := by rw [upd_ne ne, upd_same]
  refine ⟨rv, mk_end (raises_own T.exC T.tyC) J1 big kk un2 hok2 os2 bare2 ea ed nd ?_⟩
  have same : upd (del (upd (upd (upd H1 (hp.objs.size + 1) (exo (hp.objs.size + 1) C none)) dx (exd dx [(f, v)])) (hp.objs.size + 1) (exo (hp.objs.size + 1) C (some dx))) (hp.objs.size + 1)) dx (.xd [(f, v)]) = upd H1 dx (.xd [(f, v)]) := by
    funext b
    rcases Classical.em (b = dx) with rfl | h1
    · rw [upd_same, upd_same]
    rw [upd_ne h1, upd_ne h1]
    rcases Classical.em (b = hp.objs.size + 1) with rfl | h2
    · rw [del_same, free]
    rw [del_ne h2, upd_ne h2, upd_ne h1, upd_ne h2]
  rw [same]
  exact q1 dx nd
end
end DL

end
section
set_option Elab.async false
set_option linter.all false
set_option maxRecDepth 100000
set_option maxHeartbeats 4000000
/-! X3: the reading of such an __init__; raise, on data. -/
namespace DL
open PySem PySem.Spec L2
/-- what a message may hold -/
def okX (v : V) : Prop := (∃ y : Str, v = .str y ∧ y.length ≤ 2000) ∨ ∃ i : Int, v = .int i ∧ i.natAbs.log2 < 1920
def PartOk (σ : L2.St) (t : TE) : Prop := ∀ H (Q : VK), (∀ y : Str, y.length ≤ 2000 → Q (.str y) H) → t σ H Q
section
variable {K : Fg} {E : SX} {F : Fr} {pin : Nat → Bool} {σ σ2 : L2.St} {H0 H : Hp} {ρ ρ' : List Sl}
theorem partC {y : Str} (h : y.length ≤ 2000) : PartOk σ (tC (.str y)) := fun H Q q => q y h
theorem partF {i : Nat} {v : V} (hs : σ[i]? = some (some v)) (ok : okX v) : PartOk σ (tFmt (tVar i)) := fun H Q q => by
  refine ⟨v, hs, ?_⟩
  rcases ok with ⟨y, rfl, hy⟩ | ⟨i, rfl, hi⟩
  · exact .inl ⟨y, rfl, by rw [sizeLine_eq]; omega, q y hy⟩
  · exact .inr ⟨i, rfl, hi, q _ (by have := PyProof.Rows.int_text_len_1921 hi; exact Nat.le_trans this (by decide))⟩
theorem parts_ok : ∀ {ts : List TE} {acc : Str} {H : Hp} {Q : Str → Hp → Prop}, (∀ t ∈ ts, PartOk σ t) → acc.length + 2000 * ts.length ≤ 1000000 → (∀ out, Q out H) → tJs ts acc σ H Q
  | [], acc, H, Q, _, _, q => q acc
  | t :: ts, acc, H, Q, hp, hl, q => by
    refine hp t (List.mem_cons_self ..) H _ fun y hy => ⟨y, rfl, ?_, ?_⟩
    · have e : (acc ++ y).length = acc.length + y.length := Str.length_append ..
      rw [e, sizeLine_eq]
      simp only [List.length_cons] at hl
      omega
    · have e : (acc ++ y).length = acc.length + y.length := Str.length_append ..
      exact parts_ok (fun t' h => hp t' (List.mem_cons_of_mem _ h)) (by simp only [List.length_cons] at hl; omega) q
/-- self.f = x behind B.__init__(self, f'..') -/
theorem initX_reads {C : Addr} {B N I : String} {bm : List Value} {f n1 : Str} {ts : List TE} {vs : List V} {Q : VK} {E0 : XK} (T : OwnX K C B N I bm) (hno : PySem.W.findIn K (.ref C) f = some none) (hp : ∀ (a : Addr) v, okX v → ∀ t ∈ ts, PartOk [some (.ref a), some v] t) (hl : ts.length ≤ 100) (h : spX C f okX vs H Q E0) :
    (tSeq (tDrop (tBi K B N I bm (tCons (tVar 0) (tCons (tJoin ts) tNil)))) (tSf K B N I bm f (tVar 0) (tVar 1))) { nx := fun _ H' => Q .non H', rt := Q } (L2.start ["self", n1] vs) H := by
  obtain ⟨a, v, rfl, ok, ea, q⟩ := h
  have hs : L2.start ["self", n1] [V.ref a, v] = [some (.ref a), some v] := rfl
  rw [hs]
  refine ⟨.ref a, rfl, ?_⟩
  refine parts_ok (hp a v ok) (by show 0 + 2000 * ts.length ≤ _; omega) fun out => ?_
  refine ⟨a, C, [.str out], rfl, by show 1 ≤ 1000; omega, T, ea, ?_⟩
  refine ⟨v, rfl, .ref a, rfl, a, C, rfl, T, hno, ea, fun dx n ne => q dx n ne⟩
/-! ### what is raised, on data -/
abbrev XD := Addr × Str × Dt
def EndX (K : Fg) (E : SX) (F : Fr) (σ : L2.St) (H0 : Hp) (ρ' : List Sl) (Q : XK) : Rs XD → Prop
  | .ok (C, n, d) => ∀ dd H0' H', Same H0 H0' → Rep K F σ H0' H' ρ' → ExF K F H0' H' (some dd) [n] [d] → Q (.ref C) (some dd) H'
  | .ex C ns ds => ∀ d H0' H', Same H0 H0' → Rep K F σ H0' H' ρ' → ExF K F H0' H' d ns ds → E σ (.ref C) d H'
class SimX (K : Fg) (E : SX) (t : L2.St → Hp → XK → Prop) (f : outParam (M XD)) : Prop where
  run : ∀ (F : Fr) (σ : L2.St) (H0 H : Hp) (ρ : List Sl) (r : Rs XD) (ρ' : List Sl) (Q : XK), Rep K F σ H0 H ρ → f ρ = some (r, ρ') → EndX K E F σ H0 ρ' Q r → t σ H Q
def okD : Dt → Bool
  | .str y => decide (y.length ≤ 2000)
  | .int i => decide (i.natAbs.log2 < 1920)
  | _ => false
theorem okD_read {d : Dt} {v : V} (h : RD K H d v) (o : okD d = true) : okX v := by
  cases d <;> simp only [okD] at o <;> try (exact absurd o Bool.false_ne_true)
  · exact .inr ⟨_, h.int_inv, of_decide_eq_true o⟩
  · exact .inl ⟨_, h.str_inv, of_decide_eq_true o⟩
def fXm (C : Addr) (f : Str) (fe : M Sl) : M XD := mB (vl fe) fun d => if okD d then mP (C, f, d) else fun _ => none
instance sXm {C : Addr} {f : Str} {te : TE} {fe : M Sl} [A : SimE K E te fe] : SimX K E (tXm C f okX te) (fXm C f fe) where
  run := fun F σ H0 H ρ r ρ' Q R e h => by
    refine A.bindV R e (by rintro C ns ds rfl; exact h) fun c ρ1 v H1 H' e1 s1 R1 rd1 => ?_
    split at e1
    · rename_i ho
      obtain ⟨rfl, rfl⟩ := mP_inv e1
      refine ⟨okD_read rd1 ho, fun d hd => h d H1 _ s1 (R1.grow (.side R1.s2 hd)) (.inr ⟨d, [(f, v)], rfl, R1.fresh hd, same_none R1.s2 hd, upd_same, rfl, RDs.cons rd1 RDs.nil⟩)⟩
    · cases e1
/-- raise -/
def tRs (t : L2.St → Hp → XK → Prop) (E : SX) : TS := fun _ σ H => t σ H fun cls d H' => E σ cls d H'
theorem ps_rs {X : Cx} {e : Expr} {t : L2.St → Hp → XK → Prop} {pos : Pos} (hc : X.calm = true) (tk : Takes X fun cls d σ H => E σ cls d H) (he : PMk X e t) : PS X (.Raise (some e) none pos) (tRs t E) := ps_raise hc tk he
def fRs (f : M XD) : M So := fun ρ => match f ρ with
  | some (.ok (C, n, d), ρ') => some (.ex C [n] [d], ρ')
  | some (.ex C ns ds, ρ') => some (.ex C ns ds, ρ')
  | none => none
instance sRs {t : L2.St → Hp → XK → Prop} {f : M XD} [A : SimX K E t f] : SimS K E pin (tRs t E) (fRs f) where
  run := fun F σ H0 H ρ r ρ' D R e h => by
    unfold fRs at e
    split at e
    · rename_i C n d ρ1 q
      cases e
      exact A.run F σ H0 H ρ _ _ _ R q fun dd H0' H' s R' x => h (some dd) σ H0' H' s (Pin.refl _ _) R' x
    · rename_i C ns ds ρ1 q
      cases e
      exact A.run F σ H0 H ρ _ _ _ R q fun dd H0' H' s R' x => h dd σ H0' H' s (Pin.refl _ _) R' x
    · cases e
end
/-- what a raising def's frame takes -/
theorem takesX {P : Program} {w : World} {K : Fg} {mg : Str → Option Value} {base : Heap} {N : List Str} {qual : Str} {sc : Scope} {f : Addr} {cdv : Value} {A : Around} {outer : List Env} {s : Shared} {H : Hp} {E : XK} :
    Takes (cxOf (L2.CX P w) P w K mg base N qual sc f cdv A outer s H E) (fun cls d _ H => E cls d H) := takes_of rfl rfl rfl rfl
end DL

end
section
set_option Elab.async false
set_option linter.all false
set_option maxRecDepth 100000
set_option maxHeartbeats 4000000
/-! X4: a caught exception that is handed on as a value. -/
namespace DL
open PySem PySem.Spec L2 PyProof.Rows
theorem exV_ok {P : Program} {w : World} {H : Hp} {h : Heap} {a : Addr} {cls : Value} {d : Option Addr} {oe : Obj} {vs : Array Value} (e : h.get? a = some oe) (z : Zc cls d oe) (k : oe.data = .fields vs) : ObjOk P w H h a (ExV cls d a) :=
  ⟨⟨oe, vs, e, z, k⟩, ⟨oe, e⟩, fun _ _ ⟨o, v, q, r⟩ kk => ⟨o, v, kk o q, r⟩⟩
theorem exV_at {P : Program} {w : World} {H : Hp} {h : Heap} {a : Addr} {cls : Value} {d : Option Addr} (hok : HOk P w H h) (e : H a = some (ExV cls d a)) : ∃ (oe : Obj) (vs : Array Value), h.get? a = some oe ∧ Zc cls d oe ∧ oe.data = .fields vs := by
  have x : ObjOk P w H h a (.ext fun h => ∃ (oe : Obj) (vs : Array Value), h.get? a = some oe ∧ Zc cls d oe ∧ oe.data = .fields vs) := hok a _ e
  exact x.1
section
variable {X : Cx} {pins : List (Addr × Obj)} {σ : L2.St} {H : Hp} {s : Shared}
/-- an object that came since the entry is looked after from now on -/
theorem inv_tracked {a : Addr} {cls : Value} {d : Option Addr} {oe : Obj} {vs : Array Value} (J : Inv X pins σ H s) (ha : s.heap.get? a = some oe) (hz : Zc cls d oe) (hd : oe.data = .fields vs) (na : H a = none) (nL : a ≠ X.env.locals)
    (new : X.s_0.heap.get? a = none) (np : ∀ p ∈ X.pn ++ pins, p.1 ≠ a) : Inv X pins σ (upd H a (ExV cls d a)) s := by
  have old : ∀ {b : Addr} {o : HO}, H b = some o → upd H a (ExV cls d a) b = some o := fun {b o} z => by rw [upd_ne (ne_of_none z na)]; exact z
  have free : ∀ {b : Addr}, b ≠ a → H b = none → upd H a (ExV cls d a) b = none := fun {b} nb z => by rw [upd_ne nb]; exact z
  refine ⟨J.ok, J.os, J.bare, ⟨J.base.keep, J.base.slot, fun b o e n hx => free (fun z => ?_) (J.base.free b o e n hx), J.base.there, fun b xs e => old (J.base.tups b xs e), fun b o u e => old (J.base.frzs b o u e), fun b ps e => ?_⟩,
    J.loc, J.cell, free nL.symm J.free, fun x c e => free (fun z => ?_) (J.freeC x c e), fun p hp => ?_, fun b o e => ?_, J.len⟩
  · rw [z, new] at e; exact nomatch e
  · obtain ⟨m, q⟩ := J.base.tbls b ps e
    exact ⟨m, old q⟩
  · obtain ⟨v, o, ho, hc⟩ := J.cell x c e
    rw [z, ha] at ho
    cases ho
    rw [hd] at hc
    exact nomatch hc
  · obtain ⟨p1, p2, p3⟩ := J.pin p hp
    exact ⟨p1, free (np p hp) p2, p3⟩
  · rcases Classical.em (b = a) with rfl | hb
    · rw [upd_same] at e
      exact Option.some.inj e ▸ exV_ok ha hz hd
    · rw [upd_ne hb] at e
      exact (J.hok b o e).stay (fun c v _ q => q) (fun c q => old q) fun c xs q => old q
end
/-- what 'except x as n: return n' wishes of the body's exceptions -/
def wGive (K : Fg) (c : Value) (Wout : WX) (D : Ends) : WX := fun cls d σ H => ∃ b, PySem.W.exmOne K cls c = some b ∧ (b = true → ∀ a, H a = none → D.rt (.ref a) (upd H a (ExV cls d a))) ∧ (b = false → Wout cls d σ H)
section
variable {X : Cx} {x n : Str} {c : Value} {i : Nat} {body : List Stmt} {np pos pos' p1 p2 : Pos} {tb : WX → TS} {Wout : WX}
theorem ps_give (hs : X.stack = X.env :: X.outer) (hf : X.env.frame = some X.env.locals) (hex : X.ex = []) (hN : X.N.Nodup) (hi : X.N[i]? = some n) (hln : X.env.kindOf n = some .local) (hc : Names X x c) (tk : Takes X Wout)
    (hb : ∀ (W : WX) (pn : List (Addr × Obj)) (xe : Value → Shared → Prop), Takes (X.tr pn xe) W → PassesOwn (model X.prog X.w) X.A X.env xe → PSs (X.tr pn xe) body (tb W))
    (hv : Vis X.env.scope n) (hd1 : (n == ("__debug__" : Str)) = false := by decide) (hd2 : (n == ("__classdict__" : Str)) = false := by decide) :
    PS X (.Try body [.ExceptHandler (some (.Name x np)) (some n) [.Return (some (.Name n p1)) p2] pos'] [] [] pos) (fun D σ H => tb (wGive X.K c Wout D) D σ H) := by
  constructor
  intro pins s σ H D I h
  have ok := I.ok
  have frames : X.A.frames = some (X.env :: X.outer) := by rw [ok.frames, hs]
  have loc : Loc X.env.scope n := .inl hln
  refine wpAny_Try_except (wpAny_mono ((hb (wGive X.K c Wout D) (X.pn ++ pins) _ (fun u s' air => ?_) PassesOwn.looking).run [] s σ H D (I.toTry _) h) ?_ fun _ _ z => z)
  · -- it is caught
    obtain ⟨a, G0, sI, pins', σ', H', cls, d, rfl, J', nb, up, sky, na, os, ag, b, hb1, yes, no⟩ := air
    have J : Inv X pins σ' H' sI := J'.ofTry ok
    have sky1 : Sky G0 (X.env :: X.outer) a (Zc cls d) X.env.locals s'.heap := hs ▸ sky
    show wpAny (model X.prog X.w) X.A (noteFrame (.ref a) X.env) _ _ _
    refine Sky.land Zc.steady frames hf sky1 fun h3 fly up3 => ?_
    have J3 : Inv X pins σ' H' { s' with heap := h3 } := J.landed nb fly.1 (up.trans up3) os ag
    obtain ⟨oe3, vs3, g3, z3, d3⟩ := fly.there
    have out : a ∉ frs (X.env :: X.outer) := fun hm => by
      obtain ⟨_, o, e, nf⟩ := fly.2.2.1.mem hm
      rw [g3] at e
      exact nf _ (Option.some.inj e ▸ d3)
    have nL : a ≠ X.env.locals := fun z => out (List.mem_filterMap.mpr ⟨X.env, List.mem_cons_self, by rw [hf, z]⟩)
    have nF : a ∉ X.fs := fun hm => by
      obtain ⟨e, he, q⟩ := List.mem_filterMap.mp hm
      exact out (List.mem_filterMap.mpr ⟨e, List.mem_cons_of_mem _ he, q⟩)
    have fresh : sI.heap.get? a = none := by
      cases q : sI.heap.get? a with
      | none => rfl
      | some o =>
        have := nb a o q (by rw [hs]; exact out)
        rw [fly.2.1] at this
        exact nomatch this
    have new : X.s_0.heap.get? a = none := by
      cases q : X.s_0.heap.get? a with
      | none => rfl
      | some o =>
        obtain ⟨o', e'⟩ := J.base.there a o q (by rw [hex]; exact fun z => nomatch z)
        rw [fresh] at e'
        exact nomatch e'
    have S3 := J3.suite g3 d3 na nL nF
    refine wpAny_handleBy_cons (codeAny_handlers_test ?_) (by intro q; cases q)
    have LT : PySem.W.Looks (model X.prog X.w) h3 (typeOf (.ref a)) cls := fun A Q E s k q => wpAny_typeOf_ref (k _ _ g3) (by rw [z3.1]; exact q)
    have LM := PySem.W.exm_one (M := model X.prog X.w) (J3.kIn) LT hb1
    have test : ∀ {Q : Value → Shared → Prop} {E : Value → Shared → Prop}, Q c { s' with heap := h3 } → wpAny (model X.prog X.w) (X.A.mark (some (.ref a))) (eval (.Name x np) X.env) Q E { s' with heap := h3 } := fun {Q E} q => by
      rcases hc with ⟨hg, hdbg, hm | ⟨hm, hv, hnn⟩⟩
      · exact ld_glob (X := X.suite a ((a, oe3) :: (X.pn ++ pins))) S3 hg hm q hdbg
      · exact ld_blt (X := X.suite a ((a, oe3) :: (X.pn ++ pins))) S3 hg hm hv q hnn hdbg
    refine test (LM.here ?_)
    cases b with
    | true =>
      refine codeAny_handlers_suite_as (HandSPX.lands_againZ fly fun h4 fly4 up4 => ?_)
      have J4 : Inv X pins σ' H' { s' with heap := h4 } := J.landed nb fly4.1 ((up.trans up3).trans up4) os ag
      obtain ⟨oe4, vs4, g4, z4, d4⟩ := fly4.there
      have S4 := J4.suite g4 d4 na nL nF
      refine store_ok (X := X.suite a ((a, oe4) :: (X.pn ++ pins))) (v := .ref a) S4 hN hi loc rfl (fun s5 S5 => ?_) (.inr hln)
      have giving : PSs (X.suite a ((a, oe4) :: (X.pn ++ pins))) [.Return (some (.Name n p1)) p2] (tRet (tVar i)) := pss_one (ps_ret (pe_var hi hv hd1 hd2))
      have lt : i < σ'.length := by
        rw [J.len]; exact (List.getElem?_eq_some_iff.mp hi).1
      refine wpAny_mono (giving.run [] s5 _ H' { nx := fun _ _ => False, rt := fun v H6 => v = .ref a ∧ H6 = H' } S5 ⟨.ref a, by rw [List.getElem?_set_self lt], rfl, rfl⟩) ?_ fun _ _ z => z.elim
      rintro (_ | _ | _ | u) s6 z
      · obtain ⟨_, _, _, q⟩ := z; exact q.elim
      · obtain ⟨_, _, _, q⟩ := z; exact q.elim
      · obtain ⟨_, _, _, q⟩ := z; exact q.elim
      · obtain ⟨v6, σ6, H6, S6, r6, rfl, rfl⟩ := z
        have pa := S6.pin (a, oe4) (List.mem_append_left _ List.mem_cons_self)
        have K6 : Inv X ((a, oe4) :: pins) σ6 H6 s6 := (S6.unsuite ok).pins_of fun p hp => by
          rcases List.mem_cons.mp hp with rfl | hp
          · exact pa
          · exact (S6.unsuite ok).pin p (List.mem_append_right _ hp)
        refine gone_ok K6 hN hi hln fun s7 J7 => ?_
        have p7 := J7.pin (a, oe4) (List.mem_append_right _ List.mem_cons_self)
        have J8 : Inv X pins (σ6.set i none) H6 s7 := J7.pins_of fun p hp => J7.pin p (List.mem_append_right _ (List.mem_cons_of_mem _ hp))
        refine ⟨.ref a, _, _, inv_tracked J8 p7.1 z4 d4 na nL new (fun p hp z => ?_), r6, yes rfl a na⟩
        have := (J.pin p hp).1
        rw [z, fresh] at this
        exact nomatch this
    | false =>
      show wpAny _ X.A (handleBy (.ref a) X.env []) _ _ _
      refine wpAny_handleBy_nil ?_
      obtain ⟨k1, k2, k3, oe, vs, T, oT, ts', he, hz, hd, h1, hr⟩ := id fly
      unfold PySem.passOn
      refine wpAny_bind (wpAny_field he hd h1 ?_)
      rw [if_neg (show ¬ ((Value.ref T == Value.none) = true) from by simp)]
      have fin : wpAny (model X.prog X.w) X.A (setFlight (.ref a) X.env.frame) (fun _ s4 => wpAny (model X.prog X.w) X.A (throw (.ref a) : Sem Flow) (SP X pins D) X.xe s4) X.xe { s' with heap := h3 } := by
        rw [hf]
        refine HandSPX.setFlight_upZ fly fun h4 hh4 up4 => wpAny_throw (tk _ _ ?_)
        exact ⟨a, G0, sI, pins, σ', H', cls, d, rfl, J, nb, (up.trans up3).trans up4, .inr (.inr (hs ▸ hh4)), na, os, ag, no rfl⟩
      first
        | exact wpAny_bind (wpAny_pure (wpAny_bind fin))
        | exact wpAny_bind fin
  · rintro (_ | _ | _ | u) s1 z
    · obtain ⟨σ1, H1, J1, q⟩ := z
      exact wpAny_execs_nil ⟨σ1, H1, J1.ofTry ok, q⟩
    · obtain ⟨σ1, H1, J1, q⟩ := z
      exact ⟨σ1, H1, J1.ofTry ok, q⟩
    · obtain ⟨σ1, H1, J1, q⟩ := z
      exact ⟨σ1, H1, J1.ofTry ok, q⟩
    · obtain ⟨v1, σ1, H1, J1, r, q⟩ := z
      exact ⟨v1, σ1, H1, J1.ofTry ok, r, q⟩
end
end DL

end
section
set_option Elab.async false
set_option linter.all false
set_option maxRecDepth 100000
set_option maxHeartbeats 4000000
/-! X5: held exceptions: their class, their field. -/
namespace DL
open PySem PySem.Spec PyProof.Rows
section
open PySem.W PySem.Calls
variable {prog : Program} {w : World} {A : Around} {E : Value → Shared → Prop} {s : Shared} {K : Frag} {x D : Addr} {ox : Obj} {od : Option Obj}
/-- a data descriptor is met first, whatever the dict holds -/
theorem find_descr {C : Addr} {name : Str} {a g : Value} (hc : (clsIn K C).isSome = true) (ha : findIn K (.ref C) name = some (some a)) (hg : specialIn K a "__get__" = some (some g)) (ht : takesIn K a = some true) : findObj K C od name = some (.bind g a) := by
  obtain ⟨cd, hc⟩ := Option.isSome_iff_exists.mp hc
  unfold findObj
  rw [hc, Option.bind_some, ha, Option.bind_some]
  simp only [hg, ht, Option.bind_some]
/-- e.__class__ of an exception with or without a dict -/
theorem class_of {Q : Option Value → Shared → Prop} (T : L2.ExcC K D) (X : K.In s.heap) (I : InstAt s.heap x ox D od) (h : Q (some (.ref D)) { s with toks := s.toks + 1 }) : wpAny (model prog w) A (getAttr? (.ref x) "__class__") Q E s := by
  have isC : (clsIn K D).isSome = true := by
    obtain ⟨cd, hc, _⟩ := any_some T.hd
    rw [hc]; rfl
  have found : findObj K D od "__class__" = some (.bind (.builtin "getset_descriptor.__get__") (.builtin "object.__class__")) := find_descr isC T.ha T.hn T.ht
  rcases s with ⟨hp, g, d, t, os⟩
  have ty := I.type (M := model prog w)
  have e1 := looks_findIn (M := model prog w) X T.hg
  have e2 := looks_findIn (M := model prog w) X T.hk
  have e3 := looks_find (M := model prog w) X I found
  have isE : Looks (model prog w) hp (isInstance (.ref x) (.type "BaseException")) true := ty.andThen (looks_subIn X T.hs)
  have n2 : (Value.builtin "BaseException.__getattribute__" == Value.builtin "object.__getattribute__") = false := by decide +kernel
  unfold getAttr? getAttrBy? getAttrBy
  refine wpAny_bind (wpAny_mkText (wpAny_bind (wpAny_attempt (wpAny_holding (wpAny_bind (ty.at (wpAny_bind (e1.at ?_))))))))
  show wpAny _ _ (if (onTheHeap (Value.ref D) && Value.builtin "BaseException.__getattribute__" == Value.builtin "object.__getattribute__") = true then _ else _) _ _ _
  rw [n2, Bool.and_false, if_neg Bool.false_ne_true]
  unfold getAttrByItsOwn hookBefore
  refine wpAny_bind ?_
  rw [if_pos (show onTheHeap (Value.ref D) = true from rfl)]
  refine e2.at (wpAny_bind (wpAny_attempt (wpAny_holding ?_)))
  unfold callGetattribute
  rw [show (false && onTheHeap (Value.builtin "BaseException.__getattribute__")) = false from rfl, if_neg Bool.false_ne_true]
  unfold boundAndCalled
  rw [PySem.F.excAttr_ValueError.ga.bind (.ref x)]
  refine wpAny_bind (wpAny_pure (?_ : wpAny _ _ (call (.builtin "BaseException.__getattribute__") [.ref x, .str "__class__" t]) _ _ _))
  refine wpAny_call (codeAny_call_builtin PySem.F.excAttr_ValueError.ga.plain PySem.F.entry_bexc_ga
    (@check_slot (model prog w) _ _ ⟨hp, g, d, t + 1, os⟩ "BaseException.__getattribute__" "BaseException" "__getattribute__" (.ref x) [.str "__class__" t] [] _ (by decide +kernel) (by decide +kernel) isE (PySem.F.args_bexc_ga (.ref x) (.str "__class__" t)) ?_))
  unfold Builtin.«object.__getattribute__»
  refine wpAny_bind (wpAny_of_eq (a := ((Value.ref x : Value), [Value.str "__class__" t])) (by first | rfl | (simp only [slotArgs]; rfl)) (wpAny_bind (wpAny_pure (wpAny_bind (ty.at (wpAny_bind (e3.at ?_)))))))
  show wpAny _ _ (bind (holding [Value.builtin "object.__class__"] (call (.builtin "getset_descriptor.__get__") [.builtin "object.__class__", .ref x, .ref D])) ret) _ _ _
  refine wpAny_bind (wpAny_holding (wpAny_call (class_get (s := ⟨hp, g, d, t + 1, os⟩) (ox := ox) (od := od) X I T.hm (wpAny_pure (?_ : wpAny _ _ (handedOut (.ref D)) _ _ _)))))
  rw [handedOut_of (v := .ref D) rfl]
  first
    | exact wpAny_pure (wpAny_pure h)
    | exact wpAny_pure h
    | exact wpAny_pure (wpAny_bind (wpAny_pure (wpAny_pure h)))
/-- what isinstance asks of such an exception -/
theorem kit_exn (T : L2.ExcC K D) : KitX K (.ref x) (.ref D) (fun h => ∃ ox od, InstAt h x ox D od) where
  ty := fun _ _ _ ⟨_, _, I⟩ => I.type
  it := fun _ _ X _ A Q E s k q => by
    obtain ⟨cd, hc, _⟩ := any_some T.hd
    unfold clsIn at hc
    split at hc
    · rename_i ho
      unfold isType loadHead
      exact wpAny_bind (wpAny_loadPart (k _ _ (X _ _ ho)) (wpAny_pure q))
    · exact nomatch hc
  ne := fun h tp dd its n sl X htp => by
    obtain ⟨cd, hc, _⟩ := any_some T.hd
    cases q : (Value.ref D == Value.ref tp) with
    | false => rfl
    | true =>
      obtain rfl : D = tp := Value.ref.inj (beq_iff_eq.mp q)
      unfold clsIn at hc
      split at hc
      · rename_i ho
        exact nomatch ((X _ _ ho).symm.trans htp)
      · exact nomatch hc
  ca := fun X ⟨_, _, I⟩ q => class_of T X I q
end
section
open L2
variable {X : Cx} {pins : List (Addr × Obj)} {σ : L2.St} {H : Hp} {s : Shared} {a C : Addr} {d : Option Addr}
/-- a held exception, as the heap has it -/
theorem exv_inst {fs : List (Str × V)} (J : Inv X pins σ H s) (e : H a = some (ExV (.ref C) d a)) (hd : (d = none ∧ fs = []) ∨ ∃ dx, d = some dx ∧ H dx = some (.xd fs)) :
    ∃ ox od, PySem.W.InstAt s.heap a ox C od ∧ (∀ dx, d = some dx → ∃ (o : Obj) (mA : Str → Option Value), od = some o ∧ (∀ name, PySem.W.lookIn name o = some (mA name)) ∧ ∀ f, RelO (fs.lookup f) (mA f)) := by
  obtain ⟨oe, vs, ha, hz, hf⟩ := exV_at J.hok e
  have nc : PySem.W.notCls oe = true := by unfold PySem.W.notCls; rw [hf]
  rcases hd with ⟨rfl, rfl⟩ | ⟨dx, rfl, ex⟩
  · exact ⟨oe, none, ⟨ha, hz.1, nc, by rw [hz.2]; trivial⟩, fun dx z => nomatch z⟩
  · have hx : ObjOk X.prog X.w H s.heap dx (.xd fs) := J.hok dx _ ex
    obtain ⟨mA, hns, hr⟩ := hx
    obtain ⟨od, ho, hl⟩ := lookIn_ns hns
    exact ⟨oe, some od, ⟨ha, hz.1, nc, by rw [hz.2]; exact ho⟩, fun dx' z => by cases z; exact ⟨od, mA, rfl, hl, hr⟩⟩
/-- e.f of a held exception -/
def tXv (K : Fg) (te : TE) (f : Str) : TE := fun σ H Q => te σ H fun x H1 => ∃ a C dx fs v, x = .ref a ∧ H1 a = some (ExV (.ref C) (some dx) a) ∧ H1 dx = some (.xd fs) ∧ XfC K C ∧ PySem.W.findIn K (.ref C) f = some none ∧ fs.lookup f = some v ∧ Q v H1
theorem pe_xv {e : Expr} {te : TE} {f : Str} {pos : Pos} (he : PE X e te) (hb : attributeBase e f X.env (eval e X.env) = eval e X.env := by rfl) : PE X (.Attribute e f pos) (tXv X.K te f) := by
  constructor
  intro pins s σ H Q J h
  refine attr_of hb (thn (he.run pins s σ H _ J h) ?_)
  rintro u s1 ⟨x, H1, J1, rx, a, C, dx, fs, v, rfl, ea, ed, T, hno, l, q⟩
  obtain rfl : u = Value.ref a := rx
  obtain ⟨ox, od, inst, more⟩ := exv_inst J1 ea (.inr ⟨dx, rfl, ed⟩)
  obtain ⟨o, mA, rfl, look, rel⟩ := more dx rfl
  obtain ⟨u, hu, ru⟩ := RelO.some_of (v := v) (o := mA f) (by rw [← l]; exact rel f)
  exact PySem.HandSPX.exc_get J1.kIn inst T.ga T.gg T.exC (PySem.W.findObj_own T.hdC hno rfl (by rw [look, hu])) (handed_of ru) ⟨v, H1, J1.tok _, ru, q⟩
/-- isinstance(e, c) of a held exception -/
def rIsX (K : Fg) : List V → Hp → VK → Prop := fun xs H Q => ∃ (a C : Addr) (d : Option Addr) (fs : List (Str × V)) (c : V) (cv : Value) (b : Bool), xs = [.ref a, c] ∧ H a = some (ExV (.ref C) d a) ∧ ((d = none ∧ fs = []) ∨ ∃ dx, d = some dx ∧ H dx = some (.xd fs)) ∧
  ExcC K C ∧ (∀ u, RelV c u → u = cv) ∧ PySem.W.kitOne K (.ref C) cv = some b ∧ Q (.bl b) H
theorem cr_isX : CallR X (.builtin "isinstance") (rIsX X.K) := by
  intro pins s σ H xs us Q J r h
  obtain ⟨a, C, d, fs, c, cv, b, rfl, ea, hd, T, hc, e, q⟩ := h
  cases r with
  | cons rx rr =>
    cases rr with
    | cons rt rr =>
      cases rr
      cases rx
      obtain rfl := hc _ rt
      obtain ⟨ox, od, inst, _⟩ := exv_inst J ea hd
      exact PySem.W.kia_one (kit_exn T) J.kIn ⟨ox, od, inst⟩ e (fun z => nomatch z) fun tk => ⟨.bl b, H, J.kept (t' := tk) fun _ _ z => z, rfl, q⟩
end
end DL

end
section
set_option Elab.async false
set_option linter.all false
set_option maxRecDepth 100000
set_option maxHeartbeats 4000000
/-! X6: held exceptions on data; try: .. except C as e: return e. -/
namespace DL
open PySem PySem.Spec L2
/-- e.f of an instance or of a held exception -/
def tFldU (K : Fg) (te : TE) (f : Str) : TE := fun σ H Q => te σ H fun x H1 => (∃ a C dx fs v, x = .ref a ∧ H1 a = some (.ins C dx fs) ∧ Cls K C ∧ NoAttr K C f ∧ fs.lookup f = some v ∧ Q v H1) ∨
  ∃ a C dx fs v, x = .ref a ∧ H1 a = some (ExV (.ref C) (some dx) a) ∧ H1 dx = some (.xd fs) ∧ XfC K C ∧ PySem.W.findIn K (.ref C) f = some none ∧ fs.lookup f = some v ∧ Q v H1
section
variable {X : Cx} {e : Expr} {te : TE} {f : Str} {pos : Pos}
theorem pe_fldU (he : PE X e te) (hb : attributeBase e f X.env (eval e X.env) = eval e X.env) : PE X (.Attribute e f pos) (tFldU X.K te f) := by
  constructor
  intro pins s σ H Q J h
  refine attr_of hb (thn (he.run pins s σ H _ J h) ?_)
  rintro u s1 ⟨x, H1, J1, rx, ⟨a, C, dx, fs, v, rfl, ea, c, n, l, q⟩ | ⟨a, C, dx, fs, v, rfl, ea, ed, T, hno, l, q⟩⟩
  · obtain rfl : u = Value.ref a := rx
    exact getattr_ok J1 ea c n l fun u' s2 I2 ru => ⟨v, H1, I2, ru, q⟩
  · obtain rfl : u = Value.ref a := rx
    obtain ⟨ox, od, inst, more⟩ := exv_inst J1 ea (.inr ⟨dx, rfl, ed⟩)
    obtain ⟨o, mA, rfl, look, rel⟩ := more dx rfl
    obtain ⟨u, hu, ru⟩ := RelO.some_of (v := v) (o := mA f) (by rw [← l]; exact rel f)
    exact PySem.HandSPX.exc_get J1.kIn inst T.ga T.gg T.exC (PySem.W.findObj_own T.hdC hno rfl (by rw [look, hu])) (handed_of ru) ⟨v, H1, J1.tok _, ru, q⟩
theorem kFldU {K : Fg} (h : X.K = K) (he : PE X e te) (hb : attributeBase e f X.env (eval e X.env) = eval e X.env) : PE X (.Attribute e f pos) (tFldU K te f) := h ▸ pe_fldU he hb
/-- isinstance -/
def rIsiU (K : Fg) : List V → Hp → VK → Prop := fun xs H Q => rIsi K xs H Q ∨ rIsX K xs H Q
theorem cr_isiU : CallR X (.builtin "isinstance") (rIsiU X.K) := by
  intro pins s σ H xs us Q J r h
  rcases h with h | h
  · exact call_isi pins s σ H xs us Q J r h
  · exact cr_isX pins s σ H xs us Q J r h
theorem kIsiU {K : Fg} (h : X.K = K) : CallR X (.builtin "isinstance") (rIsiU K) := h ▸ cr_isiU
end
section
variable {K : Fg} {E : SX} {F : Fr} {pin : Nat → Bool} {σ σ2 : L2.St} {H0 H : Hp} {ρ ρ' : List Sl}
theorem RD.exn_inv {C : Addr} {ns : List Str} {ds : List Dt} {v : V} (h : RD K H (.exn C ns ds) v) : ∃ a d fs, v = V.ref a ∧ H a = some (ExV (.ref C) d a) ∧ ((d = none ∧ fs = []) ∨ ∃ dx, d = some dx ∧ H dx = some (.xd fs)) ∧ fs.map (·.1) = ns ∧ RDs K H ds (fs.map (·.2)) := by
  unfold RD at h; exact h
open Classical in
noncomputable def fFldU (K : Fg) (f : Str) (fa : M Sl) : M Sl := mB (vl fa) fun d => match d with
  | .obj C ns ds => mO (if Cls K C ∧ NoAttr K C f then (lookD ns ds f).map Sl.val else none)
  | .exn C ns ds => mO (if XfC K C ∧ PySem.W.findIn K (.ref C) f = some none then (lookD ns ds f).map Sl.val else none)
  | _ => fun _ => none
noncomputable instance sFldU {ta : TE} {f : Str} {fa : M Sl} [A : SimE K E ta fa] : SimE K E (tFldU K ta f) (fFldU K f fa) where
  run := fun F σ H0 H ρ r ρ' Q R e h => by
    refine A.bindV R e h.hx fun c ρ1 v H1 H' e1 s1 R1 rd1 => ?_
    split at e1
    · rename_i C ns ds
      obtain ⟨s, es, rfl, rfl⟩ := mO_inv e1
      split at es
      · rename_i hc
        cases q : lookD ns ds f with
        | none => rw [q] at es; cases es
        | some d =>
          rw [q] at es
          cases es
          obtain ⟨a, dx, fs, rfl, h1, h2, h3⟩ := rd1.obj_inv
          obtain ⟨u, eu, ru⟩ := lookD_read h2 h3 q
          exact .inl ⟨a, C, dx, fs, u, rfl, R1.s2 _ _ h1, hc.1, hc.2, eu, h u H1 H' s1 (R1.push ru)⟩
      · cases es
    · rename_i C ns ds
      obtain ⟨s, es, rfl, rfl⟩ := mO_inv e1
      split at es
      · rename_i hc
        cases q : lookD ns ds f with
        | none => rw [q] at es; cases es
        | some d =>
          rw [q] at es
          cases es
          obtain ⟨a, od, fs, rfl, h1, hx, h2, h3⟩ := rd1.exn_inv
          obtain ⟨u, eu, ru⟩ := lookD_read h2 h3 q
          rcases hx with ⟨rfl, rfl⟩ | ⟨dx, rfl, hdx⟩
          · cases eu
          · exact .inr ⟨a, C, dx, fs, u, rfl, R1.s2 _ _ h1, R1.s2 _ _ hdx, hc.1, hc.2, eu, h u H1 H' s1 (R1.push ru)⟩
      · cases es
    · cases e1
open Classical in
noncomputable def gIsiU (K : Fg) : List Dt → Option Sl
  | [.exn C ns ds, c] => if ExcC K C then match clD c with
    | some u => (PySem.W.kitOne K (.ref C) u).map fun b => .val (.bl b)
    | none => none
    else none
  | xs => gIsi K xs
theorem clD_only {c : Dt} {v : V} {u : Value} (h : RD K H c v) (e : clD c = some u) : ∀ w, RelV v w → w = u := by
  cases c <;> simp only [clD, Option.some.injEq] at e <;> try cases e
  · rw [h.ty_inv]; exact fun w z => z
  · rw [h.ref_inv]; exact fun w z => z
noncomputable instance vIsiU : CallV K (rIsiU K) (gIsiU K) where
  run := fun xs ds s H0 H Q sm rx eq h => by
    unfold gIsiU at eq
    split at eq
    · rename_i C ns es c
      split at eq
      · rename_i hc
        split at eq
        · rename_i u e2
          cases q : PySem.W.kitOne K (.ref C) u with
          | none => rw [q] at eq; cases eq
          | some b =>
            rw [q] at eq
            cases eq
            obtain ⟨v, w, rfl, hv, hw⟩ := rx.two
            obtain ⟨a, od, fs, rfl, h1, hx, h2, h3⟩ := hv.exn_inv
            exact .inr ⟨a, C, od, fs, w, u, b, rfl, sm _ _ h1, hx.imp id (fun ⟨y, p, z⟩ => ⟨y, p, sm _ _ z⟩), hc, clD_only hw e2, q, h.val sm RD.bl⟩
        · cases eq
      · cases eq
    · exact .inl (vIsi.run xs ds s H0 H Q sm rx eq h)
/-! ### try: .. except C as n: return n -/
def tGive (K : Fg) (c : Value) (E : SX) (tb : WX → TS) : TS := fun D σ H => tb (wGive K c (fun cls d σ H => E σ cls d H) D) D σ H
theorem kGive {X : Cx} {K : Fg} {x n : Str} {c : Value} {i : Nat} {body : List Stmt} {np pos pos' p1 p2 : Pos} {tb : WX → TS} {E : SX} (hK : X.K = K) (hs : X.stack = X.env :: X.outer) (hf : X.env.frame = some X.env.locals) (hex : X.ex = []) (hN : X.N.Nodup) (hi : X.N[i]? = some n)
    (hln : X.env.kindOf n = some .local) (hc : Names X x c) (tk : Takes X fun cls d σ H => E σ cls d H)
    (hb : ∀ (W : WX) (pn : List (Addr × Obj)) (xe : Value → Shared → Prop), Takes (X.tr pn xe) W → PassesOwn (model X.prog X.w) X.A X.env xe → PSs (X.tr pn xe) body (tb W))
    (hv : Vis X.env.scope n := by first | exact Or.inl rfl | exact Or.inr (Or.inl rfl) | exact Or.inr (Or.inr rfl)) (hd1 : (n == ("__debug__" : Str)) = false := by decide) (hd2 : (n == ("__classdict__" : Str)) = false := by decide) :
    PS X (.Try body [.ExceptHandler (some (.Name x np)) (some n) [.Return (some (.Name n p1)) p2] pos'] [] [] pos) (tGive K c E tb) := hK ▸ ps_give hs hf hex hN hi hln hc tk hb hv hd1 hd2
def fGive (K : Fg) (c : Value) (fb : M So) : M So := fun ρ => match fb ρ with
  | some (.ex C ns ds, ρ') => match PySem.W.exmOne K (.ref C) c with
    | some true => some (.ok (.rt (.val (.exn C ns ds))), ρ')
    | some false => some (.ex C ns ds, ρ')
    | none => none
  | x => x
/-- a caught exception becomes data -/
theorem Rep.holdX {d : Option Addr} {C a : Addr} {ns : List Str} {ds : List Dt} (R : Rep K F σ H0 H ρ) (x : ExF K F H0 H d ns ds) (na : H a = none) :
    ∃ H0', Same H0 H0' ∧ Rep K F (some (.ref a) :: σ) H0' (upd H a (ExV (.ref C) d a)) (.val (.exn C ns ds) :: ρ) := by
  have fa : F.He a = none := R.fresh na
  have n0 : H0 a = none := same_none R.s2 na
  rcases x with ⟨rfl, rfl, rfl⟩ | ⟨b, fs, rfl, hb, b0, bx, e1, e2⟩
  · have g : Grow H0 H (upd H0 a (ExV (.ref C) none a)) (upd H a (ExV (.ref C) none a)) := .new R.s2 na
    exact ⟨_, g.g1, (R.grow g).push (by unfold RD; exact ⟨a, none, [], rfl, upd_same, .inl ⟨rfl, rfl⟩, rfl, RDs.nil⟩)⟩
  · have ne : b ≠ a := fun z => by rw [z, na] at bx; exact nomatch bx
    have sb : Same H0 (upd H0 b (.xd fs)) := same_upd b0
    have Rb : Rep K F σ (upd H0 b (.xd fs)) H ρ := by
      have offB : ∀ {y : Addr}, y ≠ b → H0 y = none → (upd H0 b (.xd fs)) y = none := fun hy z => by rw [upd_ne hy]; exact z
      refine ⟨R.len, R.s1.trans sb, fun y o z => ?_, R.s3, fun y h h0 hp => offB (fun z => h (by rw [z]; exact hb)) (R.s4 y h h0 hp), R.s5, fun i d' e => ?_, fun i o e => ?_, R.dis⟩
      · rcases Classical.em (y = b) with rfl | hy
        · rw [upd_same] at z; cases z; exact bx
        · rw [upd_ne hy] at z; exact R.s2 _ _ z
      · obtain ⟨v, p, q⟩ := R.val i d' e
        exact ⟨v, p, q.mono sb⟩
      · obtain ⟨y, p, q, t, o'⟩ := R.own i o e
        refine ⟨y, p, offB (fun z => ?_) q, t, o'.mono sb fun _ z => z⟩
        subst z
        cases o with
        | lst ds => obtain ⟨_, z, _⟩ := o'; rw [bx] at z; exact nomatch z
        | dct ks ds => obtain ⟨_, z, _⟩ := o'; rw [bx] at z; exact nomatch z
        | ins C ns ds => obtain ⟨_, _, z, _⟩ := o'; rw [bx] at z; exact nomatch z
    have g : Grow (upd H0 b (.xd fs)) H (upd (upd H0 b (.xd fs)) a (ExV (.ref C) (some b) a)) (upd H a (ExV (.ref C) (some b) a)) := .new Rb.s2 na
    refine ⟨_, sb.trans g.g1, (Rb.grow g).push ?_⟩
    unfold RD
    exact ⟨a, some b, fs, rfl, upd_same, .inr ⟨b, rfl, by rw [upd_ne ne, upd_same]⟩, e1, (e2.mono sb).mono g.g1⟩
instance sGive {c : Value} {tb : WX → TS} {fb : M So} [S : ∀ W : WX, SimS K (fun σ cls d H => W cls d σ H) pin (tb W) fb] : SimS K E pin (tGive K c E tb) (fGive K c fb) where
  run := fun F σ H0 H ρ r ρ' D R e h => by
    unfold fGive at e
    refine (S _).run F σ H0 H ρ (match fb ρ with | some (x, _) => x | none => r) (match fb ρ with | some (_, x) => x | none => ρ') D R ?_ ?_
    · cases q : fb ρ with
      | none => rw [q] at e; cases e
      | some p => rfl
    · cases q : fb ρ with
      | none => rw [q] at e; cases e
      | some p =>
        obtain ⟨r0, ρ0⟩ := p
        rw [q] at e
        cases r0 with
        | ok o =>
          cases e
          exact (show EndS K (fun σ cls d H => wGive K c (fun cls d σ H => E σ cls d H) D cls d σ H) F pin σ H0 ρ' D (.ok o) from by cases o <;> exact h)
        | ex C ns ds =>
          simp only at e ⊢
          intro d σ' H0' H' s p R' x
          cases qe : PySem.W.exmOne K (.ref C) c with
          | none => rw [qe] at e; cases e
          | some b =>
            rw [qe] at e
            refine ⟨b, qe, ?_, ?_⟩
            · rintro rfl a na
              cases e
              obtain ⟨H1, s1, R1⟩ := R'.holdX (C := C) x na
              exact h (.ref a) σ' H1 _ (s.trans s1) p R1
            · rintro rfl
              cases e
              exact h d σ' H0' H' s p R' x
end
end DL

end
section
set_option Elab.async false
set_option linter.all false
set_option maxRecDepth 100000
set_option maxHeartbeats 8000000
/-! S1: len(set(texts)), any texts. -/
namespace DL
open PySem PySem.Spec PyProof.Rows
/-- the texts met so far, each once -/
def once : List Str → List Str → List Str
  | acc, [] => acc
  | acc, x :: r => once (if acc.any (· == x) then acc else acc ++ [x]) r
def onceN (xs : List Str) (i : Nat) : List Str := once [] (xs.take i)
theorem once_app : ∀ (acc l r : List Str), once acc (l ++ r) = once (once acc l) r
  | acc, [], r => rfl
  | acc, x :: l, r => once_app _ l r
theorem onceN_step {xs : List Str} {i : Nat} {x : Str} (h : xs[i]? = some x) : onceN xs (i + 1) = if (onceN xs i).any (· == x) then onceN xs i else onceN xs i ++ [x] := by
  obtain ⟨hi, hx⟩ := List.getElem?_eq_some_iff.mp h
  unfold onceN
  rw [List.take_succ, h, Option.toList_some, once_app]
  rfl
theorem once_len : ∀ (acc l : List Str), (once acc l).length ≤ acc.length + l.length
  | acc, [] => Nat.le_refl _
  | acc, x :: r => by
    have := once_len (if acc.any (· == x) then acc else acc ++ [x]) r
    have e : (if acc.any (· == x) then acc else acc ++ [x]).length ≤ acc.length + 1 := by split <;> simp
    show (once _ r).length ≤ _
    simp only [List.length_cons]
    omega
section
variable {prog : Program} {w : World} {A : Around} {R : Result → Shared → Prop} {I : Addr} {fp wr : List Addr} {G : Array GenState → Array GenState → Prop} {n : Nat} {P : Nat → Value → Prop} {St : Nat → Shared → Prop}
theorem fill_set (W : WalksS prog w A.in1 I fp wr G n P St) (D : Addr) (hD : D ∉ fp) (xs : List Str) (hn : n + 1 < scanBound) (hv : ∀ i v, P i v → ∃ x t, xs[i]? = some x ∧ v = .str x t) :
    ∀ (m i : Nat) (s : Shared), n - i = m → i ≤ n → St i s → s.heap.SetOf (strKind prog w) D (fun k => (onceN xs i).any (· == k)) (onceN xs i).length →
      (∀ s', Moved (D :: wr) G s s' → s'.heap.SetOf (strKind prog w) D (fun k => (onceN xs n).any (· == k)) (onceN xs n).length → R (.ok (.ret .none)) s') →
      codeAny (model prog w) A (.builtin "set.update.loop" ⟨[.ref D, .ref I], []⟩) R s := by
  have Dw : D ∉ wr := fun z => hD (W.sub _ z)
  have more : ∀ b ∈ wr, b ∈ D :: wr := fun b z => List.mem_cons_of_mem _ z
  have carry : ∀ {s s' : Shared} {S : Str → Bool} {k : Nat}, Moved wr G s s' → s.heap.SetOf (strKind prog w) D S k → s'.heap.SetOf (strKind prog w) D S k := fun mv ⟨o, es, ep, t, ho, r⟩ => ⟨o, es, ep, t, mv.heap D _ Dw ho, r⟩
  intro m
  induction m with
  | zero =>
    intro i s em hi hst hS q
    obtain rfl : i = n := by omega
    refine codeAny_builtin PyProof.Rows.F.entry_set_update_loop ?_
    rw [Around.under_plainId PyProof.Rows.F.plain_set_update_loop _]
    show wpAny _ A.in1 (bind (pyNext (.ref I)) _) _ _ s
    refine wpAny_bind (W.done s _ _ hst fun s' mv => ?_)
    show wpAny _ A.in1 (ret Value.none) _ _ s'
    exact wpAny_pure (q s' (mv.mono more) (carry mv hS))
  | succ m ih =>
    intro i s em hi hst hS q
    have hlt : i < n := by omega
    refine codeAny_builtin PyProof.Rows.F.entry_set_update_loop ?_
    rw [Around.under_plainId PyProof.Rows.F.plain_set_update_loop _]
    show wpAny _ A.in1 (bind (pyNext (.ref I)) _) _ _ s
    refine wpAny_bind (W.item i s _ _ hlt hst fun v s' hp hst' mv => ?_)
    obtain ⟨x, t, hx, rfl⟩ := hv i v hp
    show wpAny _ A.in1 (bind (holding [Value.str x t] (setAdd D (.str x t))) _) _ _ s'
    refine wpAny_bind (wpAny_holding ?_)
    unfold setAdd
    refine wpAny_holding (wpAny_bind ((strKind prog w).pyHash (k := x) (strKind_is _ _ _ _) ?_))
    have room : (onceN xs i).length + 1 < scanBound := by
      have := once_len [] (xs.take i)
      have e := List.length_take_le i xs
      unfold onceN
      simp only [List.length_nil] at this
      omega
    have hS1 := carry mv hS
    refine wpAny_setAddHashed_of (knd := strKind prog w) (s := { s' with toks := s'.toks + 1 }) (strKind_is _ _ _ _) rfl hS1 room fun h' same S2 => ?_
    have S3 : h'.SetOf (strKind prog w) D (fun k => (onceN xs (i + 1)).any (· == k)) (onceN xs (i + 1)).length := by
      refine SetOf_congr S2 (fun k => ?_) ?_
      · rw [onceN_step hx]
        by_cases hq : (onceN xs i).any (· == x) = true
        · rw [if_pos hq]
          by_cases e : k = x
          · subst e; simp only [hq, decide_true, Bool.or_true]
          · simp only [decide_eq_false e, Bool.or_false]
        · rw [if_neg hq, List.any_append]
          congr 1
          show decide (k = x) = ([x].any (· == k))
          rw [List.any_cons, List.any_nil, Bool.or_false]
          by_cases e : k = x
          · subst e; simp
          · have : (x == k) = false := beq_eq_false_iff_ne.mpr fun z => e z.symm
            rw [this, decide_eq_false e]
      · rw [onceN_step hx]
        split <;> simp
    refine wpAny_pure ⟨plainId_quiet PyProof.Rows.F.plain_set_update_loop _, ih (i + 1) _ (by omega) hlt (W.frame _ s' _ _ hst' (Nat.le_succ _) fun b hb o z => ?_) S3 fun s2 mv2 S4 => ?_⟩
    · rw [same.2 b (fun e : b = D => hD (e ▸ hb))]
      exact z
    · refine q s2 (Moved.trans W.gtrans ((mv.mono more).then_heap (Nat.le_succ _) fun b o hb z => ?_) mv2) S4
      rw [same.2 b (fun e : b = D => hb (e ▸ List.mem_cons_self))]
      exact z
end
section
variable {prog : Program} {w : World} {A : Around} {E : Value → Shared → Prop} {s : Shared} {l : Addr} {items : Array Value} {xs : List Str}
/-- a new, empty set -/
abbrev emptySet (led : Bool) : Obj := { cls := .type "set", dict := none, data := .set #[] 0 (.fresh 0 0 led) }
/-- what stands behind set(..) of texts -/
def SetMade (prog : Program) (w : World) (s : Shared) (xs : List Str) (h' : Heap) : Prop := h'.SetOf (strKind prog w) s.heap.objs.size (fun k => (onceN xs xs.length).any (· == k)) (onceN xs xs.length).length ∧
  ∀ b o, b < s.heap.objs.size → s.heap.get? b = some o → h'.get? b = some o
/-- set(..) from its __init__ -/
theorem set_new (v : Value) {Q : Value → Shared → Prop} {Z : Heap → Prop}
    (ini : ∀ (led : Bool) (B : Around), B.handled = A.handled → wpAny (model prog w) B (Builtin.«set.__init__» ⟨[.ref s.heap.objs.size, v], []⟩) (fun r t => ∃ u h' tk, r = .done (.ret u) ∧ u = .none ∧ t = { s with heap := h', toks := tk } ∧ Z h') E { s with heap := s.heap.push (emptySet led) })
    (q : ∀ h' tk, Z h' → Q (.ref s.heap.objs.size) { s with heap := h', toks := tk }) : wpAny (model prog w) A (call (.type "set") [v]) Q E s := by
  obtain ⟨c, tl, hmro⟩ := PySem.F.called_set.mro
  have k1 := PySem.F.called_set.made
  have k2 := PySem.F.called_set.sub
  refine wpAny_call (codeAny_of_tree ?_)
  show wpAny _ _ (callAny (.type "set") _) _ _ _
  refine wpAny_pure ⟨Code.quiet_builtin _ (by decide +kernel), codeAny_builtin PySem.F.entry_type_call ?_⟩
  rw [Around.under_plain (weight_type_call_type "set" [v] []) rfl]
  have k3 := PySem.F.called_set.notType
  have k4 := PySem.F.called_set.canCreate
  have k5 := PySem.F.typeCall_set_1 v
  repeat (any_goals (first | assumption | wp_step))
  refine codeAny_mono (code_set_new_1 v (E := E) (Q₁ := fun obj t => ∃ led : Bool, obj = .ref s.heap.objs.size ∧ t = { s with heap := s.heap.push (emptySet led) }) fun led => ⟨led, rfl, rfl⟩) ?_
  rintro (e | (_ | _ | _ | obj)) t z
  · exact z
  all_goals first | exact z.elim | skip
  obtain ⟨led, rfl, rfl⟩ := z
  have got : (s.heap.push (emptySet led)).get? s.heap.objs.size = some (emptySet led) := Heap.get?_push_size _ rfl
  have ty : Shared.TypeIs { s with heap := s.heap.push (emptySet led) } (.ref s.heap.objs.size) "set" := ⟨_, got, rfl⟩
  have k6 := PySem.F.called_set.init.lookup
  have k7 := PySem.F.called_set.init.bind (.ref s.heap.objs.size)
  repeat (any_goals (first | assumption | wp_step))
  refine codeAny_mono (codeAny_call_builtin (R := wants (fun r t => r = .none ∧ ∃ h' tk, t = { s with heap := h', toks := tk } ∧ Z h') E) PySem.F.called_set.init.plain PySem.F.entry_set_init (check_set_init_1 ty ?_)) ?_
  · refine wpAny_mono (ini led _ ?_) ?_ fun _ _ z => z
    · simp
    · rintro r t ⟨u, h', tk, rfl, rfl, rfl, z⟩
      exact ⟨rfl, h', tk, rfl, z⟩
  · rintro (e | (_ | _ | _ | r)) t z
    · exact z
    all_goals first | exact z.elim | skip
    obtain ⟨rfl, h', tk, rfl, zz⟩ := z
    repeat (any_goals (first | assumption | wp_step))
    exact q _ _ zz
end
end DL

end
section
set_option Elab.async false
set_option linter.all false
set_option maxRecDepth 100000
set_option maxHeartbeats 8000000
/-! S2: set(xs) of a list or tuple of texts; its length. -/
namespace DL
open PySem PySem.Spec PyProof.Rows
section
variable {prog : Program} {w : World} {A : Around} {E : Value → Shared → Prop} {s : Shared} {l : Addr} {items : Array Value} {xs : List Str}
theorem set_iter {it : Obj} {St : Nat → Heap → Prop} {P : Nat → Value → Prop} (led : Bool) (hn : items.size + 1 < scanBound) (hsz : xs.length = items.size)
    (W : Walks prog w A.in1 (s.heap.objs.size + 1) [s.heap.objs.size + 1, l] [s.heap.objs.size + 1] items.size P St) (hl : l < s.heap.objs.size) (hv : ∀ i v, P i v → ∃ x t, xs[i]? = some x ∧ v = .str x t)
    (h0 : St 0 ((s.heap.push (emptySet led)).push it)) {Rr : Result → Shared → Prop} (fin : ∀ h' tk, SetMade prog w s xs h' → Rr (.ok (.ret .none)) { s with heap := h', toks := tk }) :
    codeAny (model prog w) A (.builtin "set.update.loop" ⟨[.ref s.heap.objs.size, .ref (s.heap.objs.size + 1)], []⟩) Rr { s with heap := (s.heap.push (emptySet led)).push it } := by
  have got : ((s.heap.push (emptySet led)).push it).get? s.heap.objs.size = some (emptySet led) := Heap.get?_push_of_some _ (Heap.get?_push_size _ rfl)
  have apart : s.heap.objs.size ∉ [s.heap.objs.size + 1, l] := by
    simp only [List.mem_cons, List.mem_singleton, List.not_mem_nil, or_false, not_or]
    exact ⟨Nat.ne_of_lt (Nat.lt_succ_self _), Nat.ne_of_gt hl⟩
  have start : ((s.heap.push (emptySet led)).push it).SetOf (strKind prog w) s.heap.objs.size (fun k => (onceN xs 0).any (· == k)) (onceN xs 0).length :=
    SetOf_congr ((setObjOf_fresh (knd := strKind prog w) led).setOf got (by unfold scanBound; omega)) (fun _ => by simp [onceN, once]) (by simp [onceN, once])
  refine fill_set W.toS s.heap.objs.size apart xs hn hv (items.size - 0) 0 _ (by omega) (Nat.zero_le _) h0 start fun s' mv S => ?_
  rcases s' with ⟨h', g', d', tk', os'⟩
  obtain rfl : g' = s.gens := mv.gens
  obtain rfl : d' = s.drawn := mv.drawn
  obtain rfl : os' = s.os := mv.os
  refine fin h' tk' ⟨by rw [hsz]; exact S, fun b o hb z => ?_⟩
  refine mv.heap b o ?_ (Heap.get?_push_of_some _ (Heap.get?_push_of_some _ z))
  simp only [List.mem_cons, List.mem_singleton, List.not_mem_nil, or_false, not_or]
  exact ⟨Nat.ne_of_lt hb, Nat.ne_of_lt (Nat.lt_succ_of_lt hb)⟩
theorem set_list (hh : A.handled = none) (hl : s.heap.IsList l items) (hi : StrsAre items.toList xs) (hn : items.size + 1 < scanBound) {Q : Value → Shared → Prop} (q : ∀ h' tk, SetMade prog w s xs h' → Q (.ref s.heap.objs.size) { s with heap := h', toks := tk }) :
    wpAny (model prog w) A (call (.type "set") [.ref l]) Q E s := by
  refine set_new (Z := SetMade prog w s xs) _ (fun led B hB => ?_) q
  have hl0 := hl
  obtain ⟨⟨oc, od, dt, os⟩, hol, hcl, nl, hdl⟩ := hl
  obtain rfl : oc = .type "list" := hcl
  obtain rfl : dt = .seq items nl := hdl
  have at1 : (s.heap.push (emptySet led)).get? l = some { cls := .type "list", dict := od, data := .seq items nl, slots := os } := Heap.get?_push_of_some _ hol
  have n1 := PySem.F.sub_list_set
  have n2 := PySem.F.sub_list_frozenset
  have n3 : (Value.type "list" == Value.type "dict") = false := by decide
  have isL : (s.heap.push (emptySet led)).IsList l items := ⟨_, at1, rfl, nl, rfl⟩
  unfold Builtin.«set.__init__» noKeywords Builtin.Frozenset.updateFrom
  generalize hPI : pyIter = PI
  wp_walk
  subst hPI
  refine wpAny_pyIter_list isL (wpAny_bind (wpAny_runValue ?_))
  have lt := Heap.lt_size hol
  have hsz : xs.length = items.size := by rw [← StrsAre.len_eq hi, Array.length_toList]
  have ne : l ≠ s.heap.objs.size + 1 := Nat.ne_of_lt (Nat.lt_succ_of_lt lt)
  have hv : ∀ i v, items[i]? = some v → ∃ x t, xs[i]? = some x ∧ v = Value.str x t := fun i v e => by
    obtain ⟨t, rfl⟩ := SS.strs_at hi i v (by rw [Array.getElem?_toList]; exact e)
    have lti : i < xs.length := by rw [hsz]; exact (Array.getElem?_eq_some_iff.mp e).1
    exact ⟨xs.getD i Str.empty, t, by rw [List.getElem?_eq_getElem lti]; simp [lti], rfl⟩
  have szE : (s.heap.push (emptySet led)).objs.size = s.heap.objs.size + 1 := Heap.size_push ..
  show codeAny _ _ (.builtin "set.update.loop" ⟨[.ref s.heap.objs.size, .ref (s.heap.push (emptySet led)).objs.size], []⟩) _ _
  rw [szE]
  refine set_iter (prog := prog) (w := w) (s := s) (xs := xs) (it := { cls := .type "list_iterator", data := .fields #[.ref l, .int 0 0] }) (P := ?P) (St := ?St) led hn hsz ?W lt ?hv ?h0 fun h' tk made => ?_
  case W => exact Walks.list (show B.in1.handled = none from hB.trans hh) _ l ne items
  case hv => exact hv
  case h0 => exact ⟨⟨{ cls := .type "list_iterator", data := .fields #[.ref l, .int 0 0] }, by rw [← szE]; exact Heap.get?_push_size _ rfl, rfl, rfl⟩, isL.push _⟩
  show wpAny _ _ _ _ _ _
  refine wpAny_pure ?_
  show wpAny _ _ (ret Value.none) _ _ _
  exact wpAny_pure ⟨_, h', tk, rfl, rfl, rfl, made⟩
theorem set_tuple (hh : A.handled = none) (hl : s.heap.IsTuple l items) (hi : StrsAre items.toList xs) (hn : items.size + 1 < scanBound) {Q : Value → Shared → Prop} (q : ∀ h' tk, SetMade prog w s xs h' → Q (.ref s.heap.objs.size) { s with heap := h', toks := tk }) :
    wpAny (model prog w) A (call (.type "set") [.ref l]) Q E s := by
  refine set_new (Z := SetMade prog w s xs) _ (fun led B hB => ?_) q
  have hl0 := hl
  obtain ⟨⟨oc, od, dt, os⟩, hol, hcl, nl, hdl⟩ := hl
  obtain rfl : oc = .type "tuple" := hcl
  obtain rfl : dt = .seq items nl := hdl
  have at1 : (s.heap.push (emptySet led)).get? l = some { cls := .type "tuple", dict := od, data := .seq items nl, slots := os } := Heap.get?_push_of_some _ hol
  have n1 := PySem.F.sub_tuple_set
  have n2 := PySem.F.sub_tuple_frozenset
  have n3 : (Value.type "tuple" == Value.type "dict") = false := by decide
  have isL : (s.heap.push (emptySet led)).IsTuple l items := ⟨_, at1, rfl, nl, rfl⟩
  unfold Builtin.«set.__init__» noKeywords Builtin.Frozenset.updateFrom
  generalize hPI : pyIter = PI
  wp_walk
  subst hPI
  refine wpAny_pyIter_tuple isL (wpAny_bind (wpAny_runValue ?_))
  have lt := Heap.lt_size hol
  have hsz : xs.length = items.size := by rw [← StrsAre.len_eq hi, Array.length_toList]
  have ne : l ≠ s.heap.objs.size + 1 := Nat.ne_of_lt (Nat.lt_succ_of_lt lt)
  have hv : ∀ i v, items[i]? = some v → ∃ x t, xs[i]? = some x ∧ v = Value.str x t := fun i v e => by
    obtain ⟨t, rfl⟩ := SS.strs_at hi i v (by rw [Array.getElem?_toList]; exact e)
    have lti : i < xs.length := by rw [hsz]; exact (Array.getElem?_eq_some_iff.mp e).1
    exact ⟨xs.getD i Str.empty, t, by rw [List.getElem?_eq_getElem lti]; simp [lti], rfl⟩
  have szE : (s.heap.push (emptySet led)).objs.size = s.heap.objs.size + 1 := Heap.size_push ..
  show codeAny _ _ (.builtin "set.update.loop" ⟨[.ref s.heap.objs.size, .ref (s.heap.push (emptySet led)).objs.size], []⟩) _ _
  rw [szE]
  refine set_iter (prog := prog) (w := w) (s := s) (xs := xs) (it := { cls := .type "tuple_iterator", data := .fields #[.ref l, .int 0 0] }) (P := ?P) (St := ?St) led hn hsz ?W lt ?hv ?h0 fun h' tk made => ?_
  case W => exact Walks.tuple (show B.in1.handled = none from hB.trans hh) _ l ne items
  case hv => exact hv
  case h0 => exact ⟨⟨{ cls := .type "tuple_iterator", data := .fields #[.ref l, .int 0 0] }, by rw [← szE]; exact Heap.get?_push_size _ rfl, rfl, rfl⟩, isL.push _⟩
  show wpAny _ _ _ _ _ _
  refine wpAny_pure ?_
  show wpAny _ _ (ret Value.none) _ _ _
  exact wpAny_pure ⟨_, h', tk, rfl, rfl, rfl, made⟩
end
end DL

end
section
set_option Elab.async false
set_option linter.all false
set_option maxRecDepth 100000
set_option maxHeartbeats 4000000
/-! S3: len(set(texts)). -/
namespace DL
open PySem PySem.Spec PyProof.Rows L2
/-- how many texts there are, each counted once -/
def kindsOf (xs : List Str) : Nat := (onceN xs xs.length).length
def tLenSetU (K : Fg) (ta : TE) : TE := fun σ H Q => ta σ H fun x H1 => ∃ l, ∃ xs : List Str, x = .ref l ∧ (SqL K H1 l (xs.map V.str) ∨ SqT K H1 l (xs.map V.str)) ∧ xs.length < 4000 ∧ Q (.int (kindsOf xs : Nat)) H1
section
variable {X : Cx} {a : Expr} {ta : TE} {p p2 q pos : Pos}
theorem pe_lenSetU (hc : X.calm = true) (hg : Gl X "len") (hm : X.mg "len" = none) (hg2 : Gl X "set") (hm2 : X.mg "set" = none) (ha : PE X a ta)
    (na : starEach [a] X.env = (false, eval a X.env) :: starEach [] X.env := by rfl) : PE X (.Call (.Name "len" p) [.Call (.Name "set" p2) [a] [] q] [] pos) (tLenSetU X.K ta) := by
  constructor
  intro pins s σ H Q J h
  refine Call_ (ld_blt J hg hm boot_len (PyProof.Rows.callWith_builtin1 (PyProof.Rows.args_cons (Call_ (ld_blt J hg2 hm2 boot_set
    (PyProof.Rows.callWith_type1 (PyProof.Rows.args_cons (thn (ha.run pins s σ H _ J h) ?_) na) na rfl))) rfl) rfl rfl))
  rintro v s1 ⟨x, H1, J1, r1, l, xs, rfl, hq, hz, q1⟩
  refine PyProof.Rows.args_nil ?_
  cases r1
  have bound : xs.length + 1 < scanBound := by unfold scanBound; omega
  have small : kindsOf xs ≤ xs.length := by
    have := once_len [] (xs.take xs.length)
    unfold kindsOf onceN
    rw [List.take_length] at this ⊢
    simpa using this
  have fin : ∀ (h' : Heap) (tk : Nat), SetMade X.prog X.w s1 xs h' →
      wpAny (model X.prog X.w) X.A (spliced (backTo pos (starEach [] X.env))) (fun vs s₂ => wpAny (model X.prog X.w) X.A (call (.builtin "len") (Value.ref s1.heap.objs.size :: vs)) (EP X pins σ Q) X.xe s₂) X.xe { s1 with heap := h', toks := tk } := by
    rintro h' tk ⟨⟨o, es, ep, t, ho, hex, hd, _, _, _, hf, hn⟩, keep⟩
    refine PyProof.Rows.args_nil ?_
    have J2 : Inv X pins σ H1 { s1 with heap := h', toks := tk } := J1.kept fun b o e => keep b o (Heap.lt_size e) e
    have hn' : es.size = kindsOf xs := hn
    exact call_len_set ho hex hd hf (by rw [hn']; omega) ⟨.int (kindsOf xs : Nat), H1, J2.tok _, ⟨_, by rw [hn']⟩, q1⟩
  have calm := J1.ok.hd hc
  rcases hq with hq | hq
  · obtain ⟨its, r, pl, _⟩ := J1.list hq
    have e : its.toArray.size = xs.length := by rw [List.size_toArray, ← r.length, List.length_map]
    exact set_list calm pl.isList (by simpa using strsAre_of r) (by rw [e]; exact bound) fin
  · obtain ⟨its, r, pl, _⟩ := J1.tuple hq
    have e : its.toArray.size = xs.length := by rw [List.size_toArray, ← r.length, List.length_map]
    exact set_tuple calm pl (by simpa using strsAre_of r) (by rw [e]; exact bound) fin
theorem kLenSet {K : Fg} (h : X.K = K) (hc : X.calm = true) (hg : Gl X "len") (hm : X.mg "len" = none) (hg2 : Gl X "set") (hm2 : X.mg "set" = none) (ha : PE X a ta)
    (na : starEach [a] X.env = (false, eval a X.env) :: starEach [] X.env := by rfl) : PE X (.Call (.Name "len" p) [.Call (.Name "set" p2) [a] [] q] [] pos) (tLenSetU K ta) := h ▸ pe_lenSetU hc hg hm hg2 hm2 ha na
end
section
variable {K : Fg} {E : SX} {F : Fr} {σ : L2.St} {H0 H : Hp} {ρ ρ' : List Sl}
def gLenSet (d : Dt) : Option Sl := match seqOf d with
  | some ds => match strsOf ds with
    | some xs => if decide (xs.length < 4000) then some (.val (.int (kindsOf xs : Nat))) else none
    | none => none
  | none => none
def fLenSet (f : M Sl) : M Sl := mB (vl f) fun d => mO (gLenSet d)
instance sLenSet {ta : TE} {f : M Sl} [A : SimE K E ta f] : SimE K E (tLenSetU K ta) (fLenSet f) where
  run := fun F σ H0 H ρ r ρ' Q R e h => by
    refine A.bindV R e h.hx fun c ρ1 v H1 H' e1 s1 R1 rd1 => ?_
    obtain ⟨s, es, rfl, rfl⟩ := mO_inv e1
    unfold gLenSet at es
    cases q1 : seqOf c with
    | none => rw [q1] at es; cases es
    | some ds =>
      rw [q1] at es
      simp only at es
      cases q2 : strsOf ds with
      | none => rw [q2] at es; cases es
      | some xs =>
        rw [q2] at es
        simp only at es
        split at es
        · rename_i hz
          cases es
          obtain ⟨l, vs, rfl, hs, hr⟩ := rd1.seq q1
          have ev : vs = xs.map V.str := by
            rw [strsOf_inv q2] at hr
            exact hr.strs
          subst ev
          exact ⟨l, xs, rfl, hs.imp (fun z => R1.s2.seq z) (sqT_mono R1.s2), of_decide_eq_true hz, h _ H1 H' s1 (R1.push RD.int)⟩
        · cases es
end
end DL

end
section
set_option Elab.async false
set_option linter.all false
set_option maxRecDepth 100000
set_option maxHeartbeats 4000000
/-! Z1: words for the generator. -/
namespace DL
open PySem PySem.Spec L2
/-- a walk over a list, a tuple or a text -/
def iSeqU (K : Fg) (tl : TE) : TI := fun σ H R => iList K tl σ H R ∨ iTup K tl σ H R ∨ iStr tl σ H R
theorem kiSeq {X : Cx} {K : Fg} {tg l : Expr} {tl : TE} (h : X.K = K) (hl : PE X l tl) : PI X tg l (iSeqU K tl) := by
  subst h
  constructor
  intro pins s σ H R J q
  rcases q with q | q | q
  · exact (pi_list hl).run pins s σ H R J q
  · exact (pi_tup hl).run pins s σ H R J q
  · exact (pi_str hl).run pins s σ H R J q
section
variable {K : Fg} {E : SX} {F : Fr} {pin : Nat → Bool} {σ : L2.St} {H0 H : Hp} {ρ ρ' : List Sl}
def seqU : Dt → Option (List Dt)
  | .lst ds => some ds
  | .rol ds => some ds
  | .tup ds => some ds
  | .str x => some (signsD x)
  | _ => none
def fISU (f : M Sl) : M (List Dt) := mB (vl f) fun d => mO (seqU d)
instance sISeqU {te : TE} {f : M Sl} [A : SimE K E te f] : SimI K E (iSeqU K te) (fISU f) where
  run := fun F σ H0 H ρ r ρ' Q R e h => by
    unfold fISU mB at e
    cases q : vl f ρ with
    | none => rw [q] at e; cases e
    | some p =>
      obtain ⟨r0, ρ1⟩ := p
      rw [q] at e
      cases r0 with
      | ex C ns ds =>
        refine .inl ((sIList (A := A)).run F σ H0 H ρ r ρ' Q R ?_ h)
        unfold fIL mB
        rw [q]
        exact e
      | ok d =>
        simp only at e
        obtain ⟨ds, es, rfl, rfl⟩ := mO_inv e
        cases d with
        | lst xs =>
          cases es
          refine .inl (A.runV R q fun v H1 H' s1 R1 rd1 => ?_)
          obtain ⟨a, ys, rfl, h1, h2⟩ := rd1.lst_inv
          exact ⟨a, rfl, ⟨ys, .inl (.inl (R1.s2 _ _ h1))⟩, h _ H1 H' s1 R1 (walkD_list (.inl (.inl h1)) h2)⟩
        | rol xs =>
          cases es
          refine .inl (A.runV R q fun v H1 H' s1 R1 rd1 => ?_)
          obtain ⟨a, ys, rfl, h1, h2⟩ := rd1.rol_inv
          exact ⟨a, rfl, ⟨ys, R1.s2.seq h1⟩, h _ H1 H' s1 R1 (walkD_list h1 h2)⟩
        | tup xs =>
          cases es
          refine .inr (.inl (A.runV R q fun v H1 H' s1 R1 rd1 => ?_))
          obtain ⟨a, ys, rfl, h1, h2⟩ := rd1.tup_inv
          exact ⟨a, rfl, ⟨ys, sqT_mono R1.s2 h1⟩, h _ H1 H' s1 R1 (walkD_tup h1 h2)⟩
        | str x =>
          refine .inr (.inr ((sIStr (A := A)).run F σ H0 H ρ _ _ Q R ?_ h))
          unfold fIS mB
          rw [q]
          cases es
          rfl
        | _ => cases es
end
/-! ### what is let out -/
section
variable {P : Program} {w : World} {X : Cx}
theorem pa0 : ∀ σ : L2.St, PassesAt CX0 X σ (EN σ) := fun _ _ _ _ _ _ _ z => z.elim
/-- a call in a body that nothing leaves, of a def that may raise -/
theorem paN : ∀ σ : L2.St, PassesAt (L2.CX X.prog X.w) X σ (EN σ) := fun _ _ _ _ _ _ _ z => by
  obtain ⟨_, _, _, _, _, _, _, _, _, _, _, _, q⟩ := z
  exact q.elim
theorem paX {E : SX} (tk : Takes X fun cls d σ H => E σ cls d H) : ∀ σ : L2.St, PassesAt (L2.CX X.prog X.w) X σ (E σ) := fun σ => passAt tk σ
theorem paP {E : SX} {P : Program} {w : World} (hp : X.prog = P) (hw : X.w = w) (tk : Takes X fun cls d σ H => E σ cls d H) : ∀ σ : L2.St, PassesAt (L2.CX P w) X σ (E σ) := by subst hp hw; exact paX tk
theorem paQ {P : Program} {w : World} (hp : X.prog = P) (hw : X.w = w) : ∀ σ : L2.St, PassesAt (L2.CX P w) X σ (EN σ) := by subst hp hw; exact paN
theorem tk0 : Takes X fun cls d σ H => EN σ cls d H := takes0
end
/-- an own class of exceptions, by its name: C(e) may be raised -/
structure Dx (P : Program) (w : World) (K : Fg) (mg : Str → Option Value) (base : Heap) (k : Nat) (x : Str) (C : Addr) (f : Str) : Prop where
  ex : ∃ (B N I : String) (bm : List Value) (fI : Addr) (fd : FuncData) (ps : List Str), OwnX K C B N I bm ∧ PySem.W.findIn K (.ref C) "__init__" = some (some (.ref fI)) ∧ PySem.W.typeIn K (.ref fI) = some (.type "function") ∧
    FnOk P w K mg base CX0 k fI fd ps (spX C f okX) ∧ Binds K fd ps [] ∧ mg x = some (.ref C)
theorem kMkX {X : Cx} {P : Program} {w : World} {K : Fg} {mg : Str → Option Value} {base : Heap} {k : Nat} {x : Str} {C : Addr} {f : Str} {te : TE} {e : Expr} {p pos : Pos} (D : Dx P w K mg base k x C f) (h1 : X.prog = P) (h2 : X.w = w) (h3 : X.K = K) (h4 : X.mg = mg) (h5 : X.base = base)
    (hr : Room (k + 1) X.A) (hg : Gl X x) (he : PE X e te) (hdb : (x == ("__debug__" : Str)) = false := by decide) (hs : starEach [e] X.env = (false, eval e X.env) :: starEach [] X.env := by rfl) :
    PMk X (.Call (.Name x p) [e] [] pos) (tXm C f okX te) := by
  subst h1 h2 h3 h4 h5
  obtain ⟨B, N, I, bm, fI, fd, ps, T, i1, i2, F1, hb, hm⟩ := D.ex
  exact pmk_x T i1 i2 F1 hr hb hg hm he hdb hs
end DL

end
section
set_option Elab.async false
set_option linter.all false
set_option maxRecDepth 100000
set_option maxHeartbeats 4000000
/-! Z2: an own exception made and held, not raised. -/
namespace DL
open PySem PySem.Spec L2
def tXval (C : Addr) (f : Str) (te : TE) : TE := fun σ H Q => tXm C f okX te σ H fun cls d H2 => ∀ a, H2 a = none → Q (.ref a) (upd H2 a (ExV cls d a))
theorem pe_xval {X : Cx} {e : Expr} {te : TE} {C : Addr} {f : Str} (m : PMk X e (tXm C f okX te)) : PE X e (tXval C f te) := by
  constructor
  intro pins s σ H Q J h
  refine thn (m pins s σ H _ J h) ?_
  rintro u ⟨hp, g, d, t, os⟩ ⟨a, oe, vs, sI, H', cls, dd, rfl, J1, keep, no, at1, z, fd, _, na, ho, bare, _, q⟩
  have J2 : Inv X pins σ (upd H' a (ExV cls dd a)) ⟨hp, g, d, t, os⟩ :=
    J1.call' (ch := []) ho (Un.laidN keep no na) (J1.hok.laidN keep na (exV_ok at1 z fd)) bare fun b hb => absurd hb (by simp)
  exact ⟨.ref a, _, J2, rfl, q a na⟩
section
variable {K : Fg} {E : SX} {F : Fr} {pin : Nat → Bool} {σ : L2.St} {H0 H : Hp} {ρ ρ' : List Sl}
def fXval (C : Addr) (f : Str) (fe : M Sl) : M Sl := mB (vl fe) fun d => if okD d then mP (.val (.exn C [f] [d])) else fun _ => none
instance sXval {C : Addr} {f : Str} {te : TE} {fe : M Sl} [A : SimE K E te fe] : SimE K E (tXval C f te) (fXval C f fe) where
  run := fun F σ H0 H ρ r ρ' Q R e h => by
    refine A.bindV R e h.hx fun c ρ1 v H1 H' e1 s1 R1 rd1 => ?_
    split at e1
    · rename_i ho
      obtain ⟨rfl, rfl⟩ := mP_inv e1
      refine ⟨okD_read rd1 ho, fun d hd a ha => ?_⟩
      have Rd := R1.grow (.side (o := .xd [(f, v)]) R1.s2 hd)
      obtain ⟨H2, s2, R2⟩ := Rd.holdX (C := C) (.inr ⟨d, [(f, v)], rfl, R1.fresh hd, same_none R1.s2 hd, upd_same, rfl, RDs.cons rd1 RDs.nil⟩) ha
      exact h _ H2 _ (s1.trans s2) R2
    · cases e1
end
end DL

end
section
set_option Elab.async false
set_option linter.all false
set_option maxRecDepth 100000
set_option maxHeartbeats 4000000
/-! Z3: looks at what a name owns, without giving it away. -/
namespace DL
open PySem PySem.Spec L2
section
variable {K : Fg} {E : SX} {F : Fr} {pin : Nat → Bool} {σ : L2.St} {H0 H : Hp} {ρ ρ' : List Sl}
def seen (ρ : List Sl) (i : Nat) : Option Dt := match ρ[i]? with
  | some (.own o) => some o.dt
  | some (.val d) => some d
  | _ => none
theorem seen_read {i : Nat} {d : Dt} (R : Rep K F σ H0 H ρ) (e : seen ρ i = some d) : ∃ v, σ[i]? = some (some v) ∧ RD K H d v := by
  unfold seen at e
  split at e
  · rename_i o q
    cases e
    obtain ⟨a, ea, n, t, r⟩ := R.own i o q
    exact ⟨.ref a, ea, r.rd R.s2 (fun _ z => z)⟩
  · rename_i d' q
    cases e
    obtain ⟨v, ev, rd⟩ := R.val i _ q
    exact ⟨v, ev, rd.mono R.s2⟩
  · cases e
def fReprV (i : Nat) : M Sl := fun ρ => match (seen ρ i).bind textD with
  | some x => some (.ok (.val (.str x)), ρ)
  | none => none
instance (priority := high) sReprV {i : Nat} : SimE K E (tCB (rRepr K) (tCons (tVar i) tNil)) (fReprV i) where
  run := fun F σ H0 H ρ r ρ' Q R e h => by
    unfold fReprV at e
    cases q : seen ρ i with
    | none => rw [q] at e; cases e
    | some d =>
      rw [q] at e
      cases q2 : textD d with
      | none => simp only [Option.bind_some, q2] at e; cases e
      | some x =>
        simp only [Option.bind_some, q2, Option.some.injEq, Prod.mk.injEq] at e
        obtain ⟨rfl, rfl⟩ := e
        obtain ⟨v, ev, rd⟩ := seen_read R q
        obtain ⟨p, q3, q4, q5⟩ := textD_inv q2
        refine ⟨v, ev, v, p, rfl, pyD_shw rd q3, q4, ?_⟩
        rw [q5]
        exact h _ H0 H (Same.refl _) (R.push RD.str)
def fLenV (i : Nat) : M Sl := fun ρ => match (seen ρ i).bind fun d => gLen [d] with
  | some (.val (.int n)) => some (.ok (.val (.int n)), ρ)
  | _ => none
instance (priority := high) sLenV {i : Nat} : SimE K E (tCB (fun xs H Q => ∃ x n, xs = [x] ∧ LenV K x H n ∧ Q (.int n) H) (tCons (tVar i) tNil)) (fLenV i) where
  run := fun F σ H0 H ρ r ρ' Q R e h => by
    unfold fLenV at e
    cases q : seen ρ i with
    | none => rw [q] at e; cases e
    | some d =>
      rw [q, Option.bind_some] at e
      split at e
      · rename_i n q2
        cases e
        obtain ⟨v, ev, rd⟩ := seen_read R q
        refine ⟨v, ev, ?_⟩
        refine vLen.run [v] [d] _ H H Q (Same.refl _) (RDs.cons rd RDs.nil) q2 ?_
        intro u H1 H1' g rdu
        have : u = .int n := rdu.int_inv
        subst this
        exact h _ H0 H1' (Same.refl _) ((R.grow ⟨Same.refl _, g.g2, R.s2.trans g.g2, fun _ _ z => z⟩).push RD.int)
      · cases e
end
theorem kIndex {X : Cx} {K : Fg} (h : X.K = K) : MtR X "list.index" (rIndex K) := h ▸ mt_index
theorem kSetF {X : Cx} {K : Fg} {o value : Expr} {f : Str} {ta tv : TE} {p pos : Pos} (h : X.K = K) (ha : PE X o ta) (hv : PE X value tv) (hs : swapsWith value (some (.Attribute o f p)) pos.line X.env = pure false) : PS X (.Assign [.Attribute o f p] value pos) (L2.sFld K ta tv f) := h ▸ ps_fld ha hv hs
theorem kIdx {X : Cx} {K : Fg} {o e : Expr} {es : List Expr} {to : TE} {t : TA} {apos cpos : Pos} (h : X.K = K) (ho : PE X o to) (ha : PA X (e :: es) t)
    (hbase : attributeBase o "index" X.env (eval o X.env) = eval o X.env := by rfl)
    (hfew : ((backTo cpos (starEach (e :: es) X.env)).all (fun x => !x.1) && (backToKw cpos (keywordEach [] X.env)).all (fun x => x.1.isSome)
      && decide ((e :: es).length + ([] : List Keyword).length + (if ([] : List Keyword).isEmpty then 0 else 1) < 30)) = true := by rfl)
    (hline : (apos.endLine == cpos.line) = true := by rfl) (hs : starEach (e :: es) X.env = (false, eval e X.env) :: starEach es X.env := by rfl) (hplain : (backTo cpos (starEach es X.env)).any (·.1) = false := by rfl) :
    PE X (.Call (.Attribute o "index" apos) (e :: es) [] cpos) (tBM K "list" (rIndex K) to t) :=
  h ▸ pe_bm PySem.F.plainAttrs_list PySem.F.slot_list_index PySem.F.type_list_index mt_index ho ha hbase hfew hline hs hplain
/-- the parameters that are never bound anew -/
def pinL (l : List Bool) : Nat → Bool := fun i => l.getD i false
end DL

end
section
set_option Elab.async false
set_option linter.all false
set_option maxRecDepth 100000
set_option maxHeartbeats 4000000
/-! Z4: list.count of flat values. -/
namespace DL
open PySem PySem.Spec L2
def rCntF (K : Fg) : V → List V → Hp → VK → Prop := fun x xs H Q => ∃ (a : Addr) (ys : List V) (y : V), x = V.ref a ∧ xs = [y] ∧ SqL K H a ys ∧ flatV y = true ∧ ys.all flatV = true ∧ Q (.int (ys.countP (fun z => eqV z y) : Nat)) H
theorem count_rel {y : V} : ∀ {ys : List V} {us : List Value}, Vals ys us → ys.all flatV = true → us.countP (eqU y) = ys.countP (fun z => eqV z y)
  | [], [], .nil, _ => rfl
  | z :: ys, u :: us, .cons r rs, f => by
    simp only [List.all_cons, Bool.and_eq_true] at f
    rw [List.countP_cons, List.countP_cons, count_rel rs f.2, eqU_of r f.1]
theorem mt_countF {X : Cx} : MtR X "list.count" (rCntF X.K) := by
  intro pins s σ H x xs v us Q J rx rxs h
  obtain ⟨a, ys, y, rfl, rfl, hs, fy, fys, q⟩ := h
  cases rx
  obtain ⟨uy, rfl, ry⟩ := rxs.one
  obtain ⟨its, rv, ⟨⟨cls, dd, data, sl⟩, n, ho, hc, _, hd⟩, _⟩ := J.list hs
  obtain rfl : cls = .type "list" := hc
  obtain rfl : data = .seq its.toArray n := hd
  refine call_meets PySem.F.slot_list_count ⟨_, ho, rfl⟩ PySem.F.entry_list_count (PySem.F.args_list_count_2 _ _)
    (SeqAt.list_countAt a its.toArray n dd sl uy (eqU y)) ⟨ho, fun w hw => mem_eqAt ry fy rv fys w (by simpa using hw), ?_⟩
  refine ⟨.int (ys.countP (fun z => eqV z y) : Nat), H, J.tok _, ⟨s.toks, ?_⟩, q⟩
  rw [show its.toArray.toList.countP (eqU y) = ys.countP (fun z => eqV z y) from count_rel rv fys]
theorem kCount {X : Cx} {K : Fg} {o e : Expr} {es : List Expr} {to : TE} {t : TA} {apos cpos : Pos} (h : X.K = K) (ho : PE X o to) (ha : PA X (e :: es) t)
    (hbase : attributeBase o "count" X.env (eval o X.env) = eval o X.env := by rfl)
    (hfew : ((backTo cpos (starEach (e :: es) X.env)).all (fun x => !x.1) && (backToKw cpos (keywordEach [] X.env)).all (fun x => x.1.isSome)
      && decide ((e :: es).length + ([] : List Keyword).length + (if ([] : List Keyword).isEmpty then 0 else 1) < 30)) = true := by rfl)
    (hline : (apos.endLine == cpos.line) = true := by rfl) (hs : starEach (e :: es) X.env = (false, eval e X.env) :: starEach es X.env := by rfl) (hplain : (backTo cpos (starEach es X.env)).any (·.1) = false := by rfl) :
    PE X (.Call (.Attribute o "count" apos) (e :: es) [] cpos) (tBM K "list" (rCntF K) to t) :=
  h ▸ pe_bm PySem.F.plainAttrs_list PySem.F.slot_list_count PySem.F.type_list_count mt_countF ho ha hbase hfew hline hs hplain
section
variable {K : Fg} {H : Hp}
def gCount : Dt → List Dt → Option Sl
  | d, [y] => match lstOf d with
    | some ds => if flatD y && ds.all flatD then some (.val (.int (ds.countP (fun z => eqFD z y) : Nat))) else none
    | none => none
  | _, _ => none
theorem count_flat {y : Dt} {u : V} (ky : RD K H y u) (fy : flatD y = true) : ∀ {ds : List Dt} {vs : List V}, RDs K H ds vs → ds.all flatD = true → vs.countP (fun z => eqV z u) = ds.countP (fun z => eqFD z y)
  | [], _, h, _ => by rw [h.nil_inv]; rfl
  | d :: ds, vs, h, f => by
    obtain ⟨v, r, rfl, h1, h2⟩ := h.inv
    simp only [List.all_cons, Bool.and_eq_true] at f
    rw [List.countP_cons, List.countP_cons, count_flat ky fy h2 f.2, eqFD_read h1 ky f.1 fy]
instance vCount : MtV K (rCntF K) gCount where
  run := fun x xs d ds s H0 H Q sm rx rxs eq h => by
    unfold gCount at eq
    split at eq
    · rename_i y
      cases q : lstOf d with
      | none => rw [q] at eq; cases eq
      | some es =>
        rw [q] at eq
        simp only at eq
        split at eq
        · rename_i hf
          simp only [Bool.and_eq_true] at hf
          cases eq
          obtain ⟨u, rfl, hu⟩ := rxs.one
          obtain ⟨a, vs, rfl, hs, hr⟩ := lstOf_read rx q
          refine ⟨a, vs, u, rfl, rfl, sm.seq hs, flatD_read hu hf.1, all_flat hr hf.2, ?_⟩
          rw [count_flat hu hf.1 hr hf.2]
          exact h.val sm RD.int
        · cases eq
    · cases eq
end
end DL

end
section
set_option Elab.async false
set_option linter.all false
set_option maxRecDepth 100000
set_option maxHeartbeats 4000000
/-! L1: the law's own call, for defs that want no display under way. -/
namespace DL
open PySem PySem.Spec L2 PyProof.Rows
/-- from a heap in which at most the script is tracked -/
theorem law_at {P : Program} {w : World} {K : Fg} {mg mb : Str → Option Value} {CX : CXT} {k : Nat} {fa a : Addr} {fd : FuncData} {x : Str} {sp : Sp} {s : Shared} {H : Hp} {o : Obj} {its : List Value}
    (kin : K.In s.heap) (nsm : s.heap.Ns mainGlobals mg) (nsb : s.heap.Ns builtinsNs mb) (boot : ∀ x : Str, x ≠ "__name__" → mb x = bootBuiltins x) (lim : s.heap.NoLimit) (gens : s.gens = #[])
    (oa : s.heap.get? a = some o) (od : o.data = .seq its.toArray 0 ∨ ∃ n, o.data = .seq its.toArray n) (rm : Rm k callerA)
    (F : ∀ base : Heap, K.In base → base.Ns mainGlobals mg → GFn P w K mg base CX k fa fd [x] sp) (bt : ∀ (s : Shared) (u : Value), BindsTo s fd ⟨[u], []⟩ [(x, u)])
    (ok : HOk P w H s.heap) (only : ∀ b, H b ≠ none → b = a) (frz : ∀ b u, H b = some u → ∃ ob xs, u = .frz ob (.lst xs)) (kA : H a ≠ none → K.lookup a = none)
    (prom : sp [.ref a] H (fun v _ => v = .bl true) fun _ _ _ => False) (hx : ∀ e s', CX [] H s (fun _ _ _ => False) e s' → False) :
    codeAny (model P w) callerA (.call (.ref fa) ⟨[.ref a], []⟩) (fun r s' => r = .ok (.ret (.bool true)) ∧ OldK s.heap s'.heap ∧ s'.os = s.os ∧ AllBare s'.gens) s := by
  have offA : ∀ {b : Addr} {ob : Obj}, s.heap.get? b = some ob → (∀ n, ob.data ≠ .seq its.toArray n) → H b = none := fun {b ob} e ne => by
    cases q : H b with
    | none => rfl
    | some u =>
      obtain rfl := only b (by rw [q]; exact fun z => nomatch z)
      rw [oa] at e
      obtain rfl := Option.some.inj e
      rcases od with z | ⟨n, z⟩
      · exact absurd z (ne 0)
      · exact absurd z (ne n)
  have nsH : ∀ {b : Addr} {m : Str → Option Value}, s.heap.Ns b m → (hidT s.heap H).Ns b m := fun {b m} ⟨ob, es, ep, e, d, r⟩ =>
    ⟨ob, es, ep, hidT_get e (offA e fun n z => by rw [d] at z; exact nomatch z), d, r⟩
  have kinH : K.In (hidT s.heap H) := fun b ob e => hidT_get (kin b ob e) (by
    cases q : H b with
    | none => rfl
    | some u =>
      have hne : H b ≠ none := by rw [q]; exact fun z => nomatch z
      obtain rfl := only b hne
      rw [kA hne] at e
      exact nomatch e)
  obtain ⟨mc, lim1, lim2⟩ := lim
  have env : Env0 P w K mg (hidT s.heap H) callerA [] s H :=
    ⟨rfl, ⟨kinH, nsH nsm, ⟨mb, nsH nsb, boot⟩, ⟨mc, nsH lim1, lim2⟩⟩, fun b ob e => of_hidT e, Nat.le_of_eq (hidT_size _ _), trivial, fun b hb => absurd (show b ∈ ([] : List Addr) from hb) (by simp), ok, .of_eq gens⟩
  refine codeAny_mono ((F _ kinH (nsH nsm)).go (us := [.ref a]) (vs := [.ref a]) rm env (bt s (.ref a)) (.cons rfl .nil) prom) ?_
  rintro (e | (_ | _ | _ | u)) s' z
  · exact (hx e s' z).elim
  all_goals first | exact z.elim | skip
  obtain ⟨v, H', os, bare, un, ok', rv, ev⟩ := z
  obtain rfl : v = V.bl true := ev
  obtain rfl : u = Value.bool true := rv
  refine ⟨rfl, OldK.of_keep fun b ob e => ?_, os, bare⟩
  cases q : H b with
  | none => exact un.keep b ob e q (fun z => absurd (show b ∈ ([] : List Addr) from z) (by simp)) (by simp)
  | some u =>
    obtain ⟨o2, xs, rfl⟩ := frz b u q
    obtain ⟨e1, _⟩ := ok b _ q
    obtain ⟨e2, _⟩ := ok' b _ (un.frzs b o2 _ q)
    rw [e] at e1
    cases e1
    exact e2
/-- THE LAW: its promise, at the heap behind the top -/
theorem law_g {P : Program} {w : World} {K : Fg} {mg mb : Str → Option Value} {CX : CXT} {k : Nat} {fa a : Addr} {fd : FuncData} {x : Str} {sp : Sp} {s : Shared} {vs : List Value} {ns : List Int}
    (kin : K.In s.heap) (nsm : s.heap.Ns mainGlobals mg) (nsb : s.heap.Ns builtinsNs mb) (boot : ∀ x : Str, x ≠ "__name__" → mb x = bootBuiltins x) (lim : s.heap.NoLimit) (gens : s.gens = #[])
    (ha : s.heap.get? a = some { cls := .type "list", data := .seq vs.toArray }) (hi : IntsAre vs ns) (hl : ns.length ≤ sizeLine) (rm : Rm k callerA)
    (F : ∀ base : Heap, K.In base → base.Ns mainGlobals mg → GFn P w K mg base CX k fa fd [x] sp) (bt : ∀ (s : Shared) (u : Value), BindsTo s fd ⟨[u], []⟩ [(x, u)])
    (prom : ∀ H : Hp, Only H → SqL K H a (ns.map V.int) → sp [.ref a] H (fun v _ => v = .bl true) fun _ _ _ => False) (hx : ∀ H e s', CX [] H s (fun _ _ _ => False) e s' → False) :
    codeAny (model P w) callerA (.call (.ref fa) ⟨[.ref a], []⟩) (fun r s' => r = .ok (.ret (.bool true)) ∧ OldK s.heap s'.heap ∧ s'.os = s.os ∧ AllBare s'.gens) s := by
  have rv := vals_ints hi
  have len := hi.length
  cases hk : K.lookup a with
  | some o =>
    have e := kin a o hk
    rw [ha] at e
    obtain rfl := Option.some.inj e
    refine law_at (H := fun _ => none) kin nsm nsb boot lim gens ha (.inr ⟨_, rfl⟩) rm F bt (fun b u z => nomatch (show (none : Option HO) = some u from z)) (fun b z => absurd rfl z) (fun b u z => nomatch (show (none : Option HO) = some u from z))
      (fun z => absurd rfl z) (prom _ (fun _ => .inl rfl) (.inr ⟨_, vs.toArray, _, hk, rfl, rfl, rfl, by rw [List.size_toArray, len]; exact hl, by simpa using rv⟩)) (hx _)
  | none =>
    have h1 : (upd (fun _ => none) a (HO.frz { cls := .type "list", data := .seq vs.toArray } (.lst (ns.map V.int)))) a = some (.frz { cls := .type "list", data := .seq vs.toArray } (.lst (ns.map V.int))) := upd_same
    have h2 : ∀ b, b ≠ a → (upd (fun _ => none) a (HO.frz { cls := .type "list", data := .seq vs.toArray } (.lst (ns.map V.int)))) b = none := fun b hb => upd_ne hb
    refine law_at (H := upd (fun _ => none) a (.frz { cls := .type "list", data := .seq vs.toArray } (.lst (ns.map V.int)))) kin nsm nsb boot lim gens ha (.inr ⟨_, rfl⟩) rm F bt (fun b u z => ?_) (fun b z => ?_) (fun b u z => ?_)
      (fun _ => hk) (prom _ (fun b => ?_) (.inl (.inr ⟨_, h1⟩))) (hx _)
    · rcases Classical.em (b = a) with rfl | hb
      · rw [h1] at z
        obtain rfl := Option.some.inj z
        exact ⟨ha, by rw [List.length_map]; exact hl, vs, _, rv, ha⟩
      · rw [h2 b hb] at z; exact nomatch z
    · exact Classical.byContradiction fun hb => z (h2 b hb)
    · rcases Classical.em (b = a) with rfl | hb
      · rw [h1] at z
        exact ⟨_, _, (Option.some.inj z).symm⟩
      · rw [h2 b hb] at z; exact nomatch z
    · rcases Classical.em (b = a) with rfl | hb
      · exact .inr ⟨_, _, h1⟩
      · exact .inl (h2 b hb)
/-- the caller has the room -/
theorem rm_caller {k : Nat} (h : Room k callerA) : Rm k callerA := ⟨h, rfl⟩
end DL

end
section
set_option Elab.async false
set_option linter.all false
set_option maxRecDepth 100000
set_option maxHeartbeats 4000000
/-! H1: what the top tells of an own class of exceptions, as a Bool. -/
namespace DL
open PySem PySem.Spec L2 PyProof.Rows
def ownB (K : Fg) (C : Addr) (bm : List Value) (N : String) : Bool := match K.lookup C with
  | some ⟨.type "type", _, .cls cd, sl⟩ => (match cd.mro, sl.toList with
    | .ref C' :: bm', [_, _, _, _, some (.builtin n), _] => C' == C && (n == N && (!cd.hasDel && (cd.hasDict && bm' == bm)))
    | _, _ => false)
  | _ => false
theorem ownB_ok {K : Fg} {C : Addr} {bm : List Value} {N : String} (h : ownB K C bm N = true) : ∃ nm q D bs sn sub ab col dd k0 k1 k2 k3 k5, K.lookup C = some (excClassObj nm q C D bs bm true sn sub ab col dd k0 k1 k2 k3 k5 N) := by
  unfold ownB at h
  split at h
  · rename_i dd cd sl ho
    split at h
    · rename_i C' bm' k0 k1 k2 k3 n k5 e1 e2
      simp only [Bool.and_eq_true, beq_iff_eq, Bool.not_eq_true'] at h
      obtain ⟨rfl, rfl, hd, hh, rfl⟩ := h
      rcases cd with ⟨nm, bs, mro, ns, qn, hdct, sn, sb, ab, col, del⟩
      obtain rfl : mro = .ref C' :: bm' := e1
      obtain rfl : del = false := hd
      obtain rfl : hdct = true := hh
      obtain rfl : sl = #[k0, k1, k2, k3, some (.builtin n), k5] := by
        rcases sl with ⟨l⟩
        have : l = [k0, k1, k2, k3, some (.builtin n), k5] := e2
        rw [this]
      exact ⟨nm, qn, ns, bs, sn, sb, ab, col, dd, k0, k1, k2, k3, k5, ho⟩
    · exact absurd h Bool.false_ne_true
  · exact absurd h Bool.false_ne_true
def eqV1 (a b : Option Value) : Bool := decide (a = b)
/-- all that is asked of an own class of exceptions at C, its field f -/
def xclsB (K : Fg) (C : Addr) (bm : List Value) (N : String) (f : Str) : Bool := ownB K C bm N && (He.eqO (PySem.W.findIn K (.ref C) "__setattr__") (some (some (.builtin "object.__setattr__"))) && (xfB K C && (decide (PySem.W.typeIn K (.ref C) = some (.type "type")) && (PySem.W.keepIn K (.ref C) &&
  (He.eqO (PySem.W.findIn K (.ref C) f) (some none) && (He.eqO (PySem.W.findIn K (.ref C) "__init__") (some (some (.ref (He.ma K C "__init__")))) && (decide (PySem.W.typeIn K (.ref (He.ma K C "__init__")) = some (.type "function")) &&
  (He.eqO (PySem.W.findIn K (.ref C) "__class__") (some (some (.builtin "object.__class__"))) && (decide (PySem.W.specialIn K (.builtin "object.__class__") "__get__" = some (some (.builtin "getset_descriptor.__get__"))) &&
  (decide (PySem.W.takesIn K (.builtin "object.__class__") = some true) && decide (PySem.W.mroIn K C (.type "object") = some true)))))))))))
structure XCls (K : Fg) (C : Addr) (bm : List Value) (N : String) (f : Str) : Prop where
  cls : ∃ nm q D bs sn sub ab col dd k0 k1 k2 k3 k5, K.lookup C = some (excClassObj nm q C D bs bm true sn sub ab col dd k0 k1 k2 k3 k5 N)
  sa : PySem.W.findIn K (.ref C) "__setattr__" = some (some (.builtin "object.__setattr__"))
  xf : XfC K C
  ty : PySem.W.typeIn K (.ref C) = some (.type "type")
  kp : PySem.W.keepIn K (.ref C) = true
  no : PySem.W.findIn K (.ref C) f = some none
  ini : PySem.W.findIn K (.ref C) "__init__" = some (some (.ref (He.ma K C "__init__")))
  fn : PySem.W.typeIn K (.ref (He.ma K C "__init__")) = some (.type "function")
  ec : ExcC K C
theorem xclsB_ok {K : Fg} {C : Addr} {bm : List Value} {N : String} {f : Str} (h : xclsB K C bm N f = true) : XCls K C bm N f := by
  obtain ⟨h1, h⟩ := He.ba h
  obtain ⟨h2, h⟩ := He.ba h
  obtain ⟨h3, h⟩ := He.ba h
  obtain ⟨h4, h⟩ := He.ba h
  obtain ⟨h5, h⟩ := He.ba h
  obtain ⟨h6, h⟩ := He.ba h
  obtain ⟨h7, h⟩ := He.ba h
  obtain ⟨h8, h⟩ := He.ba h
  obtain ⟨h9, h⟩ := He.ba h
  obtain ⟨h10, h⟩ := He.ba h
  obtain ⟨h11, h12⟩ := He.ba h
  have x := xfB_ok h3
  exact ⟨ownB_ok h1, He.eqO_ok h2, x, of_decide_eq_true h4, h5, He.eqO_ok h6, He.eqO_ok h7, of_decide_eq_true h8, ⟨x.ga, x.gg, x.exC, x.hdC, He.eqO_ok h9, of_decide_eq_true h10, of_decide_eq_true h11, of_decide_eq_true h12⟩⟩
theorem XCls.own {K : Fg} {C : Addr} {B N I : String} {bm : List Value} {f : Str} (c : XCls K C bm N f) (F : ExcBaseFacts B N I bm) (ob : bm.contains (.type "object") = true) (ps : ∀ self, refuseLoop self "__setattr__" bm = pure ()) : OwnX K C B N I bm :=
  ⟨F, c.cls, ob, ps, c.sa, c.xf.exC, c.ty, c.kp⟩
/-! ### the bases -/
abbrev bmIndex : List Value := [.type "IndexError", .type "LookupError", .type "Exception", .type "BaseException", .type "object"]
abbrev bmValue : List Value := [.type "ValueError", .type "Exception", .type "BaseException", .type "object"]
abbrev bmOver : List Value := [.type "OverflowError", .type "ArithmeticError", .type "Exception", .type "BaseException", .type "object"]
abbrev bmZero : List Value := [.type "ZeroDivisionError", .type "ArithmeticError", .type "Exception", .type "BaseException", .type "object"]
theorem own_index {K : Fg} {C : Addr} {f : Str} (c : XCls K C bmIndex "IndexError.__new__" f) : OwnX K C "IndexError" "IndexError.__new__" "IndexError.__init__" bmIndex := c.own PySem.F.excBase_IndexError (by decide +kernel) (fun _ => by kernel_rfl)
theorem own_value {K : Fg} {C : Addr} {f : Str} (c : XCls K C bmValue "ValueError.__new__" f) : OwnX K C "ValueError" "ValueError.__new__" "ValueError.__init__" bmValue := c.own PySem.F.excBase_ValueError (by decide +kernel) (fun _ => by kernel_rfl)
theorem own_over {K : Fg} {C : Addr} {f : Str} (c : XCls K C bmOver "OverflowError.__new__" f) : OwnX K C "OverflowError" "OverflowError.__new__" "OverflowError.__init__" bmOver := c.own PySem.F.excBase_OverflowError (by decide +kernel) (fun _ => by kernel_rfl)
theorem own_zero {K : Fg} {C : Addr} {f : Str} (c : XCls K C bmZero "ZeroDivisionError.__new__" f) : OwnX K C "ZeroDivisionError" "ZeroDivisionError.__new__" "ZeroDivisionError.__init__" bmZero := c.own PySem.F.excBase_ZeroDivisionError (by decide +kernel) (fun _ => by kernel_rfl)
end DL

end
section
set_option Elab.async false
set_option linter.all false
set_option maxRecDepth 100000
set_option maxHeartbeats 4000000
/-! H2: from a def's facts to what a caller wants. -/
namespace DL
open PySem PySem.Spec L2 PyProof.Rows
section
variable {P : Program} {w : World} {K : Fg} {mg : Str → Option Value} {base : Heap} {CX : CXT} {k n : Nat} {x : Str} {f C : Addr} {fd : FuncData} {ps : List Str} {sp : Sp}
def gPos : List Ar → List Ar → List Ar := fun as _ => as
theorem kbn_pos (b : L2.Binds K fd ps []) (hl : ps.length = n) : KBn K fd ps n [] (fun us _ => us) (fun vs _ => vs) := by
  refine ⟨fun s us ws X l1 l2 => ?_, fun r _ => r⟩
  have e := b s us X (by rw [List.append_nil, l1, hl])
  rw [List.append_nil] at e
  exact e
/-- called by positions, every parameter written -/
theorem mkDk (F : GFn P w K mg base CX k f fd ps sp) (hm : mg x = some (.ref f)) (kp : PySem.W.keepIn K (.ref f) = true) (b : L2.Binds K fd ps []) (hl : ps.length = n) : Dk P w K mg base CX k x n [] gPos sp :=
  ⟨f, fd, ps, _, _, F, hm, kp, kbn_pos b hl, fun _ _ _ _ _ _ _ _ a _ => a⟩
/-- called with keywords, in the parameters' order behind the written ones, then defaults -/
def gKw (dv : List Dt) : List Ar → List Ar → List Ar := fun as bs => as ++ (bs ++ dv.map Ar.d)
theorem puts_kw {m : Nat} {dv : List Dt} {us : List V} (rd : ∀ H : Hp, RDs K H dv us) : Puts K n m (fun vs zs => vs ++ (zs ++ us)) (gKw dv) :=
  fun H0 σ as bs vs zs _ _ a b => a.app (b.app (ArRs.data (rd H0)))
theorem mkDkK {ks : List Str} {dv : List Dt} {us : List V} {gF : List Value → List Value → List Value} (F : GFn P w K mg base CX k f fd ps sp) (hm : mg x = some (.ref f)) (kp : PySem.W.keepIn K (.ref f) = true)
    (b : KBn K fd ps n ks gF (fun vs zs => vs ++ (zs ++ us))) (rd : ∀ H : Hp, RDs K H dv us) : Dk P w K mg base CX k x n ks (gKw dv) sp := ⟨f, fd, ps, gF, _, F, hm, kp, b, puts_kw rd⟩
theorem mkDmK {ks : List Str} {dv : List Dt} {us : List V} {gF : List Value → List Value → List Value} (M : Mk K C f) (F : GFn P w K mg base CX k f fd ps sp) (hm : mg x = some (.ref C))
    (b : KBn K fd ps (n + 1) ks gF (fun vs zs => vs ++ (zs ++ us))) (rd : ∀ H : Hp, RDs K H dv us) : Dm P w K mg base CX k C x n ks (gKw dv) sp := ⟨f, fd, ps, gF, _, M, F, hm, b, puts_kw rd⟩
/-- an own exception's class, by its __init__ -/
theorem mkDx {B N I : String} {bm : List Value} {fl : Str} (T : OwnX K C B N I bm) (c : XCls K C bm N fl) (F : FnOk P w K mg base CX0 k (He.ma K C "__init__") fd ps (spX C fl okX)) (hb : L2.Binds K fd ps []) (hm : mg x = some (.ref C)) : Dx P w K mg base k x C fl :=
  ⟨B, N, I, bm, _, fd, ps, T, c.ini, c.fn, F, hb, hm⟩
/-- the script's promise -/
theorem law_prom {g : M Sl} {a : Addr} {ns : List Int} {H : Hp} {E : XK} (hS : SqL K H a (ns.map V.int)) (e : ∃ as', g [.val (.rol (ns.map Dt.int))] = some (.ok (.val (.bl true)), as')) :
    spP K 1 g [.ref a] H (fun v _ => v = .bl true) E := by
  obtain ⟨as', e⟩ := e
  have rd : RD K H (.rol (ns.map Dt.int)) (.ref a) := by
    unfold RD
    refine ⟨a, _, rfl, hS, ?_⟩
    clear e hS
    induction ns with
    | nil => exact RDs.nil
    | cons n ns ih => exact RDs.cons RD.int ih
  have R0 : Rep K (DL.snap [] H H []) [] H H [] := ⟨rfl, Same.refl _, Same.refl _, fun _ _ h _ => h, fun _ _ h _ => h, fun _ h => h, fun i d h => by simp at h, fun i o h => by simp at h, fun i j o o' a h => by simp at h⟩
  refine ⟨rfl, H, [.val (.rol (ns.map Dt.int))], _, as', (R0.push rd).snap, e, fun v H0' H' s R => ?_⟩
  obtain ⟨u, e1, e2⟩ := R.val 0 _ rfl
  have : u = .bl true := e2.bl_inv
  subst this
  exact Option.some.inj (Option.some.inj e1)
end
end DL

end
section
set_option Elab.async false
set_option linter.all false
set_option maxRecDepth 100000
set_option maxHeartbeats 4000000
/-! Y1: sum of lists and tuples of ints, the least and the greatest of a list, sorted lists of ints. -/
namespace DL
open PySem PySem.Spec PyProof.Rows L2
def rSum2 (K : Fg) : List V → Hp → VK → Prop := fun vs H Q => ∃ (a : Addr) (ns : List Int), vs = [V.ref a] ∧ (SqL K H a (ns.map V.int) ∨ SqT K H a (ns.map V.int)) ∧ Q (.int ns.sum) H
section
variable {X : Cx}
theorem sum_tupI {prog : Program} {w : World} {A : Around} {E : Value → Shared → Prop} {s : Shared} {t : Addr} {its : List Value} {ns : List Int} {Q : Value → Shared → Prop} (hh : A.handled = none) (ht : s.heap.IsTuple t its.toArray) (hi : IntsAre its ns)
    (h : ∀ h' tk t', (∀ b o, s.heap.get? b = some o → h'.get? b = some o) → Q (.int ns.sum t') { s with heap := h', toks := tk }) : wpAny (model prog w) A (call (.builtin "sum") [.ref t]) Q E s := by
  obtain ⟨xs, hx⟩ := hi.allInts.items
  have hn : numsOf its.toArray.toList = ns := hi.numsOf
  rw [hx] at ht hn
  rw [nums_intItems] at hn
  refine PySem.W.ktm_sumG hh ht fun h' tk t' hk => ?_
  have q := h h' tk t' hk
  rw [preSum_eq, List.take_of_length_le (by simp), hn]
  exact q
theorem cr_sum2 (hc : X.calm = true) : CallR X (.builtin "sum") (rSum2 X.K) := by
  intro pins s σ H vs us Q I r h
  obtain ⟨a, ns, rfl, hs | hs, q⟩ := h
  · exact cr_sum hc pins s σ H _ us Q I r ⟨a, ns, rfl, hs, q⟩
  · obtain ⟨its, rv, hl, _⟩ := I.tuple hs
    rw [Vals.ref1 r]
    exact sum_tupI (I.ok.hd hc) hl rv.ints fun h' tk t' hk => ⟨.int _, H, I.kept hk, ⟨_, rfl⟩, q⟩
variable {K : Fg}
theorem kSum2 (h : X.K = K) (hc : X.calm = true) : CallR X (.builtin "sum") (rSum2 K) := h ▸ cr_sum2 hc
theorem kMaxL (h : X.K = K) (hc : X.calm = true) : CallR X (.builtin "max") (rMax K) := h ▸ cr_max hc
theorem kMinL (h : X.K = K) (hc : X.calm = true) : CallR X (.builtin "min") (rMin K) := h ▸ cr_min hc
theorem kSortI (h : X.K = K) : CallR X (.builtin "sorted") (rSortedI K) := h ▸ cr_sortedI
end
section
variable {K : Fg}
def gSum2 : List Dt → Option Sl
  | [d] => match seqOf d with
    | some ds => (intsOf ds).map fun ns => .val (.int ns.sum)
    | none => none
  | _ => none
theorem seq_ints {H0 H : Hp} {d : Dt} {v : V} {ds : List Dt} {ns : List Int} (sm : Same H0 H) (rd : RD K H0 d v) (q : seqOf d = some ds) (q2 : intsOf ds = some ns) : ∃ a, v = .ref a ∧ (SqL K H a (ns.map V.int) ∨ SqT K H a (ns.map V.int)) := by
  obtain ⟨l, vs, rfl, hs, hr⟩ := rd.seq q
  have ev : vs = ns.map V.int := by
    rw [intsOf_inv q2] at hr
    exact hr.ints
  subst ev
  exact ⟨l, rfl, hs.imp (fun z => sm.seq z) (sqT_mono sm)⟩
instance vSum2 : CallV K (rSum2 K) gSum2 where
  run := fun xs ds s H0 H Q sm rx eq h => by
    unfold gSum2 at eq
    split at eq
    · split at eq
      · rename_i d _ es q
        cases q2 : intsOf es with
        | none => rw [q2] at eq; cases eq
        | some ns =>
          rw [q2] at eq
          cases eq
          obtain ⟨v, rfl, hv⟩ := rx.one
          obtain ⟨a, rfl, hs⟩ := seq_ints sm hv q q2
          exact ⟨a, ns, rfl, hs, h.val sm RD.int⟩
      · cases eq
    · cases eq
/-- the greatest, the least -/
def topI : List Int → Option Int
  | [] => none
  | n :: ns => some (ns.foldl max n)
def lowI : List Int → Option Int
  | [] => none
  | n :: ns => some (ns.foldl min n)
theorem foldl_max_mem : ∀ (ns : List Int) (n : Int), ns.foldl max n ∈ n :: ns
  | [], n => by simp
  | m :: ns, n => by
    have := foldl_max_mem ns (max n m)
    simp only [List.foldl_cons]
    rcases List.mem_cons.mp this with e | e
    · rw [e]
      rcases Int.le_total n m with h | h
      · rw [Int.max_eq_right h]; simp
      · rw [Int.max_eq_left h]; simp
    · exact List.mem_cons_of_mem _ (List.mem_cons_of_mem _ e)
theorem foldl_max_ge : ∀ (ns : List Int) (n : Int), ∀ y ∈ n :: ns, y ≤ ns.foldl max n
  | [], n, y, h => by simp at h; subst h; exact Int.le_refl _
  | m :: ns, n, y, h => by
    simp only [List.foldl_cons]
    have b := foldl_max_ge ns (max n m)
    rcases List.mem_cons.mp h with rfl | h
    · exact Int.le_trans (Int.le_max_left _ _) (b _ (List.mem_cons_self ..))
    · rcases List.mem_cons.mp h with rfl | h
      · exact Int.le_trans (Int.le_max_right _ _) (b _ (List.mem_cons_self ..))
      · exact b y (List.mem_cons_of_mem _ h)
theorem foldl_min_mem : ∀ (ns : List Int) (n : Int), ns.foldl min n ∈ n :: ns
  | [], n => by simp
  | m :: ns, n => by
    have := foldl_min_mem ns (min n m)
    simp only [List.foldl_cons]
    rcases List.mem_cons.mp this with e | e
    · rw [e]
      rcases Int.le_total n m with h | h
      · rw [Int.min_eq_left h]; simp
      · rw [Int.min_eq_right h]; simp
    · exact List.mem_cons_of_mem _ (List.mem_cons_of_mem _ e)
theorem foldl_min_le : ∀ (ns : List Int) (n : Int), ∀ y ∈ n :: ns, ns.foldl min n ≤ y
  | [], n, y, h => by simp at h; subst h; exact Int.le_refl _
  | m :: ns, n, y, h => by
    simp only [List.foldl_cons]
    have b := foldl_min_le ns (min n m)
    rcases List.mem_cons.mp h with rfl | h
    · exact Int.le_trans (b _ (List.mem_cons_self ..)) (Int.min_le_left _ _)
    · rcases List.mem_cons.mp h with rfl | h
      · exact Int.le_trans (b _ (List.mem_cons_self ..)) (Int.min_le_right _ _)
      · exact b y (List.mem_cons_of_mem _ h)
def gExt (f : List Int → Option Int) : List Dt → Option Sl
  | [.lst ds] => match intsOf ds with
    | some ns => (f ns).map fun m => .val (.int m)
    | none => none
  | _ => none
instance vMaxL : CallV K (rMax K) (gExt topI) where
  run := fun xs ds s H0 H Q sm rx eq h => by
    unfold gExt at eq
    split at eq
    · rename_i es
      cases q : intsOf es with
      | none => rw [q] at eq; cases eq
      | some ns =>
        rw [q] at eq
        cases ns with
        | nil => cases eq
        | cons n ns =>
          cases eq
          obtain ⟨v, rfl, hv⟩ := rx.one
          obtain ⟨a, xs, rfl, h1, h2⟩ := hv.lst_inv
          rw [intsOf_inv q] at h2
          rw [h2.ints] at h1
          refine ⟨a, n :: ns, rfl, .inl (.inl (sm _ _ h1)), by simp, fun m hm hy => ?_⟩
          have e : m = ns.foldl max n := Int.le_antisymm (foldl_max_ge ns n m hm) (hy _ (foldl_max_mem ns n))
          rw [e]
          exact h.val sm RD.int
    · cases eq
instance vMinL : CallV K (rMin K) (gExt lowI) where
  run := fun xs ds s H0 H Q sm rx eq h => by
    unfold gExt at eq
    split at eq
    · rename_i es
      cases q : intsOf es with
      | none => rw [q] at eq; cases eq
      | some ns =>
        rw [q] at eq
        cases ns with
        | nil => cases eq
        | cons n ns =>
          cases eq
          obtain ⟨v, rfl, hv⟩ := rx.one
          obtain ⟨a, xs, rfl, h1, h2⟩ := hv.lst_inv
          rw [intsOf_inv q] at h2
          rw [h2.ints] at h1
          refine ⟨a, n :: ns, rfl, .inl (.inl (sm _ _ h1)), by simp, fun m hm hy => ?_⟩
          have e : m = ns.foldl min n := Int.le_antisymm (hy _ (foldl_min_mem ns n)) (foldl_min_le ns n m hm)
          rw [e]
          exact h.val sm RD.int
    · cases eq
/-- in order -/
def insI (x : Int) : List Int → List Int
  | [] => [x]
  | y :: ys => if x ≤ y then x :: y :: ys else y :: insI x ys
def ordI : List Int → List Int
  | [] => []
  | x :: xs => insI x (ordI xs)
theorem insI_perm (x : Int) : ∀ ys : List Int, (insI x ys).Perm (x :: ys)
  | [] => .refl _
  | y :: ys => by
    unfold insI
    split
    · exact .refl _
    · exact (List.Perm.cons y (insI_perm x ys)).trans (List.Perm.swap ..)
theorem ordI_perm : ∀ xs : List Int, (ordI xs).Perm xs
  | [] => .refl _
  | x :: xs => (insI_perm x _).trans (List.Perm.cons x (ordI_perm xs))
theorem insI_mem {x z : Int} {ys : List Int} (h : z ∈ insI x ys) : z = x ∨ z ∈ ys := List.mem_cons.mp ((insI_perm x ys).mem_iff.mp h)
theorem insI_ord {x : Int} : ∀ {ys : List Int}, ys.Pairwise (· ≤ ·) → (insI x ys).Pairwise (· ≤ ·)
  | [], _ => by simp [insI]
  | y :: ys, h => by
    unfold insI
    obtain ⟨h1, h2⟩ := List.pairwise_cons.mp h
    split
    · rename_i hx
      refine List.pairwise_cons.mpr ⟨fun z hz => ?_, h⟩
      rcases List.mem_cons.mp hz with rfl | hz
      · exact hx
      · exact Int.le_trans hx (h1 z hz)
    · rename_i hx
      refine List.pairwise_cons.mpr ⟨fun z hz => ?_, insI_ord h2⟩
      rcases insI_mem hz with rfl | hz
      · omega
      · exact h1 z hz
theorem ordI_ord : ∀ xs : List Int, (ordI xs).Pairwise (· ≤ ·)
  | [] => .nil
  | x :: xs => insI_ord (ordI_ord xs)
theorem ord_one : ∀ {xs ys : List Int}, xs.Perm ys → xs.Pairwise (· ≤ ·) → ys.Pairwise (· ≤ ·) → xs = ys
  | [], ys, p, _, _ => (List.nil_perm.mp p).symm
  | x :: xs, [], p, _, _ => absurd p.symm (fun z => nomatch List.nil_perm.mp z)
  | x :: xs, y :: ys, p, h1, h2 => by
    obtain ⟨a1, a2⟩ := List.pairwise_cons.mp h1
    obtain ⟨b1, b2⟩ := List.pairwise_cons.mp h2
    have e : x = y := by
      refine Int.le_antisymm ?_ ?_
      · rcases List.mem_cons.mp (p.mem_iff.mpr (List.mem_cons_self ..)) with e | e
        · exact Int.le_of_eq e.symm
        · exact a1 _ e
      · rcases List.mem_cons.mp (p.mem_iff.mp (List.mem_cons_self ..)) with e | e
        · exact Int.le_of_eq e.symm
        · exact b1 _ e
    subst e
    rw [ord_one (List.Perm.cons_inv p) a2 b2]
def gSortI : List Dt → Option Sl
  | [.lst ds] => match intsOf ds with
    | some ns => some (.own (.lst ((ordI ns).map Dt.int)))
    | none => none
  | _ => none
instance vSortI : CallV K (rSortedI K) gSortI where
  run := fun xs ds s H0 H Q sm rx eq h => by
    unfold gSortI at eq
    split at eq
    · rename_i es
      cases q : intsOf es with
      | none => rw [q] at eq; cases eq
      | some ns =>
        rw [q] at eq
        cases eq
        obtain ⟨v, rfl, hv⟩ := rx.one
        obtain ⟨a, xs, rfl, h1, h2⟩ := hv.lst_inv
        rw [intsOf_inv q] at h2
        rw [h2.ints] at h1
        refine ⟨a, ns, rfl, .inl (.inl (sm _ _ h1)), fun ns' p hp ho hn => ?_⟩
        have e : ns' = ordI ns := ord_one (hp.trans (ordI_perm ns).symm) ho (ordI_ord ns)
        subst e
        exact h.newL (RDs.of_ints _) p hn
    · cases eq
end
end DL

end
section
set_option Elab.async false
set_option linter.all false
set_option maxRecDepth 100000
set_option maxHeartbeats 4000000
/-! D9: runs of loops and comprehensions by what holds between the turns. -/
namespace DL
open PySem PySem.Spec L2
theorem forM_inv {T : Dt → Up} {B : M So} (I : Nat → List Sl → Prop) : ∀ (ds : List Dt) (i : Nat) (ρ : List Sl), I i ρ →
    (∀ j d ρ, ds[j]? = some d → I (i + j) ρ → ∃ ρ1 ρ2, T d ρ = some ρ1 ∧ (B ρ1 = some (.ok .nx, ρ2) ∨ B ρ1 = some (.ok .ct, ρ2)) ∧ I (i + j + 1) ρ2) →
    ∃ ρ', forM T B ds ρ = some (.ok .nx, ρ') ∧ I (i + ds.length) ρ'
  | [], i, ρ, h, _ => ⟨ρ, rfl, h⟩
  | d :: ds, i, ρ, h, st => by
    obtain ⟨ρ1, ρ2, e1, e2, h2⟩ := st 0 d ρ rfl h
    obtain ⟨ρ', e3, h3⟩ := forM_inv I ds (i + 1) ρ2 (by simpa using h2) fun j d' ρ' e hj => by
      have := st (j + 1) d' ρ' (by simpa using e) (by rw [show i + (j + 1) = i + 1 + j by omega]; exact hj)
      obtain ⟨a, b, x, y, z⟩ := this
      exact ⟨a, b, x, y, by rw [show i + 1 + j + 1 = i + (j + 1) + 1 by omega]; exact z⟩
    refine ⟨ρ', ?_, by rw [List.length_cons, show i + (ds.length + 1) = i + 1 + ds.length by omega]; exact h3⟩
    unfold forM mU
    rw [e1]
    simp only
    unfold mB
    rcases e2 with e2 | e2
    · rw [e2]; exact e3
    · rw [e2]; exact e3
/-- a comprehension's turns, each keeping all -/
theorem lcM_inv {T : Dt → Up} {t : M Bool} {e : M Sl} {vs : List Nat} (I : Nat → List Dt → List Sl → Prop) : ∀ (ds : List Dt) (i : Nat) (acc : List Dt) (ρ : List Sl), I i acc ρ →
    (∀ j d acc ρ, ds[j]? = some d → I (i + j) acc ρ → ∃ acc' ρ', I (i + j + 1) acc' ρ' ∧ ∀ rest, lcM T t e vs (d :: rest) acc ρ = lcM T t e vs rest acc' ρ') →
    ∃ acc' ρ', lcM T t e vs ds acc ρ = some (acc', ρ') ∧ I (i + ds.length) acc' ρ'
  | [], i, acc, ρ, h, _ => ⟨acc, ρ, by unfold lcM; rfl, h⟩
  | d :: ds, i, acc, ρ, h, st => by
    obtain ⟨acc1, ρ1, h1, e1⟩ := st 0 d acc ρ rfl h
    obtain ⟨acc', ρ', e3, h3⟩ := lcM_inv I ds (i + 1) acc1 ρ1 (by simpa using h1) fun j d' a' ρ' e hj => by
      obtain ⟨a, b, x, y⟩ := st (j + 1) d' a' ρ' (by simpa using e) (by rw [show i + (j + 1) = i + 1 + j by omega]; exact hj)
      exact ⟨a, b, by rw [show i + 1 + j + 1 = i + (j + 1) + 1 by omega]; exact x, y⟩
    exact ⟨acc', ρ', by rw [e1 ds]; exact e3, by rw [List.length_cons, show i + (ds.length + 1) = i + 1 + ds.length by omega]; exact h3⟩
/-- one turn that keeps its element -/
theorem lcM_one {T : Dt → Up} {t : M Bool} {e : M Sl} {vs : List Nat} {d x : Dt} {rest acc : List Dt} {ρ ρ1 ρ2 ρ3 : List Sl} (h1 : T d (wipeR ρ vs) = some ρ1) (h2 : t ρ1 = some (.ok true, ρ2)) (h3 : vl e ρ2 = some (.ok x, ρ3)) (hz : small acc.length = true) :
    lcM T t e vs (d :: rest) acc ρ = lcM T t e vs rest (acc ++ [x]) (wipeR ρ3 vs) := by
  rw [lcM, h1]
  simp only [h2, h3, hz, if_true]
theorem lcM_not {T : Dt → Up} {t : M Bool} {e : M Sl} {vs : List Nat} {d : Dt} {rest acc : List Dt} {ρ ρ1 ρ2 : List Sl} (h1 : T d (wipeR ρ vs) = some ρ1) (h2 : t ρ1 = some (.ok false, ρ2)) :
    lcM T t e vs (d :: rest) acc ρ = lcM T t e vs rest acc (wipeR ρ2 vs) := by
  rw [lcM, h1]
  simp only [h2]
end DL

end
section
set_option Elab.async false
set_option linter.all false
set_option maxRecDepth 100000
set_option maxHeartbeats 4000000
/-! Y2: a text so many times. -/
namespace DL
open PySem PySem.Spec PyProof.Rows L2
def repS (n : Nat) (x : Str) : Str := ⟨(List.replicate n x.cps).foldl (· ++ ·) #[]⟩
theorem foldl_nil : ∀ n : Nat, (List.replicate n (#[] : Array Nat)).foldl (· ++ ·) #[] = #[]
  | 0 => rfl
  | n + 1 => by
    rw [List.replicate_succ, List.foldl_cons, Array.append_empty]
    exact foldl_nil n
theorem foldl_size (xs : Array Nat) : ∀ (n : Nat) (a : Array Nat), ((List.replicate n xs).foldl (· ++ ·) a).size = a.size + xs.size * n
  | 0, a => rfl
  | n + 1, a => by
    rw [List.replicate_succ, List.foldl_cons, foldl_size xs n, Array.size_append, Nat.mul_succ]
    omega
def rStrMul : R2 := fun x y H Q => ∃ z k, x = .str z ∧ y = .int k ∧ 0 ≤ k ∧ k ≤ 1000 ∧ z.length ≤ 1000 ∧ Q (.str (repS k.toNat z)) H
theorem op_strMul {X : Cx} : OpR X (binaryOp .Mult) rStrMul := by
  intro pins s σ H x y v u Q I rx ry h
  obtain ⟨z, k, rfl, rfl, h0, h1, hz, q⟩ := h
  obtain ⟨t, rfl⟩ := rx
  obtain ⟨t', rfl⟩ := ry
  have hlen : (repS k.toNat z).length ≤ sizeLine := by
    show ((List.replicate k.toNat z.cps).foldl (· ++ ·) #[]).size ≤ _
    rw [foldl_size]
    have : z.cps.size * k.toNat ≤ 1000 * 1000 := Nat.mul_le_mul hz (by omega)
    have e : sizeLine = 16777216 := rfl
    rw [e]
    simp only [List.size_toArray, List.length_nil]
    omega
  have fin : ∀ (k' : Tok) (tk : Nat), EP X pins σ Q (.str (repS k.toNat z) k') { s with toks := tk } := fun k' tk => ⟨.str _, H, I.tok _, ⟨_, rfl⟩, q⟩
  have hm : z.length * k.toNat ≤ 1000 * 1000 := Nat.mul_le_mul hz (by omega)
  refine P.mul_str (by
      have a : ¬ k < -(2 ^ 63 : Int) := by omega
      have b : ¬ k ≥ 2 ^ 63 := by omega
      rw [decide_eq_false a, decide_eq_false b]; rfl) (fun h2 _ => ?_) (fun _ _ => ?_) ?_
  · have : (9000000 : Int) ≤ (2 ^ 63 - 1) / k := (Int.le_ediv_iff_mul_le (by omega)).mpr (by omega)
    omega
  · show decide (_ > sizeLine) = false
    exact decide_eq_false (by have e : sizeLine = 16777216 := rfl; omega)
  · by_cases h2 : k < 1
    · rw [if_pos h2]
      have e : k.toNat = 0 := by omega
      refine ⟨by decide, ?_⟩
      have := fin s.toks (s.toks + 1)
      rw [e] at this
      exact this
    · rw [if_neg h2]
      cases h3 : (k == 1 || z.length == 0) with
      | false =>
        rw [if_neg (by simp)]
        exact ⟨hlen, fin _ _⟩
      | true =>
        rw [if_pos rfl]
        have e : repS k.toNat z = z := by
          rcases Bool.or_eq_true _ _ ▸ h3 with h4 | h4
          · have : k = 1 := by simpa using h4
            subst this
            show Str.mk (#[] ++ z.cps) = z
            rw [Array.empty_append]
          · have h5 : z.cps.size = 0 := of_decide_eq_true h4
            have h6 : z.cps = #[] := Array.eq_empty_of_size_eq_zero h5
            unfold repS
            rw [h6, foldl_nil, ← h6]
        have := fin t s.toks
        rw [e] at this
        exact this
def rMul2 (K : Fg) : R2 := fun x y H Q => rMulU K x y H Q ∨ rStrMul x y H Q
theorem kMul2 {X : Cx} {K : Fg} (h : X.K = K) : OpR X (binaryOp .Mult) (rMul2 K) := h ▸ OpR.or opMulU op_strMul
def gMul2 : Dt → Dt → Option Sl
  | .str z, .int k => if decide (0 ≤ k) && decide (k ≤ 1000) && decide (z.length ≤ 1000) then some (.val (.str (repS k.toNat z))) else none
  | d, e => gMul d e
theorem gMul2_of {d e : Dt} {s : Sl} (h : gMul d e = some s) : gMul2 d e = some s := by
  unfold gMul2
  split
  · cases h
  · exact h
variable {K : Fg}
instance vMul2 : OpV K (rMul2 K) gMul2 where
  run := fun x y d e s H0 H Q sm rx ry eq h => by
    unfold gMul2 at eq
    split at eq
    · split at eq
      · rename_i hz
        cases eq
        simp only [Bool.and_eq_true, decide_eq_true_eq] at hz
        exact .inr ⟨_, _, rx.str_inv, ry.int_inv, hz.1.1, hz.1.2, hz.2, h.val sm RD.str⟩
      · cases eq
    · exact .inl (vMul.run x y _ _ s H0 H Q sm rx ry eq h)
end DL

end
section
set_option Elab.async false
set_option linter.all false
set_option maxRecDepth 100000
set_option maxHeartbeats 4000000
/-! Y3: a name returned whose list was made here: it stays own. -/
namespace DL
open PySem PySem.Spec L2
section
variable {K : Fg} {E : SX} {F : Fr} {pin : Nat → Bool} {σ : L2.St} {H0 H : Hp} {ρ ρ' : List Sl}
theorem set_ne {ρ : List Sl} {i j : Nat} {s : Sl} (h : (ρ.set i .un)[j]? = some s) (hs : s ≠ .un) : j ≠ i ∧ ρ[j]? = some s := by
  rw [List.getElem?_set] at h
  split at h
  · split at h
    · exact absurd (Option.some.inj h).symm hs
    · cases h
  · rename_i n
    exact ⟨fun z => n z.symm, h⟩
theorem Rep.take {i : Nat} {o : Od} (R : Rep K F σ H0 H ρ) (q : ρ[i]? = some (.own o)) : ∃ a, σ[i]? = some (some (.ref a)) ∧ Rep K F (some (.ref a) :: σ) H0 H (.own o :: ρ.set i .un) := by
  obtain ⟨a, ea, n0, hp, hr⟩ := R.own i o q
  refine ⟨a, ea, ?_⟩
  refine { len := by simp [R.len], s1 := R.s1, s2 := R.s2, s3 := R.s3, s4 := R.s4, s5 := R.s5, val := ?_, own := ?_, dis := ?_ }
  · intro j d h
    cases j with
    | zero => cases h
    | succ j =>
      have h' : (ρ.set i .un)[j]? = some (.val d) := by simpa using h
      obtain ⟨_, h2⟩ := set_ne h' (fun z => nomatch z)
      simpa using R.val j d h2
  · intro j o' h
    cases j with
    | zero =>
      have e : o = o' := by simpa using h
      subst e
      exact ⟨a, rfl, n0, hp, hr⟩
    | succ j =>
      have h' : (ρ.set i .un)[j]? = some (.own o') := by simpa using h
      obtain ⟨_, h2⟩ := set_ne h' (fun z => nomatch z)
      simpa using R.own j o' h2
  · intro j k o1 o2 b h1 h2 h3 h4
    cases j with
    | zero =>
      cases k with
      | zero => rfl
      | succ k =>
        have h' : (ρ.set i .un)[k]? = some (.own o2) := by simpa using h2
        obtain ⟨hne, h5⟩ := set_ne h' (fun z => nomatch z)
        have eb : a = b := by simpa using h3
        have h6 : σ[k]? = some (some (.ref b)) := by simpa using h4
        exact absurd (R.dis k i o2 o b h5 q h6 (eb ▸ ea)) hne
    | succ j =>
      have h1' : (ρ.set i .un)[j]? = some (.own o1) := by simpa using h1
      obtain ⟨hne, h5⟩ := set_ne h1' (fun z => nomatch z)
      have h6 : σ[j]? = some (some (.ref b)) := by simpa using h3
      cases k with
      | zero =>
        have eb : a = b := by simpa using h4
        exact absurd (R.dis j i o1 o b h5 q h6 (eb ▸ ea)) hne
      | succ k =>
        have h2' : (ρ.set i .un)[k]? = some (.own o2) := by simpa using h2
        obtain ⟨_, h7⟩ := set_ne h2' (fun z => nomatch z)
        have h8 : σ[k]? = some (some (.ref b)) := by simpa using h4
        rw [R.dis j k o1 o2 b h5 h7 h6 h8]
/-- return NAME -/
def fRetV (pin : Nat → Bool) (i : Nat) : M So := fun ρ => match ρ[i]? with
  | some (.val d) => some (.ok (.rt (.val d)), ρ)
  | some (.own o) => if pin i then some (.ok (.rt (.val o.dt)), ρ.set i (.val o.dt)) else some (.ok (.rt (.own o)), ρ.set i .un)
  | _ => none
instance (priority := high) sRetV {i : Nat} : SimS K E pin (tRet (tVar i)) (fRetV pin i) where
  run := fun F σ H0 H ρ r ρ' D R e h => by
    have old : fRet (fVar i) ρ = some (r, ρ') → tRet (tVar i) D σ H := fun e => (sRet (K := K) (E := E) (pin := pin) (te := tVar i) (f := fVar i)).run F σ H0 H ρ r ρ' D R e h
    unfold fRetV at e
    split at e
    · rename_i d q
      exact old (by simp only [fRet, fVar, mB, q]; exact e)
    · rename_i o q
      split at e
      · exact old (by simp only [fRet, fVar, mB, q]; exact e)
      · simp only [Option.some.injEq, Prod.mk.injEq] at e
        obtain ⟨rfl, rfl⟩ := e
        obtain ⟨a, ea, Rt⟩ := R.take q
        exact ⟨.ref a, ea, h (.ref a) σ H0 H (Same.refl _) (Pin.refl _ _) Rt⟩
    · cases e
end
end DL

end
section
set_option Elab.async false
set_option linter.all false
set_option maxRecDepth 100000
set_option maxHeartbeats 4000000
/-! R1: what a run of a mirror comes to, worked out from its outermost word inward. -/
namespace DL
open PySem PySem.Spec L2
abbrev Po (α : Type) := Rs α → List Sl → Prop
def Run {α : Type} (f : M α) (ρ : List Sl) (Q : Po α) : Prop := ∃ r ρ', f ρ = some (r, ρ') ∧ Q r ρ'
/-- where b is so -/
def bQ (b : Bool) (P : Prop) : Prop := b = true ∧ P
/-- a branch -/
def ifQ (c : Bool) (P P' : Prop) : Prop := if c = true then P else P'
def isOL : Option Sl → Bool
  | some (.own (.lst _)) => true
  | _ => false
def isOw : Option Sl → Bool
  | some (.own _) => true
  | _ => false
def slB : Sl → Option Bool
  | .val c => toB c
  | _ => none
section
variable {α β : Type}
/-- what goes on behind a word -/
def bindK (g : α → M β) (Q : Po β) : Po α
  | .ok a, ρ => Run (g a) ρ Q
  | .ex C ns ds, ρ => Q (.ex C ns ds) ρ
def optQ (o : Option α) (Q : Po α) (ρ : List Sl) : Prop := match o with
  | some a => Q (.ok a) ρ
  | none => False
def upQ (o : Option (List Sl)) (k : M β) (Q : Po β) : Prop := match o with
  | some ρ => Run k ρ Q
  | none => False
def vlQ (Q : Po Dt) : Po Sl
  | .ok (.val d), ρ => Q (.ok d) ρ
  | .ok (.own o), ρ => Q (.ok o.dt) ρ
  | .ok .un, _ => False
  | .ex C ns ds, ρ => Q (.ex C ns ds) ρ
def varQ (s : Option Sl) (i : Nat) (ρ : List Sl) (Q : Po Sl) : Prop := match s with
  | some (.val d) => Q (.ok (.val d)) ρ
  | some (.own o) => Q (.ok (.val o.dt)) (ρ.set i (.val o.dt))
  | _ => False
def retQ (s : Option Sl) (b : Bool) (i : Nat) (ρ : List Sl) (Q : Po So) : Prop := match s with
  | some (.val d) => Q (.ok (.rt (.val d))) ρ
  | some (.own o) => ifQ b (Q (.ok (.rt (.val o.dt))) (ρ.set i (.val o.dt))) (Q (.ok (.rt (.own o))) (ρ.set i .un))
  | _ => False
def tupK (Q : Po Sl) : Po (List Dt)
  | .ok ds, ρ => bQ (small ds.length) (Q (.ok (.val (.tup ds))) ρ)
  | .ex C ns ds, ρ => Q (.ex C ns ds) ρ
def lstK (Q : Po Sl) : Po (List Dt)
  | .ok ds, ρ => bQ (small ds.length) (Q (.ok (.own (.lst ds))) ρ)
  | .ex C ns ds, ρ => Q (.ex C ns ds) ρ
def ifK (a b : M α) (Q : Po α) : Po Bool
  | .ok k, ρ => ifQ k (Run a ρ Q) (Run b ρ Q)
  | .ex C ns ds, ρ => Q (.ex C ns ds) ρ
def seqK (B : M So) (Q : Po So) : Po So
  | .ok .nx, ρ => Run B ρ Q
  | .ok .bk, ρ => Q (.ok .bk) ρ
  | .ok .ct, ρ => Q (.ok .ct) ρ
  | .ok (.rt s), ρ => Q (.ok (.rt s)) ρ
  | .ex C ns ds, ρ => Q (.ex C ns ds) ρ
def ixK (i : Nat) (Q : Po Sl) : Po Dt
  | .ok e, ρ => optQ (unOk (gIxS ρ[i]? e)) Q ρ
  | .ex C ns ds, ρ => Q (.ex C ns ds) ρ
def lenQ (o : Option Sl) (Q : Po Sl) (ρ : List Sl) : Prop := match o with
  | some (.val (.int n)) => Q (.ok (.val (.int n))) ρ
  | _ => False
def appQ (ds : List Dt) (s : Option Sl) (i : Nat) (Q : Po Sl) (ρ : List Sl) : Prop := match ds, s with
  | [d], some (.own (.lst xs)) => bQ (small xs.length) (Q (.ok (.val .non)) (ρ.set i (.own (.lst (xs ++ [d])))))
  | _, _ => False
def appK (i : Nat) (Q : Po Sl) : Po (List Dt)
  | .ok ds, ρ => appQ ds ρ[i]? i Q ρ
  | .ex C ns ds, ρ => Q (.ex C ns ds) ρ
def setP (o : Option Nat) (i : Nat) (d : Dt) (xs : List Dt) (k : M β) (Q : Po β) (ρ : List Sl) : Prop := match o with
  | some n => Run k (ρ.set i (.own (.lst (xs.set n d)))) Q
  | none => False
def setQ (x : Dt) (s : Option Sl) (i : Nat) (d : Dt) (k : M β) (Q : Po β) (ρ : List Sl) : Prop := match x, s with
  | .int j, some (.own (.lst xs)) => setP (ixN xs.length j) i d xs k Q ρ
  | _, _ => False
def setK (i : Nat) (d : Dt) (k : M β) (Q : Po β) : Po Dt
  | .ok x, ρ => setQ x ρ[i]? i d k Q ρ
  | .ex _ _ _, _ => False
def barQ (s : Option Sl) (i : Nat) (fr : M (List Ar)) (ρ : List Sl) (Q : Po (List Ar)) : Prop := match s with
  | some (.val d) => Run (mB fr fun as => mP (.d d :: as)) ρ Q
  | some (.own _) => Run (mB fr fun as => mP (.b i :: as)) ρ Q
  | _ => False
def ckK2 (n m N : Nat) (gD : List Ar → List Ar → List Ar) (g : M Sl) (as : List Ar) (Q : Po Sl) : Po (List Ar)
  | .ok bs, ρ => bQ (decide (as.length = n) && decide (bs.length = m)) (Run (callD N g [] (gD as bs)) ρ Q)
  | .ex C ns ds, ρ => Q (.ex C ns ds) ρ
def ckK (n m N : Nat) (gD : List Ar → List Ar → List Ar) (g : M Sl) (fk : M (List Ar)) (Q : Po Sl) : Po (List Ar)
  | .ok as, ρ => Run fk ρ (ckK2 n m N gD g as Q)
  | .ex C ns ds, ρ => Q (.ex C ns ds) ρ
def okQ (Q : Po α) : Po α
  | .ok s, ρ => Q (.ok s) ρ
  | .ex _ _ _, _ => False
def ckPK2 (n m N : Nat) (gD : List Ar → List Ar → List Ar) (g : M Sl) (as : List Ar) (Q : Po Sl) : Po (List Ar)
  | .ok bs, ρ => bQ (decide (as.length = n) && decide (bs.length = m)) (Run (callD N g [] (gD as bs)) ρ (okQ Q))
  | .ex C ns ds, ρ => Q (.ex C ns ds) ρ
def ckPK (n m N : Nat) (gD : List Ar → List Ar → List Ar) (g : M Sl) (fk : M (List Ar)) (Q : Po Sl) : Po (List Ar)
  | .ok as, ρ => Run fk ρ (ckPK2 n m N gD g as Q)
  | .ex C ns ds, ρ => Q (.ex C ns ds) ρ
def backK (as : List Ar) (ρ : List Sl) (Q : Po Sl) : Po Sl := fun r as' => Q r (backs as as' ρ)
def dfQ (pin : Nat → Bool) (as : List Sl) (Q : Po Sl) : Po So
  | .ok .nx, ρ => Q (.ok (.val .non)) (backsD pin (norms pin as) ρ)
  | .ok (.rt s), ρ => Q (.ok s) (backsD pin (norms pin as) ρ)
  | .ex C ns ds, ρ => Q (.ex C ns ds) (backsD pin (norms pin as) ρ)
  | _, _ => False
def forK (T : Dt → Up) (B : M So) (Q : Po So) : Po (List Dt)
  | .ok ds, ρ => Run (forM T B ds) ρ Q
  | .ex C ns ds, ρ => Q (.ex C ns ds) ρ
def fturnK (T : Dt → Up) (B : M So) (ds : List Dt) (Q : Po So) : Po So
  | .ok .bk, ρ => Q (.ok .nx) ρ
  | .ok (.rt s), ρ => Q (.ok (.rt s)) ρ
  | .ok .nx, ρ => Run (forM T B ds) ρ Q
  | .ok .ct, ρ => Run (forM T B ds) ρ Q
  | .ex C ns ds, ρ => Q (.ex C ns ds) ρ
def RunL (T : Dt → Up) (t : M Bool) (e : M Sl) (vs : List Nat) (ds acc : List Dt) (ρ : List Sl) (Q : Po Sl) : Prop := ∃ acc' ρ', lcM T t e vs ds acc ρ = some (acc', ρ') ∧ Q (.ok (.own (.lst acc'))) ρ'
def lcK (T : Dt → Up) (t : M Bool) (e : M Sl) (vs : List Nat) (Q : Po Sl) : Po (List Dt)
  | .ok ds, ρ => RunL T t e vs ds [] (wipeR ρ vs) Q
  | .ex C ns ds, ρ => Q (.ex C ns ds) ρ
def lturnK (T : Dt → Up) (t : M Bool) (e : M Sl) (vs : List Nat) (ds acc : List Dt) (Q : Po Sl) : Po Dt
  | .ok x, ρ => bQ (small acc.length) (RunL T t e vs ds (acc ++ [x]) (wipeR ρ vs) Q)
  | .ex _ _ _, _ => False
def ltestK (T : Dt → Up) (t : M Bool) (e : M Sl) (vs : List Nat) (ds acc : List Dt) (Q : Po Sl) : Po Bool
  | .ok b, ρ => ifQ b (Run (vl e) ρ (lturnK T t e vs ds acc Q)) (RunL T t e vs ds acc (wipeR ρ vs) Q)
  | .ex _ _ _, _ => False
/-- a comprehension's turn, between what holds ahead of it and behind it -/
def lkeepK (acc : List Dt) (vs : List Nat) (I : List Dt → List Sl → Prop) : Po Dt
  | .ok x, ρ => bQ (small acc.length) (I (acc ++ [x]) (wipeR ρ vs))
  | .ex _ _ _, _ => False
def lstepK (e : M Sl) (acc : List Dt) (vs : List Nat) (I : List Dt → List Sl → Prop) : Po Bool
  | .ok b, ρ => ifQ b (Run (vl e) ρ (lkeepK acc vs I)) (I acc (wipeR ρ vs))
  | .ex _ _ _, _ => False
/-- a for's turn, between what holds ahead of it and behind it -/
def fstepK (I : List Sl → Prop) (Q : Po So) : Po So
  | .ok .nx, ρ => I ρ
  | .ok .ct, ρ => I ρ
  | .ok .bk, ρ => Q (.ok .nx) ρ
  | .ok (.rt s), ρ => Q (.ok (.rt s)) ρ
  | .ex C ns ds, ρ => Q (.ex C ns ds) ρ
end
section
variable {α β : Type}
end
section
variable {α β : Type} {ρ ρ1 : List Sl} {C : Addr} {ns : List Str} {ds : List Dt}
theorem bindK_ok {g : α → M β} {Q : Po β} {a : α} : bindK g Q (.ok a) ρ = Run (g a) ρ Q := rfl
theorem bindK_ex {g : α → M β} {Q : Po β} : bindK g Q (.ex C ns ds) ρ = Q (.ex C ns ds) ρ := rfl
theorem optQ_some {a : α} {Q : Po α} : optQ (some a) Q ρ = Q (.ok a) ρ := rfl
theorem optQ_none {Q : Po α} : optQ none Q ρ = False := rfl
theorem upQ_some {k : M β} {Q : Po β} : upQ (some ρ) k Q = Run k ρ Q := rfl
theorem upQ_none {k : M β} {Q : Po β} : upQ none k Q = False := rfl
theorem vlQ_val {Q : Po Dt} {d : Dt} : vlQ Q (.ok (.val d)) ρ = Q (.ok d) ρ := rfl
theorem vlQ_own {Q : Po Dt} {o : Od} : vlQ Q (.ok (.own o)) ρ = Q (.ok o.dt) ρ := rfl
theorem vlQ_un {Q : Po Dt} : vlQ Q (.ok .un) ρ = False := rfl
theorem vlQ_ex {Q : Po Dt} : vlQ Q (.ex C ns ds) ρ = Q (.ex C ns ds) ρ := rfl
theorem varQ_val {i : Nat} {Q : Po Sl} {d : Dt} : varQ (some (.val d)) i ρ Q = Q (.ok (.val d)) ρ := rfl
theorem varQ_own {i : Nat} {Q : Po Sl} {o : Od} : varQ (some (.own o)) i ρ Q = Q (.ok (.val o.dt)) (ρ.set i (.val o.dt)) := rfl
theorem retQ_val {d : Dt} {b : Bool} {i : Nat} {Q : Po So} : retQ (some (.val d)) b i ρ Q = Q (.ok (.rt (.val d))) ρ := rfl
theorem retQ_own {o : Od} {b : Bool} {i : Nat} {Q : Po So} : retQ (some (.own o)) b i ρ Q = ifQ b (Q (.ok (.rt (.val o.dt))) (ρ.set i (.val o.dt))) (Q (.ok (.rt (.own o))) (ρ.set i .un)) := rfl
theorem tupK_ok {Q : Po Sl} {es : List Dt} : tupK Q (.ok es) ρ = bQ (small es.length) (Q (.ok (.val (.tup es))) ρ) := rfl
theorem tupK_ex {Q : Po Sl} : tupK Q (.ex C ns ds) ρ = Q (.ex C ns ds) ρ := rfl
theorem lstK_ok {Q : Po Sl} {es : List Dt} : lstK Q (.ok es) ρ = bQ (small es.length) (Q (.ok (.own (.lst es))) ρ) := rfl
theorem lstK_ex {Q : Po Sl} : lstK Q (.ex C ns ds) ρ = Q (.ex C ns ds) ρ := rfl
theorem ifK_ok {a b : M α} {Q : Po α} {k : Bool} : ifK a b Q (.ok k) ρ = ifQ k (Run a ρ Q) (Run b ρ Q) := rfl
theorem ifK_ex {a b : M α} {Q : Po α} : ifK a b Q (.ex C ns ds) ρ = Q (.ex C ns ds) ρ := rfl
theorem seqK_nx {B : M So} {Q : Po So} : seqK B Q (.ok .nx) ρ = Run B ρ Q := rfl
theorem seqK_bk {B : M So} {Q : Po So} : seqK B Q (.ok .bk) ρ = Q (.ok .bk) ρ := rfl
theorem seqK_ct {B : M So} {Q : Po So} : seqK B Q (.ok .ct) ρ = Q (.ok .ct) ρ := rfl
theorem seqK_rt {B : M So} {Q : Po So} {s : Sl} : seqK B Q (.ok (.rt s)) ρ = Q (.ok (.rt s)) ρ := rfl
theorem seqK_ex {B : M So} {Q : Po So} : seqK B Q (.ex C ns ds) ρ = Q (.ex C ns ds) ρ := rfl
theorem ixK_ok {i : Nat} {Q : Po Sl} {e : Dt} : ixK i Q (.ok e) ρ = optQ (unOk (gIxS ρ[i]? e)) Q ρ := rfl
theorem ixK_ex {i : Nat} {Q : Po Sl} : ixK i Q (.ex C ns ds) ρ = Q (.ex C ns ds) ρ := rfl
theorem lenQ_int {n : Int} {Q : Po Sl} : lenQ (some (.val (.int n))) Q ρ = Q (.ok (.val (.int n))) ρ := rfl
theorem appQ_own {d : Dt} {xs : List Dt} {i : Nat} {Q : Po Sl} : appQ [d] (some (.own (.lst xs))) i Q ρ = bQ (small xs.length) (Q (.ok (.val .non)) (ρ.set i (.own (.lst (xs ++ [d]))))) := rfl
theorem appK_ok {es : List Dt} {i : Nat} {Q : Po Sl} : appK i Q (.ok es) ρ = appQ es ρ[i]? i Q ρ := rfl
theorem appK_ex {i : Nat} {Q : Po Sl} : appK i Q (.ex C ns ds) ρ = Q (.ex C ns ds) ρ := rfl
theorem setP_some {n i : Nat} {d : Dt} {xs : List Dt} {k : M β} {Q : Po β} : setP (some n) i d xs k Q ρ = Run k (ρ.set i (.own (.lst (xs.set n d)))) Q := rfl
theorem setQ_own {j : Int} {i : Nat} {d : Dt} {xs : List Dt} {k : M β} {Q : Po β} : setQ (.int j) (some (.own (.lst xs))) i d k Q ρ = setP (ixN xs.length j) i d xs k Q ρ := rfl
theorem setK_ok {x : Dt} {i : Nat} {d : Dt} {k : M β} {Q : Po β} : setK i d k Q (.ok x) ρ = setQ x ρ[i]? i d k Q ρ := rfl
theorem barQ_val {i : Nat} {fr : M (List Ar)} {Q : Po (List Ar)} {d : Dt} : barQ (some (.val d)) i fr ρ Q = Run (mB fr fun as => mP (.d d :: as)) ρ Q := rfl
theorem barQ_own {i : Nat} {fr : M (List Ar)} {Q : Po (List Ar)} {o : Od} : barQ (some (.own o)) i fr ρ Q = Run (mB fr fun as => mP (.b i :: as)) ρ Q := rfl
theorem ckK2_ok {n m N : Nat} {gD : List Ar → List Ar → List Ar} {g : M Sl} {as bs : List Ar} {Q : Po Sl} : ckK2 n m N gD g as Q (.ok bs) ρ = bQ (decide (as.length = n) && decide (bs.length = m)) (Run (callD N g [] (gD as bs)) ρ Q) := rfl
theorem ckK2_ex {n m N : Nat} {gD : List Ar → List Ar → List Ar} {g : M Sl} {as : List Ar} {Q : Po Sl} : ckK2 n m N gD g as Q (.ex C ns ds) ρ = Q (.ex C ns ds) ρ := rfl
theorem ckK_ok {n m N : Nat} {gD : List Ar → List Ar → List Ar} {g : M Sl} {fk : M (List Ar)} {as : List Ar} {Q : Po Sl} : ckK n m N gD g fk Q (.ok as) ρ = Run fk ρ (ckK2 n m N gD g as Q) := rfl
theorem ckK_ex {n m N : Nat} {gD : List Ar → List Ar → List Ar} {g : M Sl} {fk : M (List Ar)} {Q : Po Sl} : ckK n m N gD g fk Q (.ex C ns ds) ρ = Q (.ex C ns ds) ρ := rfl
theorem ckPK2_ok {n m N : Nat} {gD : List Ar → List Ar → List Ar} {g : M Sl} {as bs : List Ar} {Q : Po Sl} : ckPK2 n m N gD g as Q (.ok bs) ρ = bQ (decide (as.length = n) && decide (bs.length = m)) (Run (callD N g [] (gD as bs)) ρ (okQ Q)) := rfl
theorem ckPK2_ex {n m N : Nat} {gD : List Ar → List Ar → List Ar} {g : M Sl} {as : List Ar} {Q : Po Sl} : ckPK2 n m N gD g as Q (.ex C ns ds) ρ = Q (.ex C ns ds) ρ := rfl
theorem ckPK_ok {n m N : Nat} {gD : List Ar → List Ar → List Ar} {g : M Sl} {fk : M (List Ar)} {as : List Ar} {Q : Po Sl} : ckPK n m N gD g fk Q (.ok as) ρ = Run fk ρ (ckPK2 n m N gD g as Q) := rfl
theorem ckPK_ex {n m N : Nat} {gD : List Ar → List Ar → List Ar} {g : M Sl} {fk : M (List Ar)} {Q : Po Sl} : ckPK n m N gD g fk Q (.ex C ns ds) ρ = Q (.ex C ns ds) ρ := rfl
theorem okQ_ok {Q : Po α} {a : α} : okQ Q (.ok a) ρ = Q (.ok a) ρ := rfl
theorem okQ_ex {Q : Po α} : okQ Q (.ex C ns ds) ρ = False := rfl
theorem backK_eq {as : List Ar} {Q : Po Sl} {r : Rs Sl} : backK as ρ Q r ρ1 = Q r (backs as ρ1 ρ) := rfl
theorem dfQ_nx {pin : Nat → Bool} {as : List Sl} {Q : Po Sl} : dfQ pin as Q (.ok .nx) ρ = Q (.ok (.val .non)) (backsD pin (norms pin as) ρ) := rfl
theorem dfQ_rt {pin : Nat → Bool} {as : List Sl} {Q : Po Sl} {s : Sl} : dfQ pin as Q (.ok (.rt s)) ρ = Q (.ok s) (backsD pin (norms pin as) ρ) := rfl
theorem dfQ_ex {pin : Nat → Bool} {as : List Sl} {Q : Po Sl} : dfQ pin as Q (.ex C ns ds) ρ = Q (.ex C ns ds) (backsD pin (norms pin as) ρ) := rfl
theorem forK_ok {T : Dt → Up} {B : M So} {es : List Dt} {Q : Po So} : forK T B Q (.ok es) ρ = Run (forM T B es) ρ Q := rfl
theorem forK_ex {T : Dt → Up} {B : M So} {Q : Po So} : forK T B Q (.ex C ns ds) ρ = Q (.ex C ns ds) ρ := rfl
theorem fturnK_bk {T : Dt → Up} {B : M So} {es : List Dt} {Q : Po So} : fturnK T B es Q (.ok .bk) ρ = Q (.ok .nx) ρ := rfl
theorem fturnK_rt {T : Dt → Up} {B : M So} {es : List Dt} {Q : Po So} {s : Sl} : fturnK T B es Q (.ok (.rt s)) ρ = Q (.ok (.rt s)) ρ := rfl
theorem fturnK_nx {T : Dt → Up} {B : M So} {es : List Dt} {Q : Po So} : fturnK T B es Q (.ok .nx) ρ = Run (forM T B es) ρ Q := rfl
theorem fturnK_ct {T : Dt → Up} {B : M So} {es : List Dt} {Q : Po So} : fturnK T B es Q (.ok .ct) ρ = Run (forM T B es) ρ Q := rfl
theorem fturnK_ex {T : Dt → Up} {B : M So} {es : List Dt} {Q : Po So} : fturnK T B es Q (.ex C ns ds) ρ = Q (.ex C ns ds) ρ := rfl
theorem lcK_ok {T : Dt → Up} {t : M Bool} {e : M Sl} {vs : List Nat} {es : List Dt} {Q : Po Sl} : lcK T t e vs Q (.ok es) ρ = RunL T t e vs es [] (wipeR ρ vs) Q := rfl
theorem lcK_ex {T : Dt → Up} {t : M Bool} {e : M Sl} {vs : List Nat} {Q : Po Sl} : lcK T t e vs Q (.ex C ns ds) ρ = Q (.ex C ns ds) ρ := rfl
theorem lturnK_ok {T : Dt → Up} {t : M Bool} {e : M Sl} {vs : List Nat} {es acc : List Dt} {Q : Po Sl} {x : Dt} : lturnK T t e vs es acc Q (.ok x) ρ = bQ (small acc.length) (RunL T t e vs es (acc ++ [x]) (wipeR ρ vs) Q) := rfl
theorem ltestK_ok {T : Dt → Up} {t : M Bool} {e : M Sl} {vs : List Nat} {es acc : List Dt} {Q : Po Sl} {b : Bool} : ltestK T t e vs es acc Q (.ok b) ρ = ifQ b (Run (vl e) ρ (lturnK T t e vs es acc Q)) (RunL T t e vs es acc (wipeR ρ vs) Q) := rfl
theorem lkeepK_ok {acc : List Dt} {vs : List Nat} {I : List Dt → List Sl → Prop} {x : Dt} : lkeepK acc vs I (.ok x) ρ = bQ (small acc.length) (I (acc ++ [x]) (wipeR ρ vs)) := rfl
theorem lkeepK_ex {acc : List Dt} {vs : List Nat} {I : List Dt → List Sl → Prop} : lkeepK acc vs I (.ex C ns ds) ρ = False := rfl
theorem lstepK_ok {e : M Sl} {acc : List Dt} {vs : List Nat} {I : List Dt → List Sl → Prop} {b : Bool} : lstepK e acc vs I (.ok b) ρ = ifQ b (Run (vl e) ρ (lkeepK acc vs I)) (I acc (wipeR ρ vs)) := rfl
theorem lstepK_ex {e : M Sl} {acc : List Dt} {vs : List Nat} {I : List Dt → List Sl → Prop} : lstepK e acc vs I (.ex C ns ds) ρ = False := rfl
theorem fstepK_nx {I : List Sl → Prop} {Q : Po So} : fstepK I Q (.ok .nx) ρ = I ρ := rfl
theorem fstepK_ct {I : List Sl → Prop} {Q : Po So} : fstepK I Q (.ok .ct) ρ = I ρ := rfl
theorem fstepK_bk {I : List Sl → Prop} {Q : Po So} : fstepK I Q (.ok .bk) ρ = Q (.ok .nx) ρ := rfl
theorem fstepK_rt {I : List Sl → Prop} {Q : Po So} {s : Sl} : fstepK I Q (.ok (.rt s)) ρ = Q (.ok (.rt s)) ρ := rfl
theorem fstepK_ex {I : List Sl → Prop} {Q : Po So} : fstepK I Q (.ex C ns ds) ρ = Q (.ex C ns ds) ρ := rfl
theorem bQ_true {P : Prop} : bQ true P = P := propext ⟨fun h => h.2, fun h => ⟨rfl, h⟩⟩
theorem bQ_false {P : Prop} : bQ false P = False := propext ⟨fun h => (nomatch h.1), False.elim⟩
theorem bQ_t {b : Bool} {P : Prop} (h : b = true) : bQ b P = P := by rw [h, bQ_true]
theorem ifQ_true {P P' : Prop} : ifQ true P P' = P := rfl
theorem ifQ_false {P P' : Prop} : ifQ false P P' = P' := if_neg (by simp)
theorem ifQ_t {c : Bool} {P P' : Prop} (h : c = true) : ifQ c P P' = P := by rw [h, ifQ_true]
theorem ifQ_f {c : Bool} {P P' : Prop} (h : c = false) : ifQ c P P' = P' := by rw [h, ifQ_false]
theorem Run.mono {f : M α} {Q Q' : Po α} (h : Run f ρ Q) (k : ∀ r ρ', Q r ρ' → Q' r ρ') : Run f ρ Q' := by
  obtain ⟨r, ρ', e, q⟩ := h
  exact ⟨r, ρ', e, k _ _ q⟩
theorem Run.of {f : M α} {Q : Po α} {r : Rs α} (e : f ρ = some (r, ρ1)) (h : Q r ρ1) : Run f ρ Q := ⟨r, ρ1, e, h⟩
theorem Run.iff {f : M α} {Q : Po α} {r : Rs α} (e : f ρ = some (r, ρ1)) : Run f ρ Q = Q r ρ1 := propext ⟨fun ⟨_, _, e', h⟩ => by
  rw [e] at e'; cases e'; exact h, fun h => ⟨r, ρ1, e, h⟩⟩
theorem Run.no {f : M α} {Q : Po α} (e : f ρ = none) : Run f ρ Q = False := propext ⟨fun ⟨_, _, e', _⟩ => (by rw [e] at e'; cases e'), False.elim⟩
theorem Run.eq {f : M α} {r : Rs α} (h : Run f ρ (fun r' ρ' => r' = r ∧ ρ' = ρ1)) : f ρ = some (r, ρ1) := by
  obtain ⟨r', ρ', e, rfl, rfl⟩ := h
  exact e
/-- the same run, with another wish -/
theorem Run.same {f : M α} {r : Rs α} (h : Run f ρ (fun r' ρ' => r' = r ∧ ρ' = ρ1)) (Q : Po α) : Run f ρ Q = Q r ρ1 := Run.iff h.eq
theorem run_mP {a : α} {Q : Po α} : Run (mP a) ρ Q = Q (.ok a) ρ := Run.iff rfl
theorem run_none {Q : Po α} : Run (fun _ => none) ρ Q = False := Run.no rfl
theorem run_mB {f : M α} {g : α → M β} {Q : Po β} : Run (mB f g) ρ Q = Run f ρ (bindK g Q) := by
  refine propext ⟨fun ⟨r, ρ', e, h⟩ => ?_, fun ⟨r, ρ', e, h⟩ => ?_⟩
  · rcases mB_inv e with ⟨a, ρ1, e1, e2⟩ | ⟨C, ns, ds, e1, rfl⟩
    · exact ⟨_, _, e1, r, ρ', e2, h⟩
    · exact ⟨_, _, e1, h⟩
  · cases r with
    | ok a =>
      obtain ⟨r2, ρ2, e2, h2⟩ := h
      exact ⟨r2, ρ2, by unfold mB; rw [e]; exact e2, h2⟩
    | ex C ns ds => exact ⟨_, _, by unfold mB; rw [e], h⟩
theorem run_mO {o : Option α} {Q : Po α} : Run (mO o) ρ Q = optQ o Q ρ := by
  cases o with
  | none => exact Run.no rfl
  | some a => exact Run.iff rfl
theorem run_vl {f : M Sl} {Q : Po Dt} : Run (vl f) ρ Q = Run f ρ (vlQ Q) := by
  refine propext ⟨fun ⟨r, ρ', e, h⟩ => ?_, fun ⟨r, ρ', e, h⟩ => ?_⟩
  · unfold vl at e
    split at e
    · cases e
    · rename_i p q
      obtain ⟨r0, ρ0⟩ := p
      refine ⟨r0, ρ0, q, ?_⟩
      cases r0 with
      | ex C ns ds => cases e; exact h
      | ok s => cases s with
        | un => cases e
        | val d => cases e; exact h
        | own o => cases e; exact h
  · cases r with
    | ex C ns ds => exact ⟨.ex C ns ds, ρ', by unfold vl; rw [e]; rfl, h⟩
    | ok s => cases s with
      | un => exact h.elim
      | val d => exact ⟨.ok d, ρ', by unfold vl; rw [e]; rfl, h⟩
      | own o => exact ⟨.ok o.dt, ρ', by unfold vl; rw [e]; rfl, h⟩
theorem run_mU {u : Up} {k : M β} {Q : Po β} : Run (mU u k) ρ Q = upQ (u ρ) k Q := by
  cases q : u ρ with
  | none => exact Run.no (by unfold mU; rw [q])
  | some ρ1 =>
    have e : mU u k ρ = k ρ1 := by unfold mU; rw [q]
    show _ = Run k ρ1 Q
    unfold Run
    rw [e]
theorem run_fVar {i : Nat} {Q : Po Sl} : Run (fVar i) ρ Q = varQ ρ[i]? i ρ Q := by
  cases q : ρ[i]? with
  | none => exact Run.no (by unfold fVar; rw [q])
  | some s => cases s with
    | un => exact Run.no (by unfold fVar; rw [q])
    | val d => exact Run.iff (by unfold fVar; rw [q])
    | own o => exact Run.iff (by unfold fVar; rw [q])
variable {Q : Po Sl} {QS : Po So} {QB : Po Bool} {QL : Po (List Dt)} {QA : Po (List Ar)}
theorem run_fOp {g : Dt → Dt → Option Sl} {fa fb : M Sl} : Run (fOp g fa fb) ρ Q = Run (mB (vl fa) fun d => mB (vl fb) fun e => mO (unOk (g d e))) ρ Q := rfl
theorem run_fUn {g : Dt → Option Sl} {fa : M Sl} : Run (fUn g fa) ρ Q = Run (mB (vl fa) fun d => mO (unOk (g d))) ρ Q := rfl
theorem run_fCons {fa : M Sl} {fr : M (List Dt)} : Run (fCons fa fr) ρ QL = Run (mB (vl fa) fun d => mB fr fun ds => mP (d :: ds)) ρ QL := rfl
theorem run_fCB {g : List Dt → Option Sl} {fa : M (List Dt)} : Run (fCB g fa) ρ Q = Run (mB fa fun ds => mO (unOk (g ds))) ρ Q := rfl
/-- a word of two steps: the second is told by what it does -/
theorem run_two {f : M α} {g : α → M β} {k : Po α} {Q : Po β} (h1 : ∀ a ρ, Run (g a) ρ Q = k (.ok a) ρ) (h2 : ∀ C ns ds ρ, Q (.ex C ns ds) ρ = k (.ex C ns ds) ρ) : Run (mB f g) ρ Q = Run f ρ k := by
  rw [run_mB]
  congr 1
  funext r ρ1
  cases r with
  | ok a => exact h1 a ρ1
  | ex C ns ds => exact h2 C ns ds ρ1
theorem run_fTup {fa : M (List Dt)} : Run (fTup fa) ρ Q = Run fa ρ (tupK Q) := by
  refine run_two (fun ds ρ1 => ?_) fun _ _ _ _ => rfl
  rw [run_mO]
  show _ = bQ (small ds.length) _
  cases small ds.length
  · rw [bQ_false, if_neg (by simp)]; rfl
  · rw [bQ_true, if_pos rfl]; rfl
theorem run_fLst {fa : M (List Dt)} : Run (fLst fa) ρ Q = Run fa ρ (lstK Q) := by
  refine run_two (fun ds ρ1 => ?_) fun _ _ _ _ => rfl
  rw [run_mO]
  show _ = bQ (small ds.length) _
  cases small ds.length
  · rw [bQ_false, if_neg (by simp)]; rfl
  · rw [bQ_true, if_pos rfl]; rfl
theorem run_fB {fa : M Sl} : Run (fB fa) ρ QB = Run (mB (vl fa) fun d => mO (toB d)) ρ QB := rfl
theorem run_fIf {c : M Bool} {a b : M α} {Q : Po α} : Run (fIf c a b) ρ Q = Run c ρ (ifK a b Q) := by
  refine run_two (fun k ρ1 => ?_) fun _ _ _ _ => rfl
  cases k <;> rfl
theorem run_fAndT {a b : M Bool} : Run (fAndT a b) ρ QB = Run a ρ (ifK b (mP false) QB) := by
  refine run_two (fun k ρ1 => ?_) fun _ _ _ _ => rfl
  cases k <;> rfl
theorem run_fOrT {a b : M Bool} : Run (fOrT a b) ρ QB = Run a ρ (ifK (mP true) b QB) := by
  refine run_two (fun k ρ1 => ?_) fun _ _ _ _ => rfl
  cases k <;> rfl
theorem run_fNotT {a : M Bool} : Run (fNotT a) ρ QB = Run (mB a fun k => mP (!k)) ρ QB := rfl
theorem run_fAndV {a b : M Sl} : Run (fAndV a b) ρ Q = Run (fB a) ρ (ifK b (mP (.val (.bl false))) Q) := by
  refine run_two (fun k ρ1 => ?_) fun _ _ _ _ => rfl
  cases k <;> rfl
theorem run_fOrV {a b : M Sl} : Run (fOrV a b) ρ Q = Run (fB a) ρ (ifK (mP (.val (.bl true))) b Q) := by
  refine run_two (fun k ρ1 => ?_) fun _ _ _ _ => rfl
  cases k <;> rfl
theorem run_fNotV {a : M Sl} : Run (fNotV a) ρ Q = Run (mB (fB a) fun k => mP (.val (.bl (!k)))) ρ Q := rfl
theorem run_fIsN {fa : M Sl} : Run (fIsN fa) ρ Q = Run (mB (vl fa) fun d => mP (.val (.bl (isNonD d)))) ρ Q := rfl
theorem run_fNotN {fa : M Sl} : Run (fNotN fa) ρ Q = Run (mB (vl fa) fun d => mP (.val (.bl (!isNonD d)))) ρ Q := rfl
theorem run_fChain {g g' : Dt → Dt → Option Sl} {fa fb fc : M Sl} : Run (fChain g g' fa fb fc) ρ Q = Run (mB (vl fa) fun d => mB (vl fb) fun e => mB (mO ((unOk (g d e)).bind slB)) fun k => fIf (mP k) (mB (vl fc) fun c => mO (unOk (g' e c))) (mP (.val (.bl false)))) ρ Q := rfl
theorem run_fSeq {A B : M So} : Run (fSeq A B) ρ QS = Run A ρ (seqK B QS) := by
  refine run_two (fun o ρ1 => ?_) fun _ _ _ _ => rfl
  cases o with
  | nx => rfl
  | bk => exact run_mP
  | ct => exact run_mP
  | rt s => exact run_mP
theorem run_fDrop {f : M Sl} : Run (fDrop f) ρ QS = Run (mB (vl f) fun _ => mP .nx) ρ QS := rfl
theorem run_fRet {f : M Sl} : Run (fRet f) ρ QS = Run (mB f fun s => mP (.rt s)) ρ QS := rfl
theorem run_fRetV {pin : Nat → Bool} {i : Nat} : Run (fRetV pin i) ρ QS = retQ ρ[i]? (pin i) i ρ QS := by
  cases q : ρ[i]? with
  | none => exact Run.no (by simp only [fRetV, q])
  | some s => cases s with
    | un => exact Run.no (by simp only [fRetV, q])
    | val d => exact Run.iff (by simp only [fRetV, q])
    | own o =>
      show _ = ifQ (pin i) _ _
      cases hp : pin i with
      | true => exact Run.iff (by simp only [fRetV, q, hp, if_true])
      | false => exact Run.iff (by simp only [fRetV, q, hp, Bool.false_eq_true, if_false])
theorem run_fSet {pin : Nat → Bool} {i : Nat} {f : M Sl} : Run (fSet pin i f) ρ QS = Run (mB f fun s => mU (put pin i s) (mP .nx)) ρ QS := rfl
theorem run_fAsg {f : M Sl} {T : Dt → Up} : Run (fAsg f T) ρ QS = Run (mB (vl f) fun d => mU (T d) (mP .nx)) ρ QS := rfl
theorem put_eq {pin : Nat → Bool} {i : Nat} {s : Sl} : put pin i s ρ = if pin i then none else some (ρ.set i s) := rfl
theorem run_fRg {g : List Dt → Option (List Dt)} {f : M (List Dt)} : Run (fRg g f) ρ QL = Run (mB f fun ds => mO (g ds)) ρ QL := rfl
theorem run_fISU {f : M Sl} : Run (fISU f) ρ QL = Run (mB (vl f) fun d => mO (seqU d)) ρ QL := rfl
theorem run_fFor {fi : M (List Dt)} {T : Dt → Up} {B : M So} : Run (fFor fi T B) ρ QS = Run fi ρ (forK T B QS) := run_two (fun _ _ => rfl) fun _ _ _ _ => rfl
theorem run_forM_nil {T : Dt → Up} {B : M So} : Run (forM T B []) ρ QS = QS (.ok .nx) ρ := run_mP
theorem run_forM_cons {T : Dt → Up} {B : M So} {d : Dt} {ds : List Dt} : Run (forM T B (d :: ds)) ρ QS = upQ (T d ρ) B (fturnK T B ds QS) := by
  rw [forM, run_mU]
  cases T d ρ with
  | none => rfl
  | some ρ1 =>
    refine run_two (fun o ρ2 => ?_) fun _ _ _ _ => rfl
    cases o with
    | nx => rfl
    | bk => exact run_mP
    | ct => rfl
    | rt s => exact run_mP
/-- a for, by what holds between its turns -/
theorem run_forI {T : Dt → Up} {B : M So} (I : Nat → List Sl → Prop) : ∀ (ds : List Dt) (i : Nat) (ρ : List Sl), I i ρ →
    (∀ j d ρ, ds[j]? = some d → I (i + j) ρ → upQ (T d ρ) B (fstepK (I (i + j + 1)) QS)) → (∀ ρ', I (i + ds.length) ρ' → QS (.ok .nx) ρ') → Run (forM T B ds) ρ QS
  | [], i, ρ, h, _, q => by rw [run_forM_nil]; exact q ρ h
  | d :: ds, i, ρ, h, st, q => by
    rw [run_forM_cons]
    have s0 := st 0 d ρ rfl h
    have go : ∀ ρ2, I (i + 0 + 1) ρ2 → Run (forM T B ds) ρ2 QS := fun ρ2 hi => by
      refine run_forI I ds (i + 1) ρ2 hi (fun j d' ρ' e hj => ?_) fun ρ' hl => q ρ' (by rw [List.length_cons, show i + (ds.length + 1) = i + 1 + ds.length by omega]; exact hl)
      have := st (j + 1) d' ρ' (by simpa using e) (by rw [show i + (j + 1) = i + 1 + j by omega]; exact hj)
      rw [show i + (j + 1) + 1 = i + 1 + j + 1 by omega] at this
      exact this
    cases q1 : T d ρ with
    | none => rw [q1] at s0; exact s0.elim
    | some ρ1 =>
      rw [q1] at s0
      rw [upQ_some] at s0 ⊢
      refine s0.mono fun r ρ2 hq => ?_
      cases r with
      | ex C ns ds => exact hq
      | ok o => cases o with
        | nx => exact go _ hq
        | ct => exact go _ hq
        | bk => exact hq
        | rt s => exact hq
theorem run_for {T : Dt → Up} {B : M So} {ds : List Dt} (I : Nat → List Sl → Prop) (h0 : I 0 ρ) (st : ∀ j d ρ, ds[j]? = some d → I j ρ → upQ (T d ρ) B (fstepK (I (j + 1)) QS)) (h : ∀ ρ', I ds.length ρ' → QS (.ok .nx) ρ') : Run (forM T B ds) ρ QS :=
  run_forI I ds 0 ρ h0 (fun j d ρ e hi => by rw [Nat.zero_add] at hi ⊢; exact st j d ρ e hi) fun ρ' hl => h ρ' (by rw [Nat.zero_add] at hl; exact hl)
theorem run_fLc {fi : M (List Dt)} {T : Dt → Up} {t : M Bool} {e : M Sl} {vs : List Nat} : Run (fLc fi T t e vs) ρ Q = Run fi ρ (lcK T t e vs Q) := by
  refine run_two (fun ds ρ1 => ?_) fun _ _ _ _ => rfl
  show _ = RunL T t e vs ds [] (wipeR ρ1 vs) Q
  refine propext ⟨fun ⟨r, ρ', e, h⟩ => ?_, fun ⟨acc, ρ', e, h⟩ => ⟨.ok (.own (.lst acc)), ρ', by simp only [e], h⟩⟩
  dsimp only at e
  split at e
  · rename_i acc ρ2 q
    cases e
    exact ⟨acc, _, q, h⟩
  · cases e
theorem runL_nil {T : Dt → Up} {t : M Bool} {e : M Sl} {vs : List Nat} {acc : List Dt} : RunL T t e vs [] acc ρ Q = Q (.ok (.own (.lst acc))) ρ := by
  refine propext ⟨fun ⟨a, ρ', e, h⟩ => ?_, fun h => ⟨acc, ρ, by unfold lcM; rfl, h⟩⟩
  unfold lcM at e
  cases e
  exact h
theorem runL_cons {T : Dt → Up} {t : M Bool} {e : M Sl} {vs : List Nat} {d : Dt} {ds acc : List Dt} : RunL T t e vs (d :: ds) acc ρ Q = upQ (T d (wipeR ρ vs)) t (ltestK T t e vs ds acc Q) := by
  cases q1 : T d (wipeR ρ vs) with
  | none => exact propext ⟨fun ⟨a, ρ', e0, h⟩ => (by rw [lcM, q1] at e0; cases e0), fun z => z.elim⟩
  | some ρ1 =>
    rw [upQ_some]
    refine propext ⟨fun ⟨a, ρ', e0, h⟩ => ?_, fun ⟨r, ρ2, e2, h⟩ => ?_⟩
    · rw [lcM, q1] at e0
      dsimp only at e0
      split at e0
      · rename_i ρ2 e2
        refine ⟨_, _, e2, ?_⟩
        split at e0
        · rename_i x ρ3 e3
          refine ⟨_, _, e3, ?_⟩
          split at e0
          · rename_i hz
            exact ⟨hz, a, ρ', e0, h⟩
          · cases e0
        · cases e0
      · rename_i ρ2 e2
        exact ⟨_, _, e2, a, ρ', e0, h⟩
      · cases e0
    · cases r with
      | ex C ns ds => exact h.elim
      | ok b =>
        cases b with
        | false =>
          obtain ⟨a, ρ', e0, h⟩ := h
          exact ⟨a, ρ', by rw [lcM, q1]; simp only [e2]; exact e0, h⟩
        | true =>
          obtain ⟨r3, ρ3, e3, h⟩ := h
          cases r3 with
          | ex C ns ds => exact h.elim
          | ok x =>
            obtain ⟨hz, a, ρ', e0, h⟩ := h
            exact ⟨a, ρ', by rw [lcM, q1]; simp only [e2, e3, hz, if_true]; exact e0, h⟩
theorem runL_invI {T : Dt → Up} {t : M Bool} {e : M Sl} {vs : List Nat} (I : Nat → List Dt → List Sl → Prop) : ∀ (ds : List Dt) (i : Nat) (acc : List Dt) (ρ : List Sl), I i acc ρ →
    (∀ j d acc ρ, ds[j]? = some d → I (i + j) acc ρ → upQ (T d (wipeR ρ vs)) t (lstepK e acc vs (I (i + j + 1)))) →
    (∀ acc ρ', I (i + ds.length) acc ρ' → Q (.ok (.own (.lst acc))) ρ') → RunL T t e vs ds acc ρ Q
  | [], i, acc, ρ, h, _, q => by rw [runL_nil]; exact q acc ρ h
  | d :: ds, i, acc, ρ, h, st, q => by
    rw [runL_cons]
    have s0 := st 0 d acc ρ rfl h
    have go : ∀ a ρ2, I (i + 0 + 1) a ρ2 → RunL T t e vs ds a ρ2 Q := fun a ρ2 hi => by
      refine runL_invI I ds (i + 1) a ρ2 hi (fun j d' a' ρ' e hj => ?_) fun a' ρ' hl => q a' ρ' (by rw [List.length_cons, show i + (ds.length + 1) = i + 1 + ds.length by omega]; exact hl)
      have := st (j + 1) d' a' ρ' (by simpa using e) (by rw [show i + (j + 1) = i + 1 + j by omega]; exact hj)
      rw [show i + (j + 1) + 1 = i + 1 + j + 1 by omega] at this
      exact this
    cases q1 : T d (wipeR ρ vs) with
    | none => rw [q1] at s0; exact s0.elim
    | some ρ1 =>
      rw [q1] at s0
      rw [upQ_some] at s0 ⊢
      refine s0.mono fun r ρ2 hq => ?_
      cases r with
      | ex C ns ds => exact hq.elim
      | ok b => cases b with
        | false => exact go _ _ hq
        | true =>
          have hq : Run (vl e) ρ2 (lkeepK acc vs (I (i + 0 + 1))) := hq
          show Run (vl e) ρ2 (lturnK T t e vs ds acc Q)
          refine hq.mono fun r ρ3 hx => ?_
          cases r with
          | ex C ns ds => exact hx.elim
          | ok x => exact ⟨hx.1, go _ _ hx.2⟩
theorem runL_inv {T : Dt → Up} {t : M Bool} {e : M Sl} {vs : List Nat} {ds acc : List Dt} (I : Nat → List Dt → List Sl → Prop) (h0 : I 0 acc ρ) (st : ∀ j d acc ρ, ds[j]? = some d → I j acc ρ → upQ (T d (wipeR ρ vs)) t (lstepK e acc vs (I (j + 1))))
    (h : ∀ acc ρ', I ds.length acc ρ' → Q (.ok (.own (.lst acc))) ρ') : RunL T t e vs ds acc ρ Q :=
  runL_invI I ds 0 acc ρ h0 (fun j d acc ρ e hi => by rw [Nat.zero_add] at hi ⊢; exact st j d acc ρ e hi) fun acc ρ' hl => h acc ρ' (by rw [Nat.zero_add] at hl; exact hl)
/-! slots as lists -/
theorem run_fIxV {i : Nat} {fb : M Sl} : Run (fIxV i fb) ρ Q = bQ (isSeen ρ[i]?) (Run (vl fb) ρ (ixK i Q)) := by
  cases h : isSeen ρ[i]? with
  | false => rw [bQ_false]; exact Run.no (by unfold fIxV; rw [h, if_neg (by simp)])
  | true =>
    rw [bQ_true]
    have e1 : Run (fIxV i fb) ρ Q = Run (mB (vl fb) (fun e ρ1 => mO (unOk (gIxS ρ1[i]? e)) ρ1)) ρ Q := by
      unfold Run fIxV
      simp only [h, if_true]
    rw [e1]
    exact run_two (fun e ρ1 => run_mO (ρ := ρ1)) fun _ _ _ _ => rfl
theorem run_fApp {i : Nat} {f : M (List Dt)} : Run (fApp i f) ρ Q = bQ (isOL ρ[i]?) (Run f ρ (appK i Q)) := by
  have no : isOL ρ[i]? = false → fApp i f ρ = none := fun h => by
    unfold fApp
    cases q : ρ[i]? with
    | none => rfl
    | some s => cases s with
      | un => rfl
      | val d => rfl
      | own o => cases o with
        | lst xs => rw [q] at h; cases h
        | dct _ _ => rfl
        | ins _ _ _ => rfl
  cases h : isOL ρ[i]? with
  | false => rw [bQ_false]; exact Run.no (no h)
  | true =>
    rw [bQ_true]
    have e1 : Run (fApp i f) ρ Q = Run (mB f (fun ds ρ1 => match ds, ρ1[i]? with
    | [d], some (.own (.lst xs)) => if small xs.length then some (.ok (.val .non), ρ1.set i (.own (.lst (xs ++ [d])))) else none
    | _, _ => none)) ρ Q := by
      unfold Run fApp
      cases q : ρ[i]? with
      | none => rw [q] at h; cases h
      | some s => cases s with
        | un => rw [q] at h; cases h
        | val d => rw [q] at h; cases h
        | own o => cases o with
          | lst xs => rfl
          | dct _ _ => rw [q] at h; cases h
          | ins _ _ _ => rw [q] at h; cases h
    rw [e1]
    refine run_two (fun ds ρ1 => ?_) fun _ _ _ _ => rfl
    show _ = appQ ds ρ1[i]? i Q ρ1
    unfold Run appQ
    dsimp only
    split
    · rename_i d xs q
      cases hz : small xs.length with
      | false => rw [bQ_false]; simp
      | true => rw [bQ_true]; exact propext ⟨fun ⟨r, ρ', e, q⟩ => (by rw [if_pos rfl] at e; cases e; exact q), fun q => ⟨_, _, by rw [if_pos rfl], q⟩⟩
    · rename_i hn
      exact propext ⟨fun ⟨r, ρ', e, q⟩ => (by cases e), False.elim⟩
theorem run_gSetL {i : Nat} {fi : M Sl} {d : Dt} {k : M β} {Q : Po β} : upQ (gSetL i fi d ρ) k Q = bQ (isOL ρ[i]?) (Run (vl fi) ρ (setK i d k Q)) := by
  unfold gSetL
  cases q : ρ[i]? with
  | none => rw [show isOL none = false from rfl, bQ_false]; rfl
  | some s => cases s with
    | un => rw [show isOL (some .un) = false from rfl, bQ_false]; rfl
    | val d => rw [show isOL (some (.val d)) = false from rfl, bQ_false]; rfl
    | own o => cases o with
      | dct _ _ => rw [show isOL (some (.own (.dct _ _))) = false from rfl, bQ_false]; rfl
      | ins _ _ _ => rw [show isOL (some (.own (.ins _ _ _))) = false from rfl, bQ_false]; rfl
      | lst ys =>
        rw [show isOL (some (.own (.lst ys))) = true from rfl, bQ_true]
        cases e : vl fi ρ with
        | none => rw [Run.no e]; rfl
        | some p =>
          obtain ⟨r, ρ1⟩ := p
          rw [Run.iff e]
          cases r with
          | ex C ns ds => rfl
          | ok x =>
            show _ = setQ x ρ1[i]? i d k Q ρ1
            cases x with
            | int kk =>
              simp only
              cases q' : ρ1[i]? with
              | none => rfl
              | some s => cases s with
                | un => rfl
                | val d => rfl
                | own o => cases o with
                  | dct _ _ => rfl
                  | ins _ _ _ => rfl
                  | lst xs =>
                    rw [setQ_own]
                    simp only
                    cases ixN xs.length kk with
                    | none => rfl
                    | some j => rfl
            | _ => rfl
theorem run_fLenV {i : Nat} : Run (fLenV i) ρ Q = lenQ ((seen ρ i).bind fun d => gLen [d]) Q ρ := by
  cases q : (seen ρ i).bind fun d => gLen [d] with
  | none => exact Run.no (by unfold fLenV; rw [q])
  | some s => cases s with
    | un => exact Run.no (by unfold fLenV; rw [q])
    | own o => exact Run.no (by unfold fLenV; rw [q])
    | val d =>
      cases d with
      | int n => exact Run.iff (by unfold fLenV; rw [q])
      | _ => exact Run.no (by unfold fLenV; rw [q])
theorem run_fReprV {i : Nat} : Run (fReprV i) ρ Q = optQ (((seen ρ i).bind textD).map fun x => .val (.str x)) Q ρ := by
  cases q : (seen ρ i).bind textD with
  | none => exact Run.no (by unfold fReprV; rw [q])
  | some x => exact Run.iff (by unfold fReprV; rw [q])
/-! calls -/
theorem run_fBVar {i : Nat} {fr : M (List Ar)} : Run (fBVar i fr) ρ QA = barQ ρ[i]? i fr ρ QA := by
  cases q : ρ[i]? with
  | none => exact Run.no (by unfold fBVar; rw [q])
  | some s => cases s with
    | un => exact Run.no (by unfold fBVar; rw [q])
    | val d => unfold Run fBVar; rw [q]; rfl
    | own o => unfold Run fBVar; rw [q]; rfl
theorem run_fBCons {fa : M Sl} {fr : M (List Ar)} : Run (fBCons fa fr) ρ QA = Run (mB (vl fa) fun d => mB fr fun as => mP (.d d :: as)) ρ QA := rfl
theorem run_callD {n : Nat} {g : M Sl} {as : List Ar} : Run (callD n g [] as) ρ Q = bQ (decide ((lent as).Nodup) && (lent as).all (fun i => isOw ρ[i]?) && decide (as.length = n)) (Run g (as.map (arSl ρ)) (backK as ρ Q)) := by
  have e0 : callD n g [] as ρ = if (decide ((lent as).Nodup) && (lent as).all (fun i => isOw ρ[i]?) && decide (as.length = n)) = true then (match g (as.map (arSl ρ)) with | none => none | some (r, as') => some (r, backs as as' ρ)) else none := by
    unfold callD
    rw [List.map_nil, List.append_nil]
    rfl
  unfold Run bQ
  rw [e0]
  split
  · rename_i h
    simp only [h, true_and]
    refine propext ⟨fun ⟨r, ρ', e, q⟩ => ?_, fun ⟨r, ρ', e, q⟩ => ⟨r, _, by rw [e], q⟩⟩
    split at e
    · cases e
    · rename_i r2 as' e2
      cases e
      exact ⟨_, _, e2, q⟩
  · rename_i h
    simp only [h, false_and]
    simp
theorem two_false {n m a b : Nat} (h : ¬(a = n ∧ b = m)) : (decide (a = n) && decide (b = m)) = false := by
  rw [Bool.and_eq_false_iff]
  by_cases h1 : a = n
  · exact .inr (by simpa using fun h2 => h ⟨h1, h2⟩)
  · exact .inl (by simpa using h1)
theorem run_fCk {n m N : Nat} {gD : List Ar → List Ar → List Ar} {g : M Sl} {fa fk : M (List Ar)} : Run (fCk n m N gD g fa fk) ρ Q = Run fa ρ (ckK n m N gD g fk Q) := by
  refine run_two (fun as ρ1 => ?_) fun _ _ _ _ => rfl
  refine run_two (fun bs ρ2 => ?_) fun _ _ _ _ => rfl
  show _ = bQ (decide (as.length = n) && decide (bs.length = m)) (Run (callD N g [] (gD as bs)) ρ2 Q)
  by_cases h : as.length = n ∧ bs.length = m
  · rw [h.1, h.2, decide_eq_true rfl, decide_eq_true rfl, Bool.and_self, bQ_true]
    unfold Run
    simp only [h.1, h.2, and_self, if_true]
  · rw [two_false h, bQ_false]
    exact Run.no (by simp only [if_neg h])
theorem run_fCkP {n m N : Nat} {gD : List Ar → List Ar → List Ar} {g : M Sl} {fa fk : M (List Ar)} : Run (fCkP n m N gD g fa fk) ρ Q = Run fa ρ (ckPK n m N gD g fk Q) := by
  refine run_two (fun as ρ1 => ?_) fun _ _ _ _ => rfl
  refine run_two (fun bs ρ2 => ?_) fun _ _ _ _ => rfl
  show _ = bQ (decide (as.length = n) && decide (bs.length = m)) (Run (callD N g [] (gD as bs)) ρ2 (okQ Q))
  by_cases h : as.length = n ∧ bs.length = m
  · rw [h.1, h.2, decide_eq_true rfl, decide_eq_true rfl, Bool.and_self, bQ_true]
    unfold Run
    simp only [h.1, h.2, and_self, if_true]
    refine propext ⟨fun ⟨r, ρ', e, q⟩ => ?_, fun ⟨r, ρ', e, q⟩ => ?_⟩
    · unfold okOnly at e
      split at e
      · rename_i s ρ3 e2
        cases e
        exact ⟨_, _, e2, q⟩
      · cases e
    · cases r with
      | ok s => exact ⟨.ok s, ρ', by rw [e]; rfl, q⟩
      | ex C ns ds => exact q.elim
  · rw [two_false h, bQ_false]
    exact Run.no (by simp only [if_neg h])
theorem run_mDef {pin : Nat → Bool} {N : Nat} {G : M So} {as : List Sl} : Run (mDef pin N G) as Q = Run G (norms pin as ++ List.replicate (N - as.length) .un) (dfQ pin as Q) := by
  refine propext ⟨fun ⟨r, ρ', e, q⟩ => ?_, fun ⟨r, ρ', e, q⟩ => ?_⟩
  · unfold mDef at e
    split at e
    · rename_i ρ1 e1; cases e; exact ⟨_, _, e1, q⟩
    · rename_i s ρ1 e1; cases e; exact ⟨_, _, e1, q⟩
    · rename_i C ns ds ρ1 e1; cases e; exact ⟨_, _, e1, q⟩
    · cases e
  · cases r with
    | ex C ns ds => exact ⟨_, _, by unfold mDef; rw [e], q⟩
    | ok o => cases o with
      | nx => exact ⟨_, _, by unfold mDef; rw [e], q⟩
      | rt s => exact ⟨_, _, by unfold mDef; rw [e], q⟩
      | bk => exact q.elim
      | ct => exact q.elim
end
end DL

end
section
set_option Elab.async false
set_option linter.all false
set_option maxRecDepth 100000
set_option maxHeartbeats 4000000
/-! R2: runs: what operations come to on data. -/
namespace DL
open PySem PySem.Spec L2
theorem atI_lit {α : Type} {xs : List α} {n : Nat} : atI xs (no_index (OfNat.ofNat n) : Int) = xs[n]? := by
  show atI xs ((n : Nat) : Int) = _
  unfold atI ixN
  by_cases h : n < xs.length
  · simp [h]
  · simp [h, List.getElem?_eq_none (Nat.le_of_not_lt h)]
theorem atI_at {α : Type} {xs : List α} {n : Nat} : atI xs (n : Int) = xs[n]? := atI_lit
theorem shaped_int {i : Int} : SeqAt.shaped (.int i) = true := by unfold SeqAt.shaped; simp [PyData.canLay0, PyData.depth]
theorem shaped_str {x : Str} (h : PyData.strOk x = true) : SeqAt.shaped (.str x) = true := by unfold SeqAt.shaped; simp [PyData.canLay0, PyData.depth, h]
theorem gEq_int {i j : Int} : gEq (.int i) (.int j) = some (.val (.bl (decide (i = j)))) := by
  unfold gEq
  simp only [toPy, shaped_int, Bool.and_self, if_true]
  simp only [PyData.eqv]
  by_cases h : i = j <;> simp [h]
theorem gNe_int {i j : Int} : gNe (.int i) (.int j) = some (.val (.bl (!decide (i = j)))) := by
  unfold gNe
  simp only [toPy, shaped_int, Bool.and_self, if_true]
  simp only [PyData.eqv]
  by_cases h : i = j <;> simp [h]
theorem gEq_str {x y : Str} (hx : PyData.strOk x = true) (hy : PyData.strOk y = true) : gEq (.str x) (.str y) = some (.val (.bl (x == y))) := by
  unfold gEq
  simp only [toPy, shaped_str hx, shaped_str hy, Bool.and_self, if_true, PyData.eqv]
theorem gNe_str {x y : Str} (hx : PyData.strOk x = true) (hy : PyData.strOk y = true) : gNe (.str x) (.str y) = some (.val (.bl (!(x == y)))) := by
  unfold gNe
  simp only [toPy, shaped_str hx, shaped_str hy, Bool.and_self, if_true, PyData.eqv]
theorem str_beq {x : Str} : (x == x) = true := beq_self_eq_true x
mutual
theorem eqv_self : ∀ p : PyData, p.canLay0 = true → PyData.eqv p p = true
  | .none, _ => by simp only [PyData.eqv]
  | .bool b, _ => by simp [PyData.eqv]
  | .int b, _ => by simp [PyData.eqv]
  | .str b, _ => by simp only [PyData.eqv]; exact str_beq
  | .list xs, h => by
    simp only [PyData.canLay0] at h
    simp only [PyData.eqv]; exact eqvAll_self xs h
  | .tuple xs, h => by
    simp only [PyData.canLay0] at h
    simp only [PyData.eqv]; exact eqvAll_self xs h
  | .dict _, h => by simp [PyData.canLay0] at h
theorem eqvAll_self : ∀ ps : List PyData, PyData.canLayAll0 ps = true → PyData.eqvAll ps ps = true
  | [], _ => by simp only [PyData.eqvAll]
  | p :: ps, h => by
    simp only [PyData.canLayAll0, Bool.and_eq_true] at h
    simp only [PyData.eqvAll, eqv_self p h.1, eqvAll_self ps h.2, Bool.and_self]
end
/-- data of texts and ints, lists and tuples within bounds: what is shown of it -/
structure Shw1 (p : PyData) (n k : Nat) : Prop where
  s : p.showable = true
  l : p.shown.length ≤ n
  o : PyData.strOk p.shown = true
  d : p.depth ≤ k
  c : p.canLay0 = true
theorem strOk_append {x y : Str} : PyData.strOk (x ++ y) = (PyData.strOk x && PyData.strOk y) := by
  show (x.cps ++ y.cps).all _ = _
  rw [Array.all_append]; rfl
theorem Shw1.int {i : Int} (h : i.natAbs.log2 < 1920) : Shw1 (.int i) 1921 0 where
  s := by simp only [PyData.showable, h, decide_true]
  l := by simp only [PyData.shown]; exact PyProof.Rows.int_text_len_1921 h
  o := by
    simp only [PyData.shown]
    unfold PyData.strOk
    rw [Array.all_eq_true']
    intro c hc
    have : (Str.ofString (toString i)).cps = ((toString i).toList.map Char.toNat).toArray := by rw [Str.ofString_eq_toList]
    have hc2 : c ∈ (Str.ofString (toString i)).cps := hc
    rw [this] at hc2
    simp only [List.mem_toArray, List.mem_map] at hc2
    obtain ⟨ch, h1, rfl⟩ := hc2
    have := int_ascii i ch h1
    exact decide_eq_true (by omega)
  d := by simp [PyData.depth]
  c := by simp [PyData.canLay0]
theorem strOk_lit {x : Str} (h : x.cps.all (· < 0x110000) = true) : PyData.strOk x = true := h
theorem Shw1.le {p : PyData} {n k n' k' : Nat} (h : Shw1 p n k) (hn : n ≤ n') (hk : k ≤ k') : Shw1 p n' k' := ⟨h.s, Nat.le_trans h.l hn, h.o, Nat.le_trans h.d hk, h.c⟩
theorem len_app (a b : Str) : (a ++ b).length = a.length + b.length := by
  show (a.cps ++ b.cps).size = _
  rw [Array.size_append]; rfl
theorem join_le : ∀ (ts : List Str) (n : Nat), (∀ t ∈ ts, t.length ≤ n) → (Str.join ", " ts).length ≤ ts.length * (n + 2)
  | [], n, _ => by simp [Str.join]; decide
  | [t], n, h => by
    have := h t (by simp)
    show t.length ≤ _
    simp
    omega
  | t :: u :: r, n, h => by
    have i := join_le (u :: r) n fun x hx => h x (List.mem_cons_of_mem _ hx)
    have j := h t (by simp)
    show (t ++ ", " ++ Str.join ", " (u :: r)).length ≤ _
    rw [len_app, len_app]
    have : (", " : Str).length = 2 := by decide +kernel
    rw [this]
    simp only [List.length_cons] at i ⊢
    have : (r.length + 1 + 1) * (n + 2) = (r.length + 1) * (n + 2) + (n + 2) := by rw [Nat.add_mul (r.length + 1) 1, Nat.one_mul]
    omega
theorem join_ok : ∀ (ts : List Str), (∀ t ∈ ts, PyData.strOk t = true) → PyData.strOk (Str.join ", " ts) = true
  | [], _ => by decide +kernel
  | [t], h => h t (by simp)
  | t :: u :: r, h => by
    have i := join_ok (u :: r) fun x hx => h x (List.mem_cons_of_mem _ hx)
    have j := h t (by simp)
    show PyData.strOk (t ++ ", " ++ Str.join ", " (u :: r)) = true
    rw [strOk_append, strOk_append, i, j]
    decide +kernel
theorem shownAll_mem : ∀ {ps : List PyData} {t : Str}, t ∈ PyData.shownAll ps → ∃ p ∈ ps, t = p.shown
  | [], t, h => by simp [PyData.shownAll] at h
  | p :: ps, t, h => by
    simp only [PyData.shownAll, List.mem_cons] at h
    rcases h with rfl | h
    · exact ⟨p, by simp, rfl⟩
    · obtain ⟨q, hq, e⟩ := shownAll_mem h
      exact ⟨q, List.mem_cons_of_mem _ hq, e⟩
theorem shownAll_len : ∀ {ps : List PyData}, (PyData.shownAll ps).length = ps.length
  | [] => by simp [PyData.shownAll]
  | p :: ps => by simp [PyData.shownAll, shownAll_len]
theorem showableAll_of : ∀ {ps : List PyData}, (∀ p ∈ ps, p.showable = true) → PyData.showableAll ps = true
  | [], _ => by simp only [PyData.showableAll]
  | p :: ps, h => by simp only [PyData.showableAll, h p (by simp), showableAll_of (fun q hq => h q (List.mem_cons_of_mem _ hq)), Bool.and_self]
theorem canLayAll_of : ∀ {ps : List PyData}, (∀ p ∈ ps, p.canLay0 = true) → PyData.canLayAll0 ps = true
  | [], _ => by simp only [PyData.canLayAll0]
  | p :: ps, h => by simp only [PyData.canLayAll0, h p (by simp), canLayAll_of (fun q hq => h q (List.mem_cons_of_mem _ hq)), Bool.and_self]
theorem depthAll_le : ∀ {ps : List PyData} {k : Nat}, (∀ p ∈ ps, p.depth ≤ k) → PyData.depthAll ps ≤ k
  | [], k, _ => by simp [PyData.depthAll]
  | p :: ps, k, h => by
    have a := h p (by simp)
    have b := depthAll_le fun q hq => h q (List.mem_cons_of_mem _ hq)
    simp only [PyData.depthAll]
    omega
theorem Shw1.list {ps : List PyData} {n k : Nat} (h : ∀ p ∈ ps, Shw1 p n k) : Shw1 (.list ps) (ps.length * (n + 2) + 2) (k + 1) where
  s := by simp only [PyData.showable]; exact showableAll_of fun p hp => (h p hp).s
  l := by
    simp only [PyData.shown]
    rw [listText_eq_join, len_app, len_app]
    have := join_le (PyData.shownAll ps) n fun t ht => by obtain ⟨p, hp, rfl⟩ := shownAll_mem ht; exact (h p hp).l
    rw [shownAll_len] at this
    have e1 : ("[" : Str).length = 1 := by decide +kernel
    have e2 : ("]" : Str).length = 1 := by decide +kernel
    omega
  o := by
    simp only [PyData.shown]
    rw [listText_eq_join, strOk_append, strOk_append, join_ok _ fun t ht => by obtain ⟨p, hp, rfl⟩ := shownAll_mem ht; exact (h p hp).o]
    decide +kernel
  d := by
    have := depthAll_le fun p hp => (h p hp).d
    simp only [PyData.depth]
    omega
  c := by simp only [PyData.canLay0]; exact canLayAll_of fun p hp => (h p hp).c
theorem Shw1.tuple {ps : List PyData} {n k : Nat} (h : ∀ p ∈ ps, Shw1 p n k) : Shw1 (.tuple ps) (ps.length * (n + 2) + 3) (k + 1) where
  s := by simp only [PyData.showable]; exact showableAll_of fun p hp => (h p hp).s
  l := by
    simp only [PyData.shown]
    unfold tupleText
    rw [len_app, len_app]
    have := join_le (PyData.shownAll ps) n fun t ht => by obtain ⟨p, hp, rfl⟩ := shownAll_mem ht; exact (h p hp).l
    rw [shownAll_len] at this
    have e1 : ("(" : Str).length = 1 := by decide +kernel
    have e2 : (",)" : Str).length = 2 := by decide +kernel
    have e3 : (")" : Str).length = 1 := by decide +kernel
    split
    · have : (Str.ofString ",)").length = 2 := e2
      omega
    · have : (Str.ofString ")").length = 1 := e3
      omega
  o := by
    simp only [PyData.shown]
    unfold tupleText
    rw [strOk_append, strOk_append, join_ok _ fun t ht => by obtain ⟨p, hp, rfl⟩ := shownAll_mem ht; exact (h p hp).o]
    have e1 : PyData.strOk ("(" : Str) = true := by decide +kernel
    have e2 : PyData.strOk (Str.ofString ",)") = true := by decide +kernel
    have e3 : PyData.strOk (Str.ofString ")") = true := by decide +kernel
    rw [e1]
    split <;> simp [e2, e3]
  d := by
    have := depthAll_le fun p hp => (h p hp).d
    simp only [PyData.depth]
    omega
  c := by simp only [PyData.canLay0]; exact canLayAll_of fun p hp => (h p hp).c
/-- on data: what it is shown as -/
theorem textD_of {d : Dt} {p : PyData} {n k : Nat} (e : pyD d = some p) (h : Shw1 p n k) (hn : n ≤ 16777216) (hk : k ≤ 40) : textD d = some p.shown := by
  unfold textD
  rw [e]
  have f : FitD p := ⟨h.s, Nat.le_trans h.l hn, Nat.le_trans h.d hk⟩
  simp only [Option.bind_some, f, if_true]
theorem ne_self {x : Str} (h : PyData.strOk x = true) : gNe (.str x) (.str x) = some (.val (.bl false)) := by
  rw [gNe_str h h, str_beq]; rfl
mutual
theorem toPy_pyD : ∀ (d : Dt), toPy d = pyD d
  | .non => by simp [toPy, pyD]
  | .bl _ => by simp [toPy, pyD]
  | .int _ => by simp [toPy, pyD]
  | .str _ => by simp [toPy, pyD]
  | .lst ds => by simp [toPy, pyD, toPys_pyDs ds]
  | .rol ds => by simp [toPy, pyD, toPys_pyDs ds]
  | .tup ds => by simp [toPy, pyD, toPys_pyDs ds]
  | .ty _ => by simp [toPy, pyD]
  | .ref _ => by simp [toPy, pyD]
  | .dct _ _ => by simp [toPy, pyD]
  | .obj _ _ _ => by simp [toPy, pyD]
  | .exn _ _ _ => by simp [toPy, pyD]
theorem toPys_pyDs : ∀ (ds : List Dt), toPys ds = pyDs ds
  | [] => by simp [toPys, pyDs]
  | d :: ds => by
    simp only [toPys, pyDs, toPy_pyD d, toPys_pyDs ds]
    all_goals (cases pyD d <;> cases pyDs ds <;> rfl)
end
theorem shaped_of {p : PyData} {n k : Nat} (h : Shw1 p n k) (hk : k ≤ 64) : SeqAt.shaped p = true := by
  unfold SeqAt.shaped
  rw [h.c, decide_eq_true (Nat.le_trans h.d hk)]; rfl
theorem gNe_self {d e : Dt} {p : PyData} {n k : Nat} (h1 : pyD d = some p) (h2 : pyD e = some p) (h : Shw1 p n k) (hk : k ≤ 64) : gNe d e = some (.val (.bl false)) := by
  unfold gNe
  rw [toPy_pyD, toPy_pyD, h1, h2]
  simp only [shaped_of h hk, Bool.and_self, if_true, eqv_self p h.c]
  rfl
theorem pyDs_ints : ∀ (ns : List Int), pyDs (ns.map Dt.int) = some (ns.map PyData.int)
  | [] => by simp [pyDs]
  | n :: ns => by simp only [List.map_cons, pyDs, pyD, pyDs_ints ns]
theorem shw_ints {ns : List Int} (h : ∀ n ∈ ns, n.natAbs.log2 < 1920) : ∀ p ∈ ns.map PyData.int, Shw1 p 1921 0 := fun p hp => by
  obtain ⟨n, hn, rfl⟩ := List.mem_map.mp hp
  exact Shw1.int (h n hn)
theorem log2_of {n : Int} (h0 : -1000000000 ≤ n) (h1 : n ≤ 1000000000) : n.natAbs.log2 < 1920 := by
  have a : n.natAbs ≤ 1000000000 := by omega
  by_cases h : n.natAbs = 0
  · rw [h]; decide
  · have := (Nat.log2_lt h (k := 40)).mpr (by omega)
    omega
theorem fmod_bd (x p : Int) (h : 0 < p) : 0 ≤ x.fmod p ∧ x.fmod p < p := by
  rw [Int.fmod_eq_emod_of_nonneg _ (by omega)]
  exact ⟨Int.emod_nonneg _ (by omega), Int.emod_lt_of_pos _ h⟩
theorem rangeD_get {lo : Int} {n j : Nat} {d : Dt} (h : (rangeD lo n)[j]? = some d) : j < n ∧ d = .int (lo + j) := by
  unfold rangeD at h
  rw [List.getElem?_map, Option.map_eq_some_iff] at h
  obtain ⟨i, h1, rfl⟩ := h
  have hj : j < n := by
    rcases Nat.lt_or_ge j n with g | g
    · exact g
    · rw [List.getElem?_eq_none (by simpa using g)] at h1; cases h1
  rw [List.getElem?_range hj] at h1
  cases h1
  exact ⟨hj, rfl⟩
theorem rangeD_len {lo : Int} {n : Nat} : (rangeD lo n).length = n := by simp [rangeD]
section
variable {i j : Int} {x y : Str} {xs ys : List Dt} {d : Dt} {o : Od}
theorem gAdd_ii : gAdd (.int i) (.int j) = some (.val (.int (i + j))) := rfl
theorem gAdd_ss : gAdd (.str x) (.str y) = if small (x.length + y.length) then some (.val (.str (x ++ y))) else none := rfl
theorem gAdd_ll : gAdd (.lst xs) (.lst ys) = if small (xs.length + ys.length) then some (.own (.lst (xs ++ ys))) else none := rfl
theorem gAdd_tt : gAdd (.tup xs) (.tup ys) = if small (xs.length + ys.length) then some (.val (.tup (xs ++ ys))) else none := rfl
theorem gMinus_ii : gMinus (.int i) (.int j) = some (.val (.int (i - j))) := rfl
theorem gMul_ii (h : okMul i j = true) : gMul (.int i) (.int j) = some (.val (.int (i * j))) := by
  show (if okMul i j || decide (CMulW i j) then some (Sl.val (.int (i * j))) else none) = _
  rw [h]; rfl
theorem okMul_l (h1 : -18446744073709551616 < i) (h2 : i < 18446744073709551616) : okMul i j = true := by
  unfold okMul
  have a : decide (-(2 ^ 64) < i) = true := decide_eq_true (by omega)
  have b : decide (i < 2 ^ 64) = true := decide_eq_true (by omega)
  rw [a, b]; rfl
theorem okMul_r (h1 : -18446744073709551616 < j) (h2 : j < 18446744073709551616) : okMul i j = true := by
  unfold okMul
  have a : decide (-(2 ^ 64) < j) = true := decide_eq_true (by omega)
  have b : decide (j < 2 ^ 64) = true := decide_eq_true (by omega)
  rw [a, b, Bool.and_self, Bool.or_true]
theorem gMul_li : gMul (.lst xs) (.int i) = if inRg i && small (xs.length * i.toNat) then some (.own (.lst (List.replicate i.toNat xs).flatten)) else none := rfl
theorem gMod_ii (h : j ≠ 0) : gMod (.int i) (.int j) = some (.val (.int (i.fmod j))) := by
  show (if j = 0 then none else some (Sl.val (.int (i.fmod j)))) = _
  rw [if_neg h]
theorem gDiv_ii (h0 : 0 < j) (h : j < 1073741824) : gDiv (.int i) (.int j) = some (.val (.int (i / j))) := by
  show (if CDivN i j then some (Sl.val (.int (i.fdiv j))) else if CDivW i j then some (.val (.int (i / j))) else none) = _
  rw [if_pos ⟨by omega, by omega⟩, Int.fdiv_eq_ediv_of_nonneg _ (by omega)]
theorem gLt_ii : gLt (.int i) (.int j) = some (.val (.bl (decide (i < j)))) := rfl
theorem gLt_ss : gLt (.str x) (.str y) = some (.val (.bl (decide (x.cps.toList < y.cps.toList)))) := rfl
theorem gLe_ii : gLe (.int i) (.int j) = some (.val (.bl (decide (i ≤ j)))) := rfl
theorem gLe_ss : gLe (.str x) (.str y) = some (.val (.bl (!decide (y.cps.toList < x.cps.toList)))) := rfl
theorem gGt_ii : gGt (.int i) (.int j) = some (.val (.bl (decide (i > j)))) := rfl
theorem gGe_ii : gGe (.int i) (.int j) = some (.val (.bl (decide (i ≥ j)))) := rfl
theorem gIxS_own : gIxS (some (.own (.lst xs))) (.int i) = (atI xs i).map Sl.val := rfl
theorem gIxS_val {e : Dt} : gIxS (some (.val d)) e = gIx d e := by cases e <;> rfl
theorem gIx_l : gIx (.lst xs) (.int i) = (atI xs i).map Sl.val := rfl
theorem gIx_r : gIx (.rol xs) (.int i) = (atI xs i).map Sl.val := rfl
theorem gIx_t : gIx (.tup xs) (.int i) = (atI xs i).map Sl.val := rfl
theorem gIx_s : gIx (.str x) (.int i) = if small x.length then (atI x.cps.toList i).map fun c => .val (.str ⟨#[c]⟩) else none := rfl
theorem seqOf_l : seqOf (.lst xs) = some xs := rfl
theorem seqOf_r : seqOf (.rol xs) = some xs := rfl
theorem seqOf_t : seqOf (.tup xs) = some xs := rfl
theorem seqU_l : seqU (.lst xs) = some xs := rfl
theorem seqU_r : seqU (.rol xs) = some xs := rfl
theorem seqU_t : seqU (.tup xs) = some xs := rfl
theorem gLen_l : gLen [.lst xs] = some (.val (.int xs.length)) := rfl
theorem gLen_r : gLen [.rol xs] = some (.val (.int xs.length)) := rfl
theorem gLen_t : gLen [.tup xs] = some (.val (.int xs.length)) := rfl
theorem gLen_s : gLen [.str x] = if small x.length then some (.val (.int x.length)) else none := rfl
theorem unOk_val : unOk (some (.val d)) = some (.val d) := rfl
theorem unOk_own : unOk (some (.own o)) = some (.own o) := rfl
theorem unOk_none : unOk none = none := rfl
theorem toB_bl {b : Bool} : toB (.bl b) = some b := rfl
theorem slB_bl {b : Bool} : slB (.val (.bl b)) = some b := rfl
theorem isOL_own : isOL (some (.own (.lst xs))) = true := rfl
theorem isOw_own : isOw (some (.own o)) = true := rfl
theorem isSeen_own : isSeen (some (.own (.lst xs))) = true := rfl
theorem isSeen_val : isSeen (some (.val d)) = true := rfl
theorem dt_lst : (Od.lst xs).dt = .lst xs := rfl
theorem rg1_int : rg1 [.int i] = if inRg i then some (rangeD 0 i.toNat) else none := rfl
theorem rg2_int : rg2 [.int i, .int j] = if inRg i && inRg j then some (rangeD i (j - i).toNat) else none := rfl
theorem inRg_of (h1 : -4611686018427387904 ≤ i) (h2 : i < 4611686018427387904) : inRg i = true := by
  unfold inRg
  have a : decide (-(2 ^ 62) ≤ i) = true := decide_eq_true (by omega)
  have b : decide (i < 2 ^ 62) = true := decide_eq_true (by omega)
  rw [a, b]; rfl
theorem small_nat {n : Nat} (h : n < 1000000) : small n = true := decide_eq_true h
theorem small_lit : small (no_index (OfNat.ofNat 0)) = true := by decide
theorem gPow_ii (h0 : 0 ≤ j) (h1 : j ≤ 1000000) (h2 : i.natAbs < 18446744073709551616) : gPow (.int i) (.int j) = some (.val (.int (i ^ j.toNat))) := by
  show (if CPow i j then some (Sl.val (.int (i ^ j.toNat))) else none) = _
  rw [if_pos ⟨h0, h1, by omega⟩]
end
theorem ixN_lit {m n : Nat} : ixN n (no_index (OfNat.ofNat m) : Int) = if m < n then some m else none := by
  show ixN n ((m : Nat) : Int) = _
  unfold ixN
  by_cases h : m < n
  · simp [h]
  · simp [h]
theorem ixN_at {m n : Nat} : ixN n (m : Int) = if m < n then some m else none := ixN_lit
/-- a list drawn number by number off a tape: what holds between the draws -/
def JD (k : Int) (mk : Int → List Sl) (j : Nat) (acc : List Dt) (ρ : List Sl) : Prop := ∃ (m : Int) (cs : List Int), acc = cs.map Dt.int ∧ cs.length = j ∧ (∀ c ∈ cs, 0 ≤ c ∧ c < k) ∧ ρ = mk m
theorem JD.zero {k : Int} {mk : Int → List Sl} (m : Int) : JD k mk 0 [] (mk m) := ⟨m, [], rfl, rfl, (fun _ h => nomatch h), rfl⟩
theorem JD.step {k : Int} {mk : Int → List Sl} {j : Nat} {cs : List Int} {m m' : Int} (hk : 0 < k) (hl : cs.length = j) (hb : ∀ c ∈ cs, 0 ≤ c ∧ c < k) : JD k mk (j + 1) (cs.map Dt.int ++ [.int (m % k)]) (mk m') :=
  ⟨m', cs ++ [m % k], by simp, by simp [hl], fun c hc => by
    rcases List.mem_append.mp hc with h | h
    · exact hb c h
    · simp only [List.mem_singleton] at h
      subst h
      exact ⟨Int.emod_nonneg _ (by omega), Int.emod_lt_of_pos _ hk⟩, rfl⟩
end DL

end
section
set_option Elab.async false
set_option linter.all false
set_option maxRecDepth 100000
set_option maxHeartbeats 4000000
/-! R3: runs: slices, dicts, fields, instances, exceptions, comprehensions that map. -/
namespace DL
open PySem PySem.Spec L2
section
variable {α β : Type} {ρ ρ1 : List Sl} {C : Addr} {ns : List Str} {ds : List Dt}
variable {Q : Po Sl} {QS : Po So} {QB : Po Bool} {QL : Po (List Dt)} {QA : Po (List Ar)}
theorem run_fPart {f : M Sl} {QI : Po (Option Int)} : Run (fPart f) ρ QI = Run (mB (vl f) fun d => mO ((toI d).map some)) ρ QI := rfl
theorem run_fSl {g : Dt → Option Int → Option Int → Option Sl} {f : M Sl} {fl fh : M (Option Int)} : Run (fSl g f fl fh) ρ Q = Run (mB (vl f) fun d => mB fl fun lo => mB fh fun hi => mO (unOk (g d lo hi))) ρ Q := rfl
def revM (d : Dt) : M Sl := match d with
  | .lst ds => mP (.own (.lst ds.reverse))
  | .rol ds => mP (.own (.lst ds.reverse))
  | _ => fun _ => none
theorem revM_l {xs : List Dt} : revM (.lst xs) = mP (.own (.lst xs.reverse)) := rfl
theorem run_fRevL {f : M Sl} : Run (fRevL f) ρ Q = Run (mB (vl f) revM) ρ Q := rfl
def lmM (g : Dt → List Dt → Option Sl) (fa : M (List Dt)) (d : Dt) : M Sl := match d with
  | .lst z => mB fa fun es => mO (unOk (g (.lst z) es))
  | .rol z => mB fa fun es => mO (unOk (g (.rol z) es))
  | _ => fun _ => none
theorem lmM_l {g : Dt → List Dt → Option Sl} {fa : M (List Dt)} {z : List Dt} : lmM g fa (.lst z) = mB fa fun es => mO (unOk (g (.lst z) es)) := rfl
theorem run_fLM {g : Dt → List Dt → Option Sl} {fo : M Sl} {fa : M (List Dt)} : Run (fLM g fo fa) ρ Q = Run (mB (vl fo) (lmM g fa)) ρ Q := rfl
def m1M (g : Dt → List Dt → Option Sl) (fe : M Sl) (d : Dt) : M Sl := match d with
  | .str z => mB (vl fe) fun e => mO (unOk (g (.str z) [e]))
  | _ => fun _ => none
theorem m1M_s {g : Dt → List Dt → Option Sl} {fe : M Sl} {z : Str} : m1M g fe (.str z) = mB (vl fe) fun e => mO (unOk (g (.str z) [e])) := rfl
theorem run_fM1 {g : Dt → List Dt → Option Sl} {fo fe : M Sl} : Run (fM1 g fo fe) ρ Q = Run (mB (vl fo) (m1M g fe)) ρ Q := rfl
theorem run_fDGet {fd fy : M Sl} : Run (fDGet fd fy) ρ Q = Run (mB (vl fd) fun d => mB (vl fy) fun y => mO ((gDGet d y).map Sl.val)) ρ Q := rfl
def dinV (neg : Bool) (b : Bool) : Sl := .val (.bl (if neg then !b else b))
theorem run_fDIn {neg : Bool} {fy fd : M Sl} : Run (fDIn neg fy fd) ρ Q = Run (mB (vl fy) fun y => mB (vl fd) fun d => mO ((gDIn d y).map (dinV neg))) ρ Q := rfl
theorem run_fLenSet {f : M Sl} : Run (fLenSet f) ρ Q = Run (mB (vl f) fun d => mO (gLenSet d)) ρ Q := rfl
open Classical in
noncomputable def fldO (K : Fg) (f : Str) (d : Dt) : Option Sl := match d with
  | .obj C ns ds => if Cls K C ∧ NoAttr K C f then (lookD ns ds f).map Sl.val else none
  | .exn C ns ds => if XfC K C ∧ PySem.W.findIn K (.ref C) f = some none then (lookD ns ds f).map Sl.val else none
  | _ => none
theorem run_fFldU {K : Fg} {f : Str} {fa : M Sl} : Run (fFldU K f fa) ρ Q = Run (mB (vl fa) fun d => mO (fldO K f d)) ρ Q := by
  have e : fFldU K f fa = mB (vl fa) fun d => mO (fldO K f d) := by
    unfold fFldU
    congr 1
    funext d
    cases d <;> rfl
  rw [e]
open Classical in
theorem fldO_obj {K : Fg} {f : Str} (h1 : Cls K C) (h2 : NoAttr K C f) : fldO K f (.obj C ns ds) = (lookD ns ds f).map Sl.val := by
  show (if Cls K C ∧ NoAttr K C f then _ else none) = _
  rw [if_pos ⟨h1, h2⟩]
open Classical in
theorem fldO_exn {K : Fg} {f : Str} (h1 : XfC K C) (h2 : PySem.W.findIn K (.ref C) f = some none) : fldO K f (.exn C ns ds) = (lookD ns ds f).map Sl.val := by
  show (if XfC K C ∧ PySem.W.findIn K (.ref C) f = some none then _ else none) = _
  rw [if_pos ⟨h1, h2⟩]
/-- a number added to a list's item -/
def augQ2 (i : Nat) (op : Int → Int → Int) (k : Int) (z : Int) (Q : Po So) : Po Dt
  | .ok y, ρ => match y, ρ[i]? with
    | .int w, some (.own (.lst ys)) => match ixN ys.length k with
      | some j => Q (.ok .nx) (ρ.set i (.own (.lst (ys.set j (.int (op z w))))))
      | none => False
    | _, _ => False
  | .ex C ns ds, ρ => Q (.ex C ns ds) ρ
def augQ1 (x : Option Dt) (i : Nat) (fe : M Sl) (op : Int → Int → Int) (k : Int) (Q : Po So) (ρ : List Sl) : Prop := match x with
  | some (.int z) => Run (vl fe) ρ (augQ2 i op k z Q)
  | _ => False
def augK (i : Nat) (fe : M Sl) (op : Int → Int → Int) (Q : Po So) : Po Dt
  | .ok ix, ρ => match ix, ρ[i]? with
    | .int k, some (.own (.lst xs)) => augQ1 (atI xs k) i fe op k Q ρ
    | _, _ => False
  | .ex C ns ds, ρ => Q (.ex C ns ds) ρ
theorem run_fAugL {i : Nat} {fi fe : M Sl} {op : Int → Int → Int} : Run (fAugL i fi fe op) ρ QS = bQ (isOL ρ[i]?) (Run (vl fi) ρ (augK i fe op QS)) := by
  cases q : ρ[i]? with
  | none => rw [show isOL none = false from rfl, bQ_false]; exact Run.no (by unfold fAugL; rw [q])
  | some s => cases s with
    | un => rw [show isOL (some .un) = false from rfl, bQ_false]; exact Run.no (by unfold fAugL; rw [q])
    | val d => rw [show isOL (some (.val d)) = false from rfl, bQ_false]; exact Run.no (by unfold fAugL; rw [q])
    | own o => cases o with
      | dct _ _ => rw [show isOL (some (.own (.dct _ _))) = false from rfl, bQ_false]; exact Run.no (by unfold fAugL; rw [q])
      | ins _ _ _ => rw [show isOL (some (.own (.ins _ _ _))) = false from rfl, bQ_false]; exact Run.no (by unfold fAugL; rw [q])
      | lst xs0 =>
        rw [show isOL (some (.own (.lst xs0))) = true from rfl, bQ_true]
        have e1 : Run (fAugL i fi fe op) ρ QS = Run (mB (vl fi) (fun ix ρ1 => match ix, ρ1[i]? with
          | .int k, some (.own (.lst xs)) => match atI xs k with
            | some (.int z) => mB (vl fe) (fun y ρ2 => match y, ρ2[i]? with
              | .int w, some (.own (.lst ys)) => match ixN ys.length k with
                | some j => some (.ok .nx, ρ2.set i (.own (.lst (ys.set j (.int (op z w))))))
                | none => none
              | _, _ => none) ρ1
            | _ => none
          | _, _ => none)) ρ QS := by
          unfold Run fAugL
          simp only [q]
          all_goals rfl
        rw [e1]
        refine run_two (fun ix ρ2 => ?_) fun _ _ _ _ => rfl
        cases ix with
        | int k =>
          show _ = (match (Dt.int k), ρ2[i]? with
            | .int k, some (.own (.lst xs)) => augQ1 (atI xs k) i fe op k QS ρ2
            | _, _ => False)
          cases q2 : ρ2[i]? with
          | none => exact Run.no (by simp [q2])
          | some s => cases s with
            | un => exact Run.no (by simp [q2])
            | val d => exact Run.no (by simp [q2])
            | own o => cases o with
              | dct _ _ => exact Run.no (by simp [q2])
              | ins _ _ _ => exact Run.no (by simp [q2])
              | lst xs =>
                show _ = augQ1 (atI xs k) i fe op k QS ρ2
                cases q3 : atI xs k with
                | none => exact Run.no (by simp [q2, q3])
                | some x =>
                  cases x with
                  | int z =>
                    have e2 : ∀ Q' : Po So, Run (fun ρ1 => match (Dt.int k), ρ1[i]? with
                      | .int k, some (.own (.lst xs)) => match atI xs k with
                        | some (.int z) => mB (vl fe) (fun y ρ2 => match y, ρ2[i]? with
                          | .int w, some (.own (.lst ys)) => match ixN ys.length k with
                            | some j => some (.ok .nx, ρ2.set i (.own (.lst (ys.set j (.int (op z w))))))
                            | none => none
                          | _, _ => none) ρ1
                        | _ => none
                      | _, _ => none) ρ2 Q' = Run (mB (vl fe) (fun y ρ2 => match y, ρ2[i]? with
                          | .int w, some (.own (.lst ys)) => match ixN ys.length k with
                            | some j => some (.ok .nx, ρ2.set i (.own (.lst (ys.set j (.int (op z w))))))
                            | none => none
                          | _, _ => none)) ρ2 Q' := fun Q' => by
                      unfold Run
                      simp only [q2, q3]
                    refine (e2 QS).trans ?_
                    refine run_two (fun y ρ3 => ?_) fun _ _ _ _ => rfl
                    show _ = (match y, ρ3[i]? with
                      | .int w, some (.own (.lst ys)) => match ixN ys.length k with
                        | some j => QS (.ok .nx) (ρ3.set i (.own (.lst (ys.set j (.int (op z w))))))
                        | none => False
                      | _, _ => False)
                    cases y with
                    | int w =>
                      cases q4 : ρ3[i]? with
                      | none => exact Run.no (by simp [q4])
                      | some s => cases s with
                        | un => exact Run.no (by simp [q4])
                        | val d => exact Run.no (by simp [q4])
                        | own o => cases o with
                          | dct _ _ => exact Run.no (by simp [q4])
                          | ins _ _ _ => exact Run.no (by simp [q4])
                          | lst ys =>
                            dsimp only
                            cases q5 : ixN ys.length k with
                            | none => exact Run.no (by simp [q4, q5])
                            | some j => exact Run.iff (by simp [q4, q5])
                    | _ => exact Run.no rfl
                  | _ => exact Run.no (by simp [q2, q3])
        | _ => exact Run.no rfl
theorem augK_ok {i : Nat} {fe : M Sl} {op : Int → Int → Int} {ix : Dt} : augK i fe op QS (.ok ix) ρ = (match ix, ρ[i]? with
    | .int k, some (.own (.lst xs)) => augQ1 (atI xs k) i fe op k QS ρ
    | _, _ => False) := rfl
theorem augQ1_int {z : Int} {i : Nat} {fe : M Sl} {op : Int → Int → Int} {k : Int} : augQ1 (some (.int z)) i fe op k QS ρ = Run (vl fe) ρ (augQ2 i op k z QS) := rfl
theorem augQ2_ok {i : Nat} {op : Int → Int → Int} {k z : Int} {y : Dt} : augQ2 i op k z QS (.ok y) ρ = (match y, ρ[i]? with
    | .int w, some (.own (.lst ys)) => match ixN ys.length k with
      | some j => QS (.ok .nx) (ρ.set i (.own (.lst (ys.set j (.int (op z w))))))
      | none => False
    | _, _ => False) := rfl
/-- instances -/
def madeQ (r : Rs Sl) (ρ : List Sl) (Q : Po Sl) : Prop := match r, ρ with
  | .ok (.val .non), s :: ρ => Q (.ok s) ρ
  | .ex C ns ds, _ :: ρ => Q (.ex C ns ds) ρ
  | _, _ => False
def madeK (Q : Po Sl) : Po Sl := fun r ρ => madeQ r ρ Q
theorem madeK_ok {s : Sl} : madeK Q (.ok (.val .non)) (s :: ρ) = Q (.ok s) ρ := rfl
theorem madeK_ex {s : Sl} : madeK Q (.ex C ns ds) (s :: ρ) = Q (.ex C ns ds) ρ := rfl
def mkK2 (D : Addr) (n m N : Nat) (gD : List Ar → List Ar → List Ar) (g : M Sl) (as : List Ar) (Q : Po Sl) : Po (List Ar)
  | .ok bs, ρ => bQ (decide (as.length = n) && decide (bs.length = m)) (Run (callD N g [] (gD (.b 0 :: as.map Ar.up) (bs.map Ar.up))) (.own (.ins D [] []) :: ρ) (madeK Q))
  | .ex C ns ds, ρ => Q (.ex C ns ds) ρ
def mkK (D : Addr) (n m N : Nat) (gD : List Ar → List Ar → List Ar) (g : M Sl) (fk : M (List Ar)) (Q : Po Sl) : Po (List Ar)
  | .ok as, ρ => Run fk ρ (mkK2 D n m N gD g as Q)
  | .ex C ns ds, ρ => Q (.ex C ns ds) ρ
theorem mkK_ok {D : Addr} {n m N : Nat} {gD : List Ar → List Ar → List Ar} {g : M Sl} {fk : M (List Ar)} {as : List Ar} : mkK D n m N gD g fk Q (.ok as) ρ = Run fk ρ (mkK2 D n m N gD g as Q) := rfl
theorem mkK2_ok {D : Addr} {n m N : Nat} {gD : List Ar → List Ar → List Ar} {g : M Sl} {as bs : List Ar} : mkK2 D n m N gD g as Q (.ok bs) ρ = bQ (decide (as.length = n) && decide (bs.length = m)) (Run (callD N g [] (gD (.b 0 :: as.map Ar.up) (bs.map Ar.up))) (.own (.ins D [] []) :: ρ) (madeK Q)) := rfl
theorem run_madeM {f : M Sl} {s : Sl} : Run (fun ρ => madeM (f (s :: ρ))) ρ Q = Run f (s :: ρ) (madeK Q) := by
  refine propext ⟨fun ⟨r, ρ', e, h⟩ => ?_, fun ⟨r, ρ', e, h⟩ => ?_⟩
  · dsimp only at e
    unfold madeM at e
    split at e
    · rename_i s1 ρ2 e2; cases e; exact ⟨_, _, e2, h⟩
    · rename_i C ns ds s1 ρ2 e2; cases e; exact ⟨_, _, e2, h⟩
    · cases e
  · unfold madeK madeQ at h
    split at h
    · exact ⟨_, _, by dsimp only; rw [e]; rfl, h⟩
    · exact ⟨_, _, by dsimp only; rw [e]; rfl, h⟩
    · exact h.elim
theorem run_fMk {D : Addr} {n m N : Nat} {gD : List Ar → List Ar → List Ar} {g : M Sl} {fa fk : M (List Ar)} : Run (fMk D n m N gD g fa fk) ρ Q = Run fa ρ (mkK D n m N gD g fk Q) := by
  refine run_two (fun as ρ1 => ?_) fun _ _ _ _ => rfl
  refine run_two (fun bs ρ2 => ?_) fun _ _ _ _ => rfl
  show _ = bQ (decide (as.length = n) && decide (bs.length = m)) (Run (callD N g [] (gD (.b 0 :: as.map Ar.up) (bs.map Ar.up))) (.own (.ins D [] []) :: ρ2) (madeK Q))
  by_cases h : as.length = n ∧ bs.length = m
  · rw [h.1, h.2, decide_eq_true rfl, decide_eq_true rfl, Bool.and_self, bQ_true, ← run_madeM]
    unfold Run
    simp only [h.1, h.2, and_self, if_true]
  · rw [two_false h, bQ_false]
    exact Run.no (by simp only [if_neg h])
open Classical in
noncomputable def sfO (K : Fg) (f : Str) (s : Option Sl) (y : Dt) : Option Sl := match s with
  | some (.own (.ins C ns ds)) => if Cls K C ∧ NoAttr K C f ∧ ns.length < 1000 then some (.own (.ins C (putN ns f) (putD ns ds f y))) else none
  | _ => none
def sfQ (o : Option Sl) (i : Nat) (Q : Po So) (ρ : List Sl) : Prop := match o with
  | some s => Q (.ok .nx) (ρ.set i s)
  | none => False
theorem sfQ_some {s : Sl} {i : Nat} : sfQ (some s) i QS ρ = QS (.ok .nx) (ρ.set i s) := rfl
noncomputable def sfK (K : Fg) (f : Str) (i : Nat) (Q : Po So) : Po Dt
  | .ok y, ρ => sfQ (sfO K f ρ[i]? y) i Q ρ
  | .ex C ns ds, ρ => Q (.ex C ns ds) ρ
theorem sfK_ok {K : Fg} {f : Str} {i : Nat} {y : Dt} : sfK K f i QS (.ok y) ρ = sfQ (sfO K f ρ[i]? y) i QS ρ := rfl
open Classical in
theorem sfO_own {K : Fg} {f : Str} {y : Dt} (h1 : Cls K C) (h2 : NoAttr K C f) (h3 : ns.length < 1000) : sfO K f (some (.own (.ins C ns ds))) y = some (.own (.ins C (putN ns f) (putD ns ds f y))) := by
  show (if Cls K C ∧ NoAttr K C f ∧ ns.length < 1000 then _ else none) = _
  rw [if_pos ⟨h1, h2, h3⟩]
theorem run_fSFld {K : Fg} {f : Str} {i : Nat} {fv : M Sl} : Run (fSFld K f i fv) ρ QS = Run (vl fv) ρ (sfK K f i QS) := by
  refine run_two (fun y ρ1 => ?_) fun _ _ _ _ => rfl
  show _ = sfQ (sfO K f ρ1[i]? y) i QS ρ1
  cases q : ρ1[i]? with
  | none => exact Run.no (by simp [q])
  | some s => cases s with
    | un => exact Run.no (by simp [q])
    | val d => exact Run.no (by simp [q])
    | own o => cases o with
      | lst xs => exact Run.no (by simp [q])
      | dct _ _ => exact Run.no (by simp [q])
      | ins C ns ds =>
        by_cases hc : Cls K C ∧ NoAttr K C f ∧ ns.length < 1000
        · rw [sfO_own hc.1 hc.2.1 hc.2.2]
          exact Run.iff (by simp [q, hc])
        · have e : sfO K f (some (.own (.ins C ns ds))) y = none := if_neg hc
          rw [e]
          exact Run.no (by simp only [q, if_neg hc])
/-- exceptions -/
def okdQ (b : Bool) (P : Prop) : Prop := bQ b P
def xmK (C0 : Addr) (f : Str) (Q : Po XD) : Po Dt
  | .ok d, ρ => bQ (okD d) (Q (.ok (C0, f, d)) ρ)
  | .ex C ns ds, ρ => Q (.ex C ns ds) ρ
theorem xmK_ok {C0 : Addr} {f : Str} {QX : Po XD} {d : Dt} : xmK C0 f QX (.ok d) ρ = bQ (okD d) (QX (.ok (C0, f, d)) ρ) := rfl
theorem run_fXm {C0 : Addr} {f : Str} {fe : M Sl} {QX : Po XD} : Run (fXm C0 f fe) ρ QX = Run (vl fe) ρ (xmK C0 f QX) := by
  refine run_two (fun d ρ1 => ?_) fun _ _ _ _ => rfl
  show _ = bQ (okD d) _
  cases h : okD d
  · rw [bQ_false, if_neg (by simp)]; exact run_none
  · rw [bQ_true, if_pos rfl]; exact run_mP
def rsK (Q : Po So) : Po XD
  | .ok (C, n, d), ρ => Q (.ex C [n] [d]) ρ
  | .ex C ns ds, ρ => Q (.ex C ns ds) ρ
theorem rsK_ok {C0 : Addr} {f : Str} {d : Dt} : rsK QS (.ok (C0, f, d)) ρ = QS (.ex C0 [f] [d]) ρ := rfl
theorem run_fRs {f : M XD} : Run (fRs f) ρ QS = Run f ρ (rsK QS) := by
  refine propext ⟨fun ⟨r, ρ', e, h⟩ => ?_, fun ⟨r, ρ', e, h⟩ => ?_⟩
  · unfold fRs at e
    split at e
    · rename_i C n d ρ1 q; cases e; exact ⟨_, _, q, h⟩
    · rename_i C ns ds ρ1 q; cases e; exact ⟨_, _, q, h⟩
    · cases e
  · cases r with
    | ok x => obtain ⟨C, n, d⟩ := x; exact ⟨_, _, by unfold fRs; rw [e], h⟩
    | ex C ns ds => exact ⟨_, _, by unfold fRs; rw [e], h⟩
def xvK (C0 : Addr) (f : Str) (Q : Po Sl) : Po Dt
  | .ok d, ρ => bQ (okD d) (Q (.ok (.val (.exn C0 [f] [d]))) ρ)
  | .ex C ns ds, ρ => Q (.ex C ns ds) ρ
theorem xvK_ok {C0 : Addr} {f : Str} {d : Dt} : xvK C0 f Q (.ok d) ρ = bQ (okD d) (Q (.ok (.val (.exn C0 [f] [d]))) ρ) := rfl
theorem run_fXval {C0 : Addr} {f : Str} {fe : M Sl} : Run (fXval C0 f fe) ρ Q = Run (vl fe) ρ (xvK C0 f Q) := by
  refine run_two (fun d ρ1 => ?_) fun _ _ _ _ => rfl
  show _ = bQ (okD d) _
  cases h : okD d
  · rw [bQ_false, if_neg (by simp)]; exact run_none
  · rw [bQ_true, if_pos rfl]; exact run_mP
def giveK (K : Fg) (c : Value) (Q : Po So) : Po So
  | .ex C ns ds, ρ => match PySem.W.exmOne K (.ref C) c with
    | some true => Q (.ok (.rt (.val (.exn C ns ds)))) ρ
    | some false => Q (.ex C ns ds) ρ
    | none => False
  | .ok o, ρ => Q (.ok o) ρ
theorem giveK_ok {K : Fg} {c : Value} {o : So} : giveK K c QS (.ok o) ρ = QS (.ok o) ρ := rfl
theorem giveK_ex {K : Fg} {c : Value} (h : PySem.W.exmOne K (.ref C) c = some true) : giveK K c QS (.ex C ns ds) ρ = QS (.ok (.rt (.val (.exn C ns ds)))) ρ := by
  unfold giveK
  simp only [h]
theorem run_fGive {K : Fg} {c : Value} {fb : M So} : Run (fGive K c fb) ρ QS = Run fb ρ (giveK K c QS) := by
  cases q : fb ρ with
  | none => rw [Run.no q]; exact Run.no (by unfold fGive; rw [q])
  | some p =>
    obtain ⟨r, ρ1⟩ := p
    rw [Run.iff q]
    cases r with
    | ok o => exact Run.iff (by unfold fGive; rw [q])
    | ex C ns ds =>
      show _ = (match PySem.W.exmOne K (.ref C) c with
        | some true => QS (.ok (.rt (.val (.exn C ns ds)))) ρ1
        | some false => QS (.ex C ns ds) ρ1
        | none => False)
      cases h : PySem.W.exmOne K (.ref C) c with
      | none => exact Run.no (by unfold fGive; rw [q]; dsimp only; rw [h])
      | some b => cases b with
        | true => exact Run.iff (by unfold fGive; rw [q]; dsimp only; rw [h])
        | false => exact Run.iff (by unfold fGive; rw [q]; dsimp only; rw [h])
/-! comprehensions that map, and that choose -/
def IsM (acc : List Dt) (x : Dt) (ρ : List Sl) (acc' : List Dt) (ρ' : List Sl) : Prop := acc' = acc ++ [x] ∧ ρ' = ρ
theorem runL_map {T : Dt → Up} {t : M Bool} {e : M Sl} {vs : List Nat} {ds : List Dt} (g : Nat → Dt) (hz : ds.length < 1000000)
    (st : ∀ j d acc, ds[j]? = some d → acc.length < 1000000 → upQ (T d (wipeR ρ vs)) t (lstepK e acc vs (IsM acc (g j) ρ))) (h : Q (.ok (.own (.lst ((List.range ds.length).map g)))) ρ) : RunL T t e vs ds [] ρ Q := by
  refine runL_inv (fun j acc ρ' => j ≤ ds.length ∧ acc = (List.range j).map g ∧ ρ' = ρ) ⟨Nat.zero_le _, rfl, rfl⟩ ?_ ?_
  · rintro j d acc ρ' hd ⟨hj, rfl, rfl⟩
    have hl : j < ds.length := by
      rcases Nat.lt_or_ge j ds.length with q | q
      · exact q
      · rw [List.getElem?_eq_none q] at hd; cases hd
    have s := st j d ((List.range j).map g) hd (by simp; omega)
    have e1 : (fun acc' ρ'' => j + 1 ≤ ds.length ∧ acc' = (List.range (j + 1)).map g ∧ ρ'' = ρ') = IsM ((List.range j).map g) (g j) ρ' := by
      funext acc' ρ''
      unfold IsM
      rw [List.range_succ, List.map_append]
      exact propext ⟨fun q => q.2, fun q => ⟨hl, q⟩⟩
    rw [e1]
    exact s
  · rintro acc ρ' ⟨_, rfl, rfl⟩
    exact h
def IsF (acc : List Dt) (b : Bool) (x : Dt) (ρ : List Sl) (acc' : List Dt) (ρ' : List Sl) : Prop := acc' = (if b then acc ++ [x] else acc) ∧ ρ' = ρ
theorem runL_fil {T : Dt → Up} {t : M Bool} {e : M Sl} {vs : List Nat} {ds : List Dt} (p : Nat → Bool) (g : Nat → Dt) (hz : ds.length < 1000000)
    (st : ∀ j d acc, ds[j]? = some d → acc.length < 1000000 → upQ (T d (wipeR ρ vs)) t (lstepK e acc vs (IsF acc (p j) (g j) ρ))) (h : Q (.ok (.own (.lst (((List.range ds.length).filter p).map g)))) ρ) : RunL T t e vs ds [] ρ Q := by
  refine runL_inv (fun j acc ρ' => j ≤ ds.length ∧ acc = ((List.range j).filter p).map g ∧ ρ' = ρ) ⟨Nat.zero_le _, rfl, rfl⟩ ?_ ?_
  · rintro j d acc ρ' hd ⟨hj, rfl, rfl⟩
    have hl : j < ds.length := by
      rcases Nat.lt_or_ge j ds.length with q | q
      · exact q
      · rw [List.getElem?_eq_none q] at hd; cases hd
    have s := st j d (((List.range j).filter p).map g) hd (by
      have := List.length_filter_le p (List.range j)
      simp at this ⊢
      omega)
    have e1 : (fun acc' ρ'' => j + 1 ≤ ds.length ∧ acc' = ((List.range (j + 1)).filter p).map g ∧ ρ'' = ρ') = IsF (((List.range j).filter p).map g) (p j) (g j) ρ' := by
      funext acc' ρ''
      unfold IsF
      rw [List.range_succ, List.filter_append, List.map_append]
      cases hp : p j
      · simp [hp]
        exact fun _ _ => hl
      · simp [hp]
        exact fun _ _ => hl
    rw [e1]
    exact s
  · rintro acc ρ' ⟨_, rfl, rfl⟩
    exact h
theorem gMul2_ii {i j : Int} (h : okMul i j = true) : gMul2 (.int i) (.int j) = some (.val (.int (i * j))) := gMul2_of (gMul_ii h)
theorem gMul2_s {z : Str} {k : Int} (h0 : 0 ≤ k) (h1 : k ≤ 1000) (h2 : z.length ≤ 1000) : gMul2 (.str z) (.int k) = some (.val (.str (repS k.toNat z))) := by
  show (if decide (0 ≤ k) && decide (k ≤ 1000) && decide (z.length ≤ 1000) then _ else none) = _
  rw [decide_eq_true h0, decide_eq_true h1, decide_eq_true h2]; rfl
theorem gMul2_li {xs : List Dt} {i : Int} (h : inRg i = true) (h2 : small (xs.length * i.toNat) = true) : gMul2 (.lst xs) (.int i) = some (.own (.lst (List.replicate i.toNat xs).flatten)) := by
  refine gMul2_of ?_
  rw [gMul_li, h, h2]; rfl
theorem gNeg_int {i : Int} : gNeg (.int i) = some (.val (.int (-i))) := rfl
theorem toI_int {i : Int} : toI (.int i) = some i := rfl
theorem enumD_get' {es : List Dt} {j : Nat} {d : Dt} (h : (enumD es)[j]? = some d) : ∃ x, es[j]? = some x ∧ d = .tup [.int j, x] := by
  rw [enumD_get, Option.map_eq_some_iff] at h
  obtain ⟨x, h1, rfl⟩ := h
  exact ⟨x, h1, rfl⟩
theorem enumD_len {es : List Dt} : (enumD es).length = es.length := by simp [enumD]
theorem en2_l {xs : List Dt} : en2 [.lst xs] = some (enumD xs) := rfl
theorem en2_t {xs : List Dt} : en2 [.tup xs] = some (enumD xs) := rfl
theorem gSl_l {xs : List Dt} {lo hi : Option Int} : gSl (.lst xs) lo hi = some (.own (.lst (cutD xs lo hi))) := rfl
theorem gSl_t {xs : List Dt} {lo hi : Option Int} : gSl (.tup xs) lo hi = some (.val (.tup (cutD xs lo hi))) := rfl
theorem gTupleOf_l {xs : List Dt} : gTupleOf [.lst xs] = some (.val (.tup xs)) := rfl
theorem gTupleOf_t {xs : List Dt} : gTupleOf [.tup xs] = some (.val (.tup xs)) := rfl
theorem gListOf_l {xs : List Dt} : gListOf [.lst xs] = some (.own (.lst xs)) := rfl
theorem gListOf_t {xs : List Dt} : gListOf [.tup xs] = some (.own (.lst xs)) := rfl
theorem flVs_strs : ∀ (as : List Str), flVs (as.map Dt.str) = some (as.map V.str)
  | [] => rfl
  | a :: as => by simp only [List.map_cons, flVs, flV, flVs_strs as]
theorem gIn_strs {w : Str} {as : List Str} : gIn (.str w) (.lst (as.map Dt.str)) = some (.val (.bl (inV (.str w) (as.map V.str)))) := by
  unfold gIn inB
  simp only [flV, seqOf, flVs_strs, Option.map_some]
theorem zp1_ll {xs ys : List Dt} : zp1 [.lst xs, .lst ys] = some (zipD xs ys) := rfl
theorem zp1_tt {xs ys : List Dt} : zp1 [.tup xs, .tup ys] = some (zipD xs ys) := rfl
end
end DL

end
section
set_option Elab.async false
set_option linter.all false
set_option maxRecDepth 100000
set_option maxHeartbeats 4000000
/-! R4: runs: dicts made, two fors, sets of texts, places in lists. -/
namespace DL
open PySem PySem.Spec L2
section
variable {α β : Type} {ρ ρ1 : List Sl} {C : Addr} {ns : List Str} {ds : List Dt}
variable {Q : Po Sl} {QS : Po So} {QB : Po Bool} {QL : Po (List Dt)}
def RunD (T : Dt → Up) (t : M Bool) (ek ev : M Sl) (vs : List Nat) (ds : List Dt) (acc : List Key × List Dt) (ρ : List Sl) (Q : Po Sl) : Prop := ∃ acc' ρ', dcM T t ek ev vs ds acc ρ = some (acc', ρ') ∧ Q (.ok (.own (.dct acc'.1 acc'.2))) ρ'
def dcK (T : Dt → Up) (t : M Bool) (ek ev : M Sl) (vs : List Nat) (Q : Po Sl) : Po (List Dt)
  | .ok ds, ρ => RunD T t ek ev vs ds ([], []) (wipeR ρ vs) Q
  | .ex C ns ds, ρ => Q (.ex C ns ds) ρ
theorem dcK_ok {T : Dt → Up} {t : M Bool} {ek ev : M Sl} {vs : List Nat} {es : List Dt} : dcK T t ek ev vs Q (.ok es) ρ = RunD T t ek ev vs es ([], []) (wipeR ρ vs) Q := rfl
theorem run_fDc {fi : M (List Dt)} {T : Dt → Up} {t : M Bool} {ek ev : M Sl} {vs : List Nat} : Run (fDc fi T t ek ev vs) ρ Q = Run fi ρ (dcK T t ek ev vs Q) := by
  refine run_two (fun ds ρ1 => ?_) fun _ _ _ _ => rfl
  show _ = RunD T t ek ev vs ds ([], []) (wipeR ρ1 vs) Q
  refine propext ⟨fun ⟨r, ρ', e, h⟩ => ?_, fun ⟨acc, ρ', e, h⟩ => ⟨.ok (.own (.dct acc.1 acc.2)), ρ', by simp only [e], h⟩⟩
  dsimp only at e
  split at e
  · rename_i acc ρ2 q
    cases e
    exact ⟨acc, _, q, h⟩
  · cases e
def dvalK (y : Dt) (ρ : List Sl) (vs : List Nat) : Po Dt
  | .ok z, ρ' => z = y ∧ wipeR ρ' vs = ρ
  | .ex _ _ _, _ => False
def dkeyK (ev : M Sl) (x y : Dt) (ρ : List Sl) (vs : List Nat) : Po Dt
  | .ok z, ρ' => z = x ∧ Run (vl ev) ρ' (dvalK y ρ vs)
  | .ex _ _ _, _ => False
def dstepK (ek ev : M Sl) (x y : Dt) (ρ : List Sl) (vs : List Nat) : Po Bool
  | .ok b, ρ' => bQ b (Run (vl ek) ρ' (dkeyK ev x y ρ vs))
  | .ex _ _ _, _ => False
theorem dvalK_ok {y z : Dt} {vs : List Nat} : dvalK y ρ vs (.ok z) ρ1 = (z = y ∧ wipeR ρ1 vs = ρ) := rfl
theorem dkeyK_ok {ev : M Sl} {x y z : Dt} {vs : List Nat} : dkeyK ev x y ρ vs (.ok z) ρ1 = (z = x ∧ Run (vl ev) ρ1 (dvalK y ρ vs)) := rfl
theorem dstepK_ok {ek ev : M Sl} {x y : Dt} {vs : List Nat} {b : Bool} : dstepK ek ev x y ρ vs (.ok b) ρ1 = bQ b (Run (vl ek) ρ1 (dkeyK ev x y ρ vs)) := rfl
theorem inKs_not {ks : List Key} {k : Key} (h : k ∉ ks) : inKs ks k = false := by
  unfold inKs
  rw [List.any_eq_false]
  intro x hx
  have : x ≠ k := fun e => h (e ▸ hx)
  simp [this]
theorem runD_mapI {T : Dt → Up} {t : M Bool} {ek ev : M Sl} {vs : List Nat} (w : Nat → Str) (g : Nat → Dt) : ∀ (ds : List Dt) (i : Nat), i + ds.length < 1000000 → (∀ a b, a < b → b < i + ds.length → w a ≠ w b) →
    (∀ j d, ds[j]? = some d → upQ (T d (wipeR ρ vs)) t (dstepK ek ev (.str (w (i + j))) (g (i + j)) ρ vs)) →
    dcM T t ek ev vs ds ((List.range i).map (fun j => Sum.inr (w j)), (List.range i).map g) ρ = some (((List.range (i + ds.length)).map (fun j => Sum.inr (w j)), (List.range (i + ds.length)).map g), ρ)
  | [], i, _, _, _ => by unfold dcM; rfl
  | d :: ds, i, hz, hd, st => by
    have s0 := st 0 d rfl
    have ih := runD_mapI w g ds (i + 1) (by simp only [List.length_cons] at hz; omega) (fun a b h1 h2 => hd a b h1 (by simp only [List.length_cons]; omega)) fun j d' e => by
      have := st (j + 1) d' (by simpa using e)
      rw [show i + (j + 1) = i + 1 + j by omega] at this
      exact this
    rw [dcM]
    cases q1 : T d (wipeR ρ vs) with
    | none => rw [q1] at s0; exact s0.elim
    | some ρ1 =>
      rw [q1, upQ_some] at s0
      obtain ⟨r, ρ2, e2, h2⟩ := s0
      cases r with
      | ex C ns ds => exact h2.elim
      | ok b =>
        obtain ⟨hb, r3, ρ3, e3, h3⟩ := h2
        subst hb
        cases r3 with
        | ex C ns ds => exact h3.elim
        | ok x =>
          obtain ⟨hx, r4, ρ4, e4, h4⟩ := h3
          subst hx
          cases r4 with
          | ex C ns ds => exact h4.elim
          | ok y =>
            obtain ⟨hy, hw⟩ := h4
            subst hy
            have hk : (Sum.inr (w (i + 0)) : Key) ∉ (List.range i).map (fun j => (Sum.inr (w j) : Key)) := fun hm => by
              obtain ⟨a, ha, e⟩ := List.mem_map.mp hm
              have := List.mem_range.mp ha
              exact hd a (i + 0) (by omega) (by simp only [List.length_cons]; omega) (Sum.inr.inj e)
            simp only [e2, e3, e4, keyD]
            rw [if_pos (small_nat (by simp only [List.length_map, List.length_range]; omega)), hw]
            unfold putKs putDs
            rw [inKs_not hk]
            simp only [Bool.false_eq_true, if_false]
            rw [show i + (d :: ds).length = i + 1 + ds.length by simp only [List.length_cons]; omega]
            rw [← ih, List.range_succ, List.map_append, List.map_append]
            rfl
theorem runD_map {T : Dt → Up} {t : M Bool} {ek ev : M Sl} {vs : List Nat} {ds : List Dt} (w : Nat → Str) (g : Nat → Dt) (hz : ds.length < 1000000) (hd : ∀ a b, a < b → b < ds.length → w a ≠ w b)
    (st : ∀ j d, ds[j]? = some d → upQ (T d (wipeR ρ vs)) t (dstepK ek ev (.str (w j)) (g j) ρ vs)) (h : Q (.ok (.own (.dct ((List.range ds.length).map (fun j => Sum.inr (w j))) ((List.range ds.length).map g)))) ρ) : RunD T t ek ev vs ds ([], []) ρ Q := by
  have e := runD_mapI (ρ := ρ) w g ds 0 (by omega) (fun a b h1 h2 => hd a b h1 (by omega)) fun j d e => by rw [Nat.zero_add]; exact st j d e
  rw [Nat.zero_add] at e
  exact ⟨_, _, e, h⟩
end
/-! on data -/
theorem blsOf_map (p : Nat → Bool) : ∀ l : List Nat, blsOf (l.map fun i => .bl (p i)) = some (l.map p)
  | [] => rfl
  | i :: l => by simp only [List.map_cons, blsOf, blsOf_map p l, Option.map_some]
theorem gAll_map {n : Nat} {p : Nat → Bool} : gAll [.lst ((List.range n).map fun i => .bl (p i))] = some (.val (.bl ((List.range n).all p))) := by
  show (blsOf ((List.range n).map fun i => .bl (p i))).map _ = _
  rw [blsOf_map]
  simp [List.all_map]
theorem gAll_true {n : Nat} : gAll [.lst ((List.range n).map fun _ => .bl true)] = some (.val (.bl true)) := by
  rw [gAll_map (p := fun _ => true)]
  have : (List.range n).all (fun _ => true) = true := List.all_eq_true.mpr fun _ _ => rfl
  rw [this]
theorem once_nodup : ∀ (xs acc : List Str), (acc ++ xs).Nodup → once acc xs = acc ++ xs
  | [], acc, _ => by simp [once]
  | x :: xs, acc, h => by
    have h1 : acc.any (· == x) = false := by
      rw [List.any_eq_false]
      intro y hy
      have : y ≠ x := by
        rintro rfl
        have := (List.nodup_append.mp h).2.2 y hy y (List.mem_cons_self ..)
        exact this rfl
      simpa using this
    unfold once
    rw [h1]
    simp only [Bool.false_eq_true, if_false]
    rw [once_nodup xs (acc ++ [x]) (by simpa using h)]
    simp
theorem kindsOf_nodup {xs : List Str} (h : xs.Nodup) : kindsOf xs = xs.length := by
  unfold kindsOf onceN
  rw [List.take_length, once_nodup xs [] (by simpa using h)]
  rfl
theorem strsOf_map : ∀ (xs : List Str), strsOf (xs.map Dt.str) = some xs
  | [] => rfl
  | x :: xs => by simp only [List.map_cons, strsOf, strsOf_map xs, Option.map_some]
theorem gLenSet_nodup {d : Dt} {xs : List Str} (h0 : seqOf d = some (xs.map Dt.str)) (h : xs.Nodup) (hz : xs.length < 4000) : gLenSet d = some (.val (.int xs.length)) := by
  unfold gLenSet
  rw [h0]
  simp only [strsOf_map, decide_eq_true hz, if_true, kindsOf_nodup h]
theorem getD2_at : ∀ (ks : List Str) (es : List Dt) (i : Nat) (k : Str) (d : Dt), ks.Nodup → ks[i]? = some k → es[i]? = some d → getD2 (ks.map Sum.inr) es (Sum.inr k) = some d
  | [], es, i, k, d, _, h, _ => by simp at h
  | a :: ks, [], i, k, d, _, _, h => by simp at h
  | a :: ks, e :: es, 0, k, d, _, h1, h2 => by
    simp at h1 h2
    subst h1 h2
    simp [getD2]
  | a :: ks, e :: es, i + 1, k, d, hn, h1, h2 => by
    have h1' : ks[i]? = some k := by simpa using h1
    have h2' : es[i]? = some d := by simpa using h2
    have hne : a ≠ k := by
      rintro rfl
      exact (List.nodup_cons.mp hn).1 (List.mem_of_getElem? h1')
    have : (Sum.inr a : Key) ≠ Sum.inr k := fun z => hne (Sum.inr.inj z)
    show (if (Sum.inr a : Key) = Sum.inr k then some e else getD2 (ks.map Sum.inr) es (Sum.inr k)) = _
    rw [if_neg this]
    exact getD2_at ks es i k d (List.nodup_cons.mp hn).2 h1' h2'
end DL

end
section
set_option Elab.async false
set_option linter.all false
set_option maxRecDepth 100000
set_option maxHeartbeats 4000000
/-! R5: runs: comprehensions of two fors. -/
namespace DL
open PySem PySem.Spec L2
section
variable {ρ ρ1 : List Sl} {C : Addr} {ns : List Str} {ds : List Dt} {Q : Po Sl}
variable {T T1 : Dt → Up} {t t1 : M Bool} {fi1 : M (List Dt)} {e : M Sl} {vs vs1 : List Nat}
def RunL2 (T : Dt → Up) (t : M Bool) (fi1 : M (List Dt)) (T1 : Dt → Up) (t1 : M Bool) (e : M Sl) (vs vs1 : List Nat) (ds acc : List Dt) (ρ : List Sl) (Q : Po Sl) : Prop := ∃ acc' ρ', lc2M T t fi1 T1 t1 e vs vs1 ds acc ρ = some (acc', ρ') ∧ Q (.ok (.own (.lst acc'))) ρ'
def lc2K (T : Dt → Up) (t : M Bool) (fi1 : M (List Dt)) (T1 : Dt → Up) (t1 : M Bool) (e : M Sl) (vs vs1 : List Nat) (Q : Po Sl) : Po (List Dt)
  | .ok ds, ρ => RunL2 T t fi1 T1 t1 e vs vs1 ds [] (wipeR ρ vs) Q
  | .ex C ns ds, ρ => Q (.ex C ns ds) ρ
theorem lc2K_ok {es : List Dt} : lc2K T t fi1 T1 t1 e vs vs1 Q (.ok es) ρ = RunL2 T t fi1 T1 t1 e vs vs1 es [] (wipeR ρ vs) Q := rfl
theorem run_fLc2 {fi : M (List Dt)} : Run (fLc2 fi T t fi1 T1 t1 e vs vs1) ρ Q = Run fi ρ (lc2K T t fi1 T1 t1 e vs vs1 Q) := by
  refine run_two (fun ds ρ1 => ?_) fun _ _ _ _ => rfl
  show _ = RunL2 T t fi1 T1 t1 e vs vs1 ds [] (wipeR ρ1 vs) Q
  refine propext ⟨fun ⟨r, ρ', e, h⟩ => ?_, fun ⟨acc, ρ', e, h⟩ => ⟨.ok (.own (.lst acc)), ρ', by simp only [e], h⟩⟩
  dsimp only at e
  split at e
  · rename_i acc ρ2 q
    cases e
    exact ⟨acc, _, q, h⟩
  · cases e
/-- behind the inner for -/
def innK (es : List Dt) (ρ : List Sl) (vs : List Nat) : Po Sl
  | .ok (.own (.lst a)), ρ' => a = es ∧ wipeR ρ' vs = ρ
  | _, _ => False
theorem innK_ok {es a : List Dt} : innK es ρ vs (.ok (.own (.lst a))) ρ1 = (a = es ∧ wipeR ρ1 vs = ρ) := rfl
def inn1K (T1 : Dt → Up) (t1 : M Bool) (e : M Sl) (vs vs1 : List Nat) (acc es : List Dt) (ρ : List Sl) : Po (List Dt)
  | .ok xs, ρ' => RunL T1 t1 e vs1 xs acc (wipeR ρ' vs1) (innK es ρ vs)
  | .ex _ _ _, _ => False
theorem inn1K_ok {acc es xs : List Dt} : inn1K T1 t1 e vs vs1 acc es ρ (.ok xs) ρ1 = RunL T1 t1 e vs1 xs acc (wipeR ρ1 vs1) (innK es ρ vs) := rfl
def inn2K (fi1 : M (List Dt)) (T1 : Dt → Up) (t1 : M Bool) (e : M Sl) (vs vs1 : List Nat) (acc es : List Dt) (ρ : List Sl) : Po Bool
  | .ok b, ρ' => bQ b (Run fi1 ρ' (inn1K T1 t1 e vs vs1 acc es ρ))
  | .ex _ _ _, _ => False
theorem inn2K_ok {acc es : List Dt} {b : Bool} : inn2K fi1 T1 t1 e vs vs1 acc es ρ (.ok b) ρ1 = bQ b (Run fi1 ρ1 (inn1K T1 t1 e vs vs1 acc es ρ)) := rfl
theorem runL2_map (f : Nat → List Dt) (L : Nat) (hf : ∀ j, (f j).length ≤ L) : ∀ (ds : List Dt) (i : Nat) (acc : List Dt), acc.length + ds.length * L < 1000000 →
    (∀ j d acc, ds[j]? = some d → acc.length + L < 1000000 → upQ (T d (wipeR ρ vs)) t (inn2K fi1 T1 t1 e vs vs1 acc (acc ++ f (i + j)) ρ)) → Q (.ok (.own (.lst (acc ++ ((List.range ds.length).map fun j => f (i + j)).flatten)))) ρ → RunL2 T t fi1 T1 t1 e vs vs1 ds acc ρ Q
  | [], i, acc, _, _, h => ⟨acc, ρ, by unfold lc2M; rfl, by simpa using h⟩
  | d :: ds, i, acc, hz, st, h => by
    have hz2 : acc.length + ds.length * L + L < 1000000 := by
      simp only [List.length_cons, Nat.add_mul, Nat.one_mul] at hz
      omega
    have s0 := st 0 d acc rfl (by
      have : 0 ≤ ds.length * L := Nat.zero_le _
      omega)
    have ih := runL2_map f L hf ds (i + 1) (acc ++ f i) (by
      have := hf i
      rw [List.length_append]
      omega) (fun j d' acc' ed hz' => by
      have := st (j + 1) d' acc' (by simpa using ed) hz'
      rw [show i + (j + 1) = i + 1 + j by omega] at this
      exact this) (by
      have e1 : acc ++ f i ++ ((List.range ds.length).map fun j => f (i + 1 + j)).flatten = acc ++ ((List.range (d :: ds).length).map fun j => f (i + j)).flatten := by
        rw [List.length_cons, List.range_succ_eq_map, List.map_cons, List.flatten_cons, List.map_map, List.append_assoc]
        congr 3
        refine List.map_congr_left fun j _ => ?_
        show f (i + 1 + j) = f (i + (j + 1))
        rw [show i + 1 + j = i + (j + 1) by omega]
      rw [e1]
      exact h)
    obtain ⟨a, ρ', e1, q⟩ := ih
    refine ⟨a, ρ', ?_, q⟩
    rw [lc2M]
    cases q1 : T d (wipeR ρ vs) with
    | none => rw [q1] at s0; exact s0.elim
    | some ρ1 =>
      rw [q1, upQ_some] at s0
      obtain ⟨r, ρ2, e2, h2⟩ := s0
      cases r with
      | ex C ns ds => exact h2.elim
      | ok b =>
        obtain ⟨hb, r3, ρ3, e3, h3⟩ := h2
        subst hb
        cases r3 with
        | ex C ns ds => exact h3.elim
        | ok xs =>
          obtain ⟨a2, ρ4, e4, h4, h5⟩ := h3
          subst h4
          simp only [e2, e3, e4, h5]
          exact e1
end
theorem seqU_s {x : Str} : seqU (.str x) = some (signsD x) := rfl
theorem runL_map2 {T : Dt → Up} {t : M Bool} {e : M Sl} {vs : List Nat} {ds : List Dt} {ρ0 : List Sl} {Q : Po Sl} (ρ1 : List Sl) (g : Nat → Dt) (hz : ds.length < 1000000)
    (st : ∀ j d acc ρ, (ρ = ρ0 ∨ ρ = ρ1) → ds[j]? = some d → acc.length < 1000000 → upQ (T d (wipeR ρ vs)) t (lstepK e acc vs (IsM acc (g j) ρ1)))
    (h : ∀ ρ, (ρ = ρ0 ∨ ρ = ρ1) → Q (.ok (.own (.lst ((List.range ds.length).map g)))) ρ) : RunL T t e vs ds [] ρ0 Q := by
  refine runL_inv (fun j acc ρ' => j ≤ ds.length ∧ acc = (List.range j).map g ∧ (ρ' = ρ0 ∨ ρ' = ρ1)) ⟨Nat.zero_le _, rfl, .inl rfl⟩ ?_ ?_
  · rintro j d acc ρ' hd ⟨hj, rfl, hr⟩
    have hl : j < ds.length := by
      rcases Nat.lt_or_ge j ds.length with q | q
      · exact q
      · rw [List.getElem?_eq_none q] at hd; cases hd
    have s := st j d ((List.range j).map g) ρ' hr hd (by simp; omega)
    have mono : ∀ acc' ρ'', IsM ((List.range j).map g) (g j) ρ1 acc' ρ'' → j + 1 ≤ ds.length ∧ acc' = (List.range (j + 1)).map g ∧ (ρ'' = ρ0 ∨ ρ'' = ρ1) := fun acc' ρ'' q => by
      refine ⟨hl, ?_, .inr q.2⟩
      rw [q.1, List.range_succ, List.map_append]
      rfl
    cases q1 : T d (wipeR ρ' vs) with
    | none => rw [q1] at s; exact s.elim
    | some ρ2 =>
      rw [q1, upQ_some] at s
      rw [upQ_some]
      refine s.mono fun r ρ3 hq => ?_
      cases r with
      | ex C ns ds => exact hq.elim
      | ok b => cases b with
        | false => exact mono _ _ hq
        | true =>
          have hq : Run (vl e) ρ3 (lkeepK ((List.range j).map g) vs (IsM ((List.range j).map g) (g j) ρ1)) := hq
          show Run (vl e) ρ3 (lkeepK ((List.range j).map g) vs fun acc' ρ'' => j + 1 ≤ ds.length ∧ acc' = (List.range (j + 1)).map g ∧ (ρ'' = ρ0 ∨ ρ'' = ρ1))
          refine hq.mono fun r ρ4 hx => ?_
          cases r with
          | ex C ns ds => exact hx.elim
          | ok x => exact ⟨hx.1, mono _ _ hx.2⟩
  · rintro acc ρ' ⟨_, rfl, hr⟩
    exact h ρ' hr
theorem map_range_get {α β : Type} (l : List α) (f : α → β) (d : α) : (List.range l.length).map (fun j => f (l.getD j d)) = l.map f := by
  refine List.ext_getElem (by simp) fun i h1 h2 => ?_
  simp at h1 h2
  simp [h1]
theorem zipD_get' {xs ys : List Dt} {j : Nat} {d : Dt} (h : (zipD xs ys)[j]? = some d) : ∃ x y, xs[j]? = some x ∧ ys[j]? = some y ∧ d = .tup [x, y] := by
  unfold zipD at h
  rw [List.getElem?_zipWith] at h
  cases h1 : xs[j]? with
  | none => rw [h1] at h; cases h
  | some x =>
    cases h2 : ys[j]? with
    | none => rw [h1, h2] at h; cases h
    | some y =>
      rw [h1, h2] at h
      exact ⟨x, y, rfl, rfl, (Option.some.inj h).symm⟩
theorem zipD_len {xs ys : List Dt} : (zipD xs ys).length = min xs.length ys.length := by simp [zipD]
end DL

end
section
set_option Elab.async false
set_option linter.all false
set_option maxRecDepth 100000
set_option maxHeartbeats 4000000
/-! N1: methods called. -/
namespace DL
open PySem PySem.Spec L2
/-- a method that instances of C answer, with n values and keywords ks besides the one asked -/
structure Dq (P : Program) (w : World) (K : Fg) (mg : Str → Option Value) (base : Heap) (CX : CXT) (k : Nat) (C : Addr) (m : Str) (n : Nat) (ks : List Str) (gD : List Ar → List Ar → List Ar) (sp : Sp) : Prop where
  ex : ∃ (f : Addr) (fd : FuncData) (ps : List Str) (gF : List Value → List Value → List Value) (gV : List V → List V → List V), Cls K C ∧ Meth K C m f ∧ GFn P w K mg base CX k f fd ps sp ∧
    KBn K fd ps (n + 1) ks gF gV ∧ Puts K (n + 1) ks.length gV gD
def tMt (K : Fg) (C : Addr) (m : Str) (n mm : Nat) (gD : List Ar → List Ar → List Ar) (sp : Sp) (E : SX) (ta : TE) (t tk : TA) : TE := fun σ H Q => ta σ H fun v H1 => (∃ a dx fs, v = .ref a ∧ H1 a = some (.ins C dx fs) ∧ fs.lookup m = none) ∧
  t σ H1 fun vs H2 => tk σ H2 fun zs H3 => (v :: vs).length = n + 1 ∧ zs.length = mm ∧ ∀ us, Given K σ (n + 1) mm gD (v :: vs) zs us → sp us H3 Q (E σ)
section
variable {X : Cx} {P : Program} {w : World} {K : Fg} {mg : Str → Option Value} {base : Heap} {CX : CXT} {k n : Nat} {m : Str} {C : Addr} {ks : List Str} {gD : List Ar → List Ar → List Ar} {sp : Sp} {E : SX} {apos pos : Pos} {o e : Expr} {es : List Expr} {kws : List Keyword} {ta : TE} {t tk : TA} {plain : Sem Bool}
theorem gk_meth (D : Dq P w K mg base CX k C m n ks gD sp) (h1 : X.prog = P) (h2 : X.w = w) (h3 : X.K = K) (h4 : X.mg = mg) (h5 : X.base = base) (rm : Rm k X.A) (hx : ∀ σ, PassesAt CX X σ (E σ))
    (ho : PE X o ta) (ha : PA X (e :: es) t) (hk : PK X kws tk) (al : (backToKw pos (keywordEach kws X.env)).all (·.1.isSome) = true := by rfl)
    (nm : (backToKw pos (keywordEach kws X.env)).filterMap (·.1) = ks := by rfl)
    (st : starEach (e :: es) X.env = (false, eval e X.env) :: starEach es X.env := by rfl)
    (pl : ((backTo pos (starEach (e :: es) X.env)).any (·.1) || (backToKw pos (keywordEach kws X.env)).any (·.1.isNone)) = false := by rfl)
    (hq : eval (.Call (.Attribute o m apos) (e :: es) kws pos) X.env = (do
      let ov ← eval o X.env
      standAt apos.atName
      let (f, first) ← holding [ov] (getMethod ov m plain)
      callWith pos f first (backTo pos (starEach (e :: es) X.env)) (backToKw pos (keywordEach kws X.env))) := by rfl) :
    PE X (.Call (.Attribute o m apos) (e :: es) kws pos) (tMt K C m n ks.length gD sp E ta t tk) := by
  subst h1 h2 h3 h4 h5
  obtain ⟨f, fd, ps, gF, gV, c, M, F, B, pu⟩ := D.ex
  constructor
  intro pins s σ H Q I h
  refine PySem.W.methodCall_KW (pl := plain) (thn (ho.run pins s σ H _ I h) fun u s1 ⟨v, H1, I1, rx, ⟨a, dx, fs, ev, ea, l⟩, q⟩ => ?_) hq
  subst ev
  obtain rfl : u = Value.ref a := rx
  refine getmeth_ok I1 ea c M l (PySem.W.callWith_KW (first := [.ref a]) (h₀ := X.base) I1.ok.mod.kin M.kp al ?_ pl st)
  refine thn (ha.run pos pins s1 σ H1 _ I1 q) fun us s2 ⟨vs, H2, J, r1, q1⟩ => thn (hk.run pos pins s2 σ H2 _ J q1) fun ws s3 ⟨zs, H3, L, r2, n1, n2, q2⟩ => ⟨L.kIn, ?_⟩
  subst nm
  have r0 : Vals (V.ref a :: vs) (Value.ref a :: us) := .cons rfl r1
  exact F.run (args := ⟨Value.ref a :: us, _⟩) rm (hx σ) L (B.to s3 (Value.ref a :: us) ws L.kIn (by rw [← r0.length, n1]) (by rw [← r2.length, n2])) (B.rel r0 r2)
    (q2 _ ⟨n1, n2, fun H0 as bs l1 l2 a b => pu H0 σ as bs _ zs l1 l2 a b⟩)
theorem gk_meth0 (D : Dq P w K mg base CX k C m n ks gD sp) (h1 : X.prog = P) (h2 : X.w = w) (h3 : X.K = K) (h4 : X.mg = mg) (h5 : X.base = base) (rm : Rm k X.A) (hx : ∀ σ, PassesAt CX X σ (E σ))
    (ho : PE X o ta) (hk : PK X kws tk) (al : (backToKw pos (keywordEach kws X.env)).all (·.1.isSome) = true := by rfl)
    (nm : (backToKw pos (keywordEach kws X.env)).filterMap (·.1) = ks := by rfl)
    (pl : ((backTo pos (starEach [] X.env)).any (·.1) || (backToKw pos (keywordEach kws X.env)).any (·.1.isNone)) = false := by rfl)
    (hq : eval (.Call (.Attribute o m apos) [] kws pos) X.env = (do
      let ov ← eval o X.env
      standAt apos.atName
      let (f, first) ← holding [ov] (getMethod ov m plain)
      callWith pos f first (backTo pos (starEach [] X.env)) (backToKw pos (keywordEach kws X.env))) := by rfl) :
    PE X (.Call (.Attribute o m apos) [] kws pos) (tMt K C m n ks.length gD sp E ta tNil tk) := by
  subst h1 h2 h3 h4 h5
  obtain ⟨f, fd, ps, gF, gV, c, M, F, B, pu⟩ := D.ex
  constructor
  intro pins s σ H Q I h
  refine PySem.W.methodCall_KW (pl := plain) (thn (ho.run pins s σ H _ I h) fun u s1 ⟨v, H1, I1, rx, ⟨a, dx, fs, ev, ea, l⟩, q⟩ => ?_) hq
  subst ev
  obtain rfl : u = Value.ref a := rx
  refine getmeth_ok I1 ea c M l (PySem.W.callWith_KW0 (first := [.ref a]) (h₀ := X.base) I1.ok.mod.kin M.kp al ?_ pl)
  refine thn (hk.run pos pins s1 σ H1 _ I1 q) fun ws s3 ⟨zs, H3, L, r2, n1, n2, q2⟩ => ⟨L.kIn, ?_⟩
  subst nm
  have r0 : Vals [V.ref a] [Value.ref a] := .cons rfl .nil
  exact F.run (args := ⟨[Value.ref a], _⟩) rm (hx σ) L (B.to s3 [Value.ref a] ws L.kIn (by rw [← r0.length, n1]) (by rw [← r2.length, n2])) (B.rel r0 r2)
    (q2 _ ⟨n1, n2, fun H0 as bs l1 l2 a b => pu H0 σ as bs _ zs l1 l2 a b⟩)
end
section
variable {K : Fg} {E : SX} {E0 : XK} {F : Fr} {pin : Nat → Bool} {σ : L2.St} {H0 H : Hp} {ρ ρ' : List Sl}
/-- whether a slot holds an instance of C that has no own part named m -/
def insAt (C : Addr) (m : Str) : Option Sl → Bool
  | some (.val (.obj D ns _)) => D == C && !ns.contains m
  | some (.own (.ins D ns _)) => D == C && !ns.contains m
  | _ => false
theorem insAt_ok {C : Addr} {m : Str} {i : Nat} (R : Rep K F σ H0 H ρ) (h : insAt C m ρ[i]? = true) : ∃ a dx fs, σ[i]? = some (some (.ref a)) ∧ H a = some (.ins C dx fs) ∧ fs.lookup m = none := by
  have lk : ∀ {ns : List Str} {fs : List (Str × V)}, fs.map (·.1) = ns → ns.contains m = false → fs.lookup m = none := by
    intro ns fs e hn
    subst e
    induction fs with
    | nil => rfl
    | cons p fs ih =>
      obtain ⟨x, y⟩ := p
      simp only [List.map_cons, List.contains_cons, Bool.or_eq_false_iff] at hn
      rw [List.lookup_cons]
      rw [hn.1]
      exact ih hn.2
  cases q : ρ[i]? with
  | none => rw [q] at h; cases h
  | some s =>
    rw [q] at h
    cases s with
    | un => cases h
    | val d =>
      cases d with
      | obj D ns ds =>
        have h' : (D == C && !ns.contains m) = true := h
        simp only [Bool.and_eq_true, beq_iff_eq, Bool.not_eq_true'] at h'
        obtain ⟨rfl, hn⟩ := h'
        obtain ⟨v, ev, rd⟩ := R.val i _ q
        obtain ⟨a, dx, fs, rfl, ea, e, _⟩ := rd.obj_inv
        exact ⟨a, dx, fs, ev, R.s2 _ _ ea, lk e hn⟩
      | _ => cases h
    | own o =>
      cases o with
      | ins D ns ds =>
        have h' : (D == C && !ns.contains m) = true := h
        simp only [Bool.and_eq_true, beq_iff_eq, Bool.not_eq_true'] at h'
        obtain ⟨rfl, hn⟩ := h'
        obtain ⟨a, ev, _, _, dx, fs, ea, e, _⟩ := R.own i _ q
        exact ⟨a, dx, fs, ev, ea, lk e hn⟩
      | _ => cases h
def fMtV (C : Addr) (m : Str) (i n mm N : Nat) (gD : List Ar → List Ar → List Ar) (g : M Sl) (fa fk : M (List Ar)) : M Sl := fun ρ => if insAt C m ρ[i]? = true then fCk (n + 1) mm N gD g (fBVar i fa) fk ρ else none
def fMtVP (C : Addr) (m : Str) (i n mm N : Nat) (gD : List Ar → List Ar → List Ar) (g : M Sl) (fa fk : M (List Ar)) : M Sl := fun ρ => if insAt C m ρ[i]? = true then fCkP (n + 1) mm N gD g (fBVar i fa) fk ρ else none
instance sMtV {C : Addr} {m : Str} {i n mm N : Nat} {gD : List Ar → List Ar → List Ar} {g : M Sl} {t tk : TA} {fa fk : M (List Ar)} [A : SimB K E t fa] [B : SimB K E tk fk] :
    SimE K E (tMt K C m n mm gD (spD K N g) E (tVar i) t tk) (fMtV C m i n mm N gD g fa fk) where
  run := fun F σ H0 H ρ r ρ' Q R e h => by
    unfold fMtV at e
    split at e
    · rename_i hi
      obtain ⟨a, dx, fs, e1, e2, e3⟩ := insAt_ok R hi
      obtain ⟨v, ev, q⟩ := (sCk (K := K) (E := E) (t := tCons (tVar i) t) (tk := tk) (fa := fBVar i fa)).run F σ H0 H ρ r ρ' Q R e h
      obtain rfl : V.ref a = v := by rw [e1] at ev; exact Option.some.inj (Option.some.inj ev)
      exact ⟨_, ev, ⟨a, dx, fs, rfl, e2, e3⟩, q⟩
    · cases e
instance sMtVP {C : Addr} {m : Str} {i n mm N : Nat} {gD : List Ar → List Ar → List Ar} {g : M Sl} {t tk : TA} {fa fk : M (List Ar)} [A : SimB K E t fa] [B : SimB K E tk fk] :
    SimE K E (tMt K C m n mm gD (spP K N g) EN (tVar i) t tk) (fMtVP C m i n mm N gD g fa fk) where
  run := fun F σ H0 H ρ r ρ' Q R e h => by
    unfold fMtVP at e
    split at e
    · rename_i hi
      obtain ⟨a, dx, fs, e1, e2, e3⟩ := insAt_ok R hi
      obtain ⟨v, ev, q⟩ := (sCkP (K := K) (E := E) (t := tCons (tVar i) t) (tk := tk) (fa := fBVar i fa)).run F σ H0 H ρ r ρ' Q R e h
      obtain rfl : V.ref a = v := by rw [e1] at ev; exact Option.some.inj (Option.some.inj ev)
      exact ⟨_, ev, ⟨a, dx, fs, rfl, e2, e3⟩, q⟩
    · cases e
end
end DL

end
section
set_option Elab.async false
set_option linter.all false
set_option maxRecDepth 100000
set_option maxHeartbeats 4000000
/-! N2: == by an own __eq__. -/
namespace DL
open PySem PySem.Spec L2
def insV (C : Addr) (x : V) (H : Hp) : Prop := ∃ a dx fs, x = .ref a ∧ H a = some (.ins C dx fs)
/-- what a def of two tells of these two, read afresh -/
def told2 (K : Fg) (m : M Sl) (x y : V) (H : Hp) (Q : VK) : Prop := ∀ us, (∀ (H0 : Hp) (d e : Dt), RD K H0 d x → RD K H0 e y → RDs K H0 [d, e] us) → spP K 2 m us H (fun v H' => (∃ b, v = .bl b) ∧ Q v H') (EN [])
def rOwn (K : Fg) (C : Addr) (m : M Sl) : R2 := fun x y H Q => insV C x H ∧ insV C y H ∧ told2 K m x y H Q
theorem rds_of {K : Fg} {H0 : Hp} {σ : L2.St} {d e : Dt} {us : List V} (h : ArRs K H0 σ [.d d, .d e] us) : RDs K H0 [d, e] us := by
  cases h with
  | cons h1 h2 => cases h2 with
    | cons h3 h4 => cases h4; exact .cons h1 (.cons h3 .nil)
section
variable {X : Cx} {CX : CXT} {k : Nat} {C : Addr} {m : M Sl}
theorem op_own (D : Dq X.prog X.w X.K X.mg X.base CX0 k C "__eq__" 1 [] gPos (spP X.K 2 m)) (rm : Rm k X.A) : OpR X (compareOp .Eq) (rOwn X.K C m) := by
  obtain ⟨f, fd, ps, gF, gV, c, M, F, B, pu⟩ := D.ex
  intro pins s σ H x y v u Q I rx ry hq
  obtain ⟨⟨a, dx, fs, rfl, ha⟩, ⟨b, dy, gs, rfl, hb⟩, q⟩ := hq
  obtain rfl : v = Value.ref a := rx
  obtain rfl : u = Value.ref b := ry
  obtain ⟨mA, J, _⟩ := ins_get I.hok ha
  obtain ⟨mB, J', _⟩ := ins_get I.hok hb
  obtain ⟨od, J, _⟩ := J.look
  obtain ⟨od', J', _⟩ := J'.look
  obtain ⟨z, hF⟩ := I.fr
  refine PySem.W.cmp_K (op := .Eq) (tb := .ref C) rm.r.units0 hF I.ok.mod.kin J J'.type (by simp [PySem.W.notFirst]) M.at_ M.fn ?_
  have r0 : Vals [V.ref a, V.ref b] [Value.ref a, Value.ref b] := .cons rfl (.cons rfl .nil)
  have g := q (gV [V.ref a, V.ref b] []) (fun H0 d e rd re => rds_of (pu H0 σ [.d d, .d e] [] [V.ref a, V.ref b] [] rfl rfl (.cons rd (.cons re .nil)) .nil))
  refine thn (F.run (args := ⟨[Value.ref a, Value.ref b], _⟩) rm (pa0 σ) I (B.to s [Value.ref a, Value.ref b] [] I.kIn rfl rfl) (B.rel r0 .nil) g) fun r s' hr => ?_
  obtain ⟨z, H', I', rz, ⟨t, rfl⟩, h⟩ := hr
  cases rz
  exact ⟨.bl t, H', I', rfl, h⟩
end
/-- == by an own __eq__, on data -/
def gOwn (C : Addr) (m : M Sl) (d e : Dt) : Option Sl := match d, e with
  | .obj A _ _, .obj B _ _ => if A = C ∧ B = C then (match callD 2 m [] [.d d, .d e] [] with
    | some (.ok (.val (.bl t)), _) => some (.val (.bl t))
    | _ => none) else none
  | _, _ => none
instance vOwn {K : Fg} {C : Addr} {m : M Sl} : OpV K (rOwn K C m) (gOwn C m) where
  run := fun x y d e s H0 H Q sm rx ry g h => by
    unfold gOwn at g
    split at g
    · rename_i A ns ds B ns2 ds2
      split at g
      · rename_i hc
        obtain ⟨rfl, rfl⟩ := hc
        split at g
        · rename_i t ρ' e1
          cases g
          obtain ⟨a, dx, fs, rfl, ha, _⟩ := rx.obj_inv
          obtain ⟨b, dy, gs, rfl, hb, _⟩ := ry.obj_inv
          refine ⟨⟨a, dx, fs, rfl, sm _ _ ha⟩, ⟨b, dy, gs, rfl, sm _ _ hb⟩, fun us hus => ?_⟩
          have R : Rep K ⟨H, H0, []⟩ [] H0 H [] := ⟨rfl, Same.refl _, sm, fun _ _ z _ => z, fun a _ z _ => z, fun _ z => z, fun i d z => by simp at z, fun i o z => by simp at z, fun i j o o' a z => by simp at z⟩
          have q := callP_run (g := m) (E0 := EN []) R (ArRs.data (σ := []) (hus H0 _ _ rx ry)) RDs.nil e1 (Q := fun v H' => (∃ b, v = .bl b) ∧ Q v H') (fun v H0' H' s1 R1 => ?_)
          · rwa [List.append_nil] at q
          · obtain ⟨v', ev, rd⟩ := R1.val 0 _ rfl
            obtain rfl : v = v' := Option.some.inj (Option.some.inj ev)
            have ev2 := rd.bl_inv
            refine ⟨⟨_, ev2⟩, h v H0' H' ⟨s1, fun a o z => R1.s3 a o z (by simp), R1.s2, fun a z z0 => R1.s4 a z z0 (by simp)⟩ rd⟩
        · cases g
      · cases g
    · cases g
end DL

end
section
set_option Elab.async false
set_option linter.all false
set_option maxRecDepth 100000
set_option maxHeartbeats 4000000
/-! N3: != by an own __eq__; str and repr by own defs. -/
namespace DL
open PySem PySem.Spec L2 PySem.W
section
variable {prog : Program} {w : World} {M : Model} {A : Around} {E : Value → Shared → Prop} {s : Shared} {K : PySem.W.Frag} {x C f : Addr} {ox : Obj} {od : Option Obj} {b tb : Value}
theorem bound_ne {args : List Value} {Q : Option Value → Shared → Prop} (X : K.In s.heap) (I : PySem.W.InstAt s.heap x ox C od) (hs : PySem.W.findIn K (.ref C) "__ne__" = some (some (.builtin "object.__ne__")))
    (h : wpAny M A (call (.builtin "object.__ne__") (.ref x :: args)) (fun v => Q (some v)) E s) : wpAny M A (callSpecialIfBound? (.ref x) "__ne__" args) Q E s := by
  unfold callSpecialIfBound? bindSpecialIfBound?
  have fin : wpAny M A (call (.builtin "object.__ne__") ([.ref x] ++ args) >>= fun v => pure (some v)) Q E s := wpAny_bind (wpAny_mono h (fun v s1 q => wpAny_pure q) fun _ _ q => q)
  refine wpAny_holding (wpAny_bind (wpAny_bind (wpAny_bind (I.type.here ((PySem.W.looks_findIn X hs).here (wpAny_bind (wpAny_askSetting (wpAny_ite ?_))))))))
  split
  · exact wpAny_bind (wpAny_of_eq (F.cmp_object.ne.bind _) (wpAny_pure (by exact fin)))
  · exact wpAny_tryCatch (wpAny_bind (wpAny_of_eq (F.cmp_object.ne.bind _) (wpAny_pure (by exact fin))))
theorem ne_own {Q : Value → Shared → Prop} (hu : A.in1.units < cLine) (hu0 : A.units < cLine) (X : K.In s.heap) (I : PySem.W.InstAt s.heap x ox C od) (hb : Looks (model prog w) s.heap (typeOf b) tb) (hn : PySem.W.notFirst K C tb = true)
    (hm : PySem.W.mroIn K C (.type "object") = some true) (hs : PySem.W.findIn K (.ref C) "__eq__" = some (some (.ref f))) (hf : PySem.W.isFn K (.ref f) = true) (hne : PySem.W.findIn K (.ref C) "__ne__" = some (some (.builtin "object.__ne__")))
    (h : wpAny (model prog w) A.in1 (call (.ref f) [.ref x, b]) (fun v s' => ∃ t, v = .bool t ∧ Q (.bool (!t)) s') E s) : wpAny (model prog w) A (richCompare .NotEq (.ref x) b) Q E s := by
  have inner : wpAny (model prog w) A.in1 (Builtin.«object.__ne__» ⟨[.ref x, b], []⟩) (fun fin s' => ∃ t, fin = .done (.ret (.bool (!t))) ∧ Q (.bool (!t)) s') E s := by
    unfold Builtin.«object.__ne__»
    repeat (first
      | with_reducible refine wpAny_cRoomFor hu ?_
      | (refine wpAny_bind (m := callSpecialIfBound? (.ref x) (Str.ofString "__eq__") [b])
          (PySem.W.ifBound_K X I hs hf (wpAny_mono h (fun r s1 z => by
            obtain ⟨t, rfl, q⟩ := z
            repeat (first | exact ⟨t, rfl, q⟩ | exact wpAny_pure ⟨t, rfl, q⟩ | exact wpAny_truthy_bool ⟨t, rfl, q⟩ | (refine wpAny_bind (m := truthy (.bool _)) (wpAny_truthy_bool ?_)) | wp_step)) fun _ _ z => z)))
      | wp_step)
  have one : wpAny (model prog w) A (tryCompare (.ref x) "__ne__" b) (fun r s' => ∃ v, r = some v ∧ Q v s') E s := by
    unfold tryCompare
    refine wpAny_bind (bound_ne X I hne (wpAny_call (codeAny_call_builtin F.cmp_object.ne.plain F.cmpEntry_ne (PySem.W.check_slot F.cmpKind_ne F.cmpSplit_ne (I.type.andThen (PySem.W.looks_mroIn X hm)) (F.cmpArgs_ne _ _) (wpAny_mono inner (fun r s1 z => ?_) fun _ _ z => z)))))
    obtain ⟨t, rfl, q⟩ := z
    exact wpAny_pure ⟨_, rfl, q⟩
  unfold richCompare
  simp only [oneThing_ref]
  refine wpAny_holding (wpAny_bind (wpAny_cRoomFor hu0 ?_))
  refine wpAny_bind (I.type.here (wpAny_bind (hb.here ?_)))
  split
  · rename_i q
    have e : PySem.W.subIn K tb (.ref C) = some false := by
      rcases Bool.or_eq_true_iff.mp hn with e | e
      · rw [beq_iff_eq.mp e] at q; simp at q
      · exact beq_iff_eq.mp e
    refine wpAny_bind ((PySem.W.looks_subIn X e).here ?_)
    simp only [Bool.false_eq_true, if_false]
    refine wpAny_bind (wpAny_mono one (fun r s' z => ?_) fun _ _ e => e)
    obtain ⟨v, rfl, hq⟩ := z
    exact wpAny_pure hq
  · refine wpAny_bind (wpAny_pure ?_)
    simp only [Bool.false_eq_true, if_false]
    refine wpAny_bind (wpAny_mono one (fun r s' z => ?_) fun _ _ e => e)
    obtain ⟨v, rfl, hq⟩ := z
    exact wpAny_pure hq
end
section
variable {X : Cx} {CX : CXT} {k : Nat} {C : Addr} {m : M Sl}
/-- the callee runs, a little below -/
theorem GFn.below {A : Around} {f : Addr} {fd : FuncData} {ps : List Str} {sp : Sp} {pins : List (Addr × Obj)} {σ : L2.St} {H : Hp} {s : Shared} {Q : VK} {args : Args} {us : List Value} {vs : List V} (F : GFn X.prog X.w X.K X.mg X.base CX0 k f fd ps sp)
    (hA : A.frames = X.A.frames) (rm : Rm k A) (I : Inv X pins σ H s) (bt : BindsTo s fd args (ps.zip us)) (r : Vals vs us) (h : sp vs H Q (EN σ)) : wpAny (model X.prog X.w) A (call (.ref f) args.pos args.kw) (EP X pins σ Q) X.xe s := by
  have e := I.env0
  have e0 : Env0 X.prog X.w X.K X.mg X.base A X.stack s H := ⟨by rw [hA]; exact e.frames, e.mod, e.bs, e.bsz, e.funs, e.frf, e.hok, e.bare⟩
  apply wpAny_call
  refine codeAny_mono (F.go rm e0 bt r h) ?_
  rintro (e | (_ | _ | _ | u)) s' z
  · exact pa0 σ pins H s e s' I z
  all_goals first | exact I.after z | exact z.elim
theorem Rm.in1 {A : Around} (h : Rm (k + 1) A) : Rm k A.in1 := ⟨h.r.in1, h.g⟩
/-- what a def of two tells of these two, turned about -/
def told2N (K : Fg) (m : M Sl) (x y : V) (H : Hp) (Q : VK) : Prop := ∀ us, (∀ (H0 : Hp) (d e : Dt), RD K H0 d x → RD K H0 e y → RDs K H0 [d, e] us) → spP K 2 m us H (fun v H' => ∃ b, v = .bl b ∧ Q (.bl (!b)) H') (EN [])
def rOwnN (K : Fg) (C : Addr) (m : M Sl) : R2 := fun x y H Q => insV C x H ∧ insV C y H ∧ told2N K m x y H Q
structure NeOk (K : Fg) (C : Addr) : Prop where
  ob : PySem.W.mroIn K C (.type "object") = some true
  ne : PySem.W.findIn K (.ref C) "__ne__" = some (some (.builtin "object.__ne__"))
theorem op_ownN (D : Dq X.prog X.w X.K X.mg X.base CX0 k C "__eq__" 1 [] gPos (spP X.K 2 m)) (N : NeOk X.K C) (rm : Rm (k + 1) X.A) : OpR X (compareOp .NotEq) (rOwnN X.K C m) := by
  obtain ⟨f, fd, ps, gF, gV, c, M, F, B, pu⟩ := D.ex
  intro pins s σ H x y v u Q I rx ry hq
  obtain ⟨⟨a, dx, fs, rfl, ha⟩, ⟨b, dy, gs, rfl, hb⟩, q⟩ := hq
  obtain rfl : v = Value.ref a := rx
  obtain rfl : u = Value.ref b := ry
  obtain ⟨mA, J, _⟩ := ins_get I.hok ha
  obtain ⟨mB, J', _⟩ := ins_get I.hok hb
  obtain ⟨od, J, _⟩ := J.look
  obtain ⟨od', J', _⟩ := J'.look
  have r0 : Vals [V.ref a, V.ref b] [Value.ref a, Value.ref b] := .cons rfl (.cons rfl .nil)
  have g := q (gV [V.ref a, V.ref b] []) (fun H0 d e rd re => rds_of (pu H0 σ [.d d, .d e] [] [V.ref a, V.ref b] [] rfl rfl (.cons rd (.cons re .nil)) .nil))
  refine ne_own (tb := .ref C) rm.in1.r.units0 rm.r.units0 I.kIn J J'.type (by simp [PySem.W.notFirst]) N.ob M.at_ M.fn N.ne ?_
  refine thn (GFn.below (args := ⟨[Value.ref a, Value.ref b], _⟩) F rfl rm.in1 I (B.to s [Value.ref a, Value.ref b] [] I.kIn rfl rfl) (B.rel r0 .nil) g) fun r s' hr => ?_
  obtain ⟨z, H', I', rz, t, rfl, h⟩ := hr
  cases rz
  exact ⟨t, rfl, .bl (!t), H', I', rfl, h⟩
end
/-- != by an own __eq__, on data -/
def gOwnN (C : Addr) (m : M Sl) (d e : Dt) : Option Sl := match d, e with
  | .obj A _ _, .obj B _ _ => if A = C ∧ B = C then (match callD 2 m [] [.d d, .d e] [] with
    | some (.ok (.val (.bl t)), _) => some (.val (.bl (!t)))
    | _ => none) else none
  | _, _ => none
instance vOwnN {K : Fg} {C : Addr} {m : M Sl} : OpV K (rOwnN K C m) (gOwnN C m) where
  run := fun x y d e s H0 H Q sm rx ry g h => by
    unfold gOwnN at g
    split at g
    · rename_i A ns ds B ns2 ds2
      split at g
      · rename_i hc
        obtain ⟨rfl, rfl⟩ := hc
        split at g
        · rename_i t ρ' e1
          cases g
          obtain ⟨a, dx, fs, rfl, ha, _⟩ := rx.obj_inv
          obtain ⟨b, dy, gs, rfl, hb, _⟩ := ry.obj_inv
          refine ⟨⟨a, dx, fs, rfl, sm _ _ ha⟩, ⟨b, dy, gs, rfl, sm _ _ hb⟩, fun us hus => ?_⟩
          have R : Rep K ⟨H, H0, []⟩ [] H0 H [] := ⟨rfl, Same.refl _, sm, fun _ _ z _ => z, fun a _ z _ => z, fun _ z => z, fun i d z => by simp at z, fun i o z => by simp at z, fun i j o o' a z => by simp at z⟩
          have q := callP_run (g := m) (E0 := EN []) R (ArRs.data (σ := []) (hus H0 _ _ rx ry)) RDs.nil e1 (Q := fun v H' => ∃ b, v = .bl b ∧ Q (.bl (!b)) H') (fun v H0' H' s1 R1 => ?_)
          · rwa [List.append_nil] at q
          · obtain ⟨v', ev, rd⟩ := R1.val 0 _ rfl
            obtain rfl : v = v' := Option.some.inj (Option.some.inj ev)
            have ev2 := rd.bl_inv
            exact ⟨t, ev2, h (.bl (!t)) H0' H' ⟨s1, fun a o z => R1.s3 a o z (by simp), R1.s2, fun a z z0 => R1.s4 a z z0 (by simp)⟩ RD.bl⟩
        · cases g
      · cases g
    · cases g
section
variable {X : Cx} {k : Nat} {C : Addr} {m : M Sl}
/-- what a def of one tells of it: a text -/
def told1S (K : Fg) (m : M Sl) (x : V) (H : Hp) (Q : VK) : Prop := ∀ us, (∀ (H0 : Hp) (d : Dt), RD K H0 d x → RDs K H0 [d] us) → spP K 1 m us H (fun v H' => (∃ z, v = .str z) ∧ Q v H') (EN [])
def rShow (K : Fg) (C : Addr) (m : M Sl) : List V → Hp → VK → Prop := fun xs H Q => ∃ x, xs = [x] ∧ insV C x H ∧ told1S K m x H Q
theorem rds_of1 {K : Fg} {H0 : Hp} {σ : L2.St} {d : Dt} {us : List V} (h : ArRs K H0 σ [.d d] us) : RDs K H0 [d] us := by
  cases h with
  | cons h1 h2 => cases h2; exact .cons h1 .nil
theorem cr_reprOwn (D : Dq X.prog X.w X.K X.mg X.base CX0 k C "__repr__" 0 [] gPos (spP X.K 1 m)) (rm : Rm (k + 1) X.A) : CallR X (.builtin "repr") (rShow X.K C m) := by
  obtain ⟨f, fd, ps, gF, gV, c, M, F, B, pu⟩ := D.ex
  intro pins s σ H xs us Q I rx hq
  obtain ⟨x, rfl, ⟨a, dx, fs, rfl, ha⟩, q⟩ := hq
  obtain ⟨mA, J, _⟩ := ins_get I.hok ha
  obtain ⟨od, J, _⟩ := J.look
  obtain ⟨z, hF⟩ := I.fr
  cases rx with
  | cons r1 r2 =>
    cases r2
    obtain rfl : _ = Value.ref a := r1
    have r0 : Vals [V.ref a] [Value.ref a] := .cons rfl .nil
    have g := q (gV [V.ref a] []) (fun H0 d rd => rds_of1 (pu H0 σ [.d d] [] [V.ref a] [] rfl rfl (.cons rd .nil) .nil))
    refine PySem.W.repr_K rm.in1.r.units0 hF I.ok.mod.kin J M.at_ M.fn ?_
    refine thn (GFn.below (args := ⟨[Value.ref a], _⟩) F rfl rm.in1 I (B.to s [Value.ref a] [] I.kIn rfl rfl) (B.rel r0 .nil) g) fun r s' hr => ?_
    obtain ⟨z, H', I', rz, ⟨t, rfl⟩, h⟩ := hr
    obtain ⟨t2, rfl⟩ := rz
    exact ⟨.str t, H', I', ⟨t2, rfl⟩, h⟩
theorem cr_strOwn (D : Dq X.prog X.w X.K X.mg X.base CX0 k C "__str__" 0 [] gPos (spP X.K 1 m)) (rm : Rm (k + 2) X.A) : CallR X (.type "str") (rShow X.K C m) := by
  obtain ⟨f, fd, ps, gF, gV, c, M, F, B, pu⟩ := D.ex
  intro pins s σ H xs us Q I rx hq
  obtain ⟨x, rfl, ⟨a, dx, fs, rfl, ha⟩, q⟩ := hq
  obtain ⟨mA, J, _⟩ := ins_get I.hok ha
  obtain ⟨od, J, _⟩ := J.look
  cases rx with
  | cons r1 r2 =>
    cases r2
    obtain rfl : _ = Value.ref a := r1
    have r0 : Vals [V.ref a] [Value.ref a] := .cons rfl .nil
    have g := q (gV [V.ref a] []) (fun H0 d rd => rds_of1 (pu H0 σ [.d d] [] [V.ref a] [] rfl rfl (.cons rd .nil) .nil))
    refine PySem.W.kso_call rm.in1.in1.r.units0 I.kIn J M.at_ M.fn ?_
    refine thn (GFn.below (args := ⟨[Value.ref a], _⟩) F rfl rm.in1.in1 I (B.to s [Value.ref a] [] I.kIn rfl rfl) (B.rel r0 .nil) g) fun r s' hr => ?_
    obtain ⟨z, H', I', rz, ⟨t, rfl⟩, h⟩ := hr
    obtain ⟨t2, rfl⟩ := rz
    exact ⟨.str t, H', I', ⟨t2, rfl⟩, h⟩
end
/-- str or repr by an own def, on data -/
def gShow (C : Addr) (m : M Sl) : List Dt → Option Sl
  | [.obj A ns ds] => if A = C then (match callD 1 m [] [.d (.obj A ns ds)] [] with
    | some (.ok (.val (.str t)), _) => some (.val (.str t))
    | _ => none) else none
  | _ => none
instance vShow {K : Fg} {C : Addr} {m : M Sl} : CallV K (rShow K C m) (gShow C m) where
  run := fun xs ds0 s H0 H Q sm rx g h => by
    unfold gShow at g
    split at g
    · rename_i A ns ds
      split at g
      · rename_i hc
        subst hc
        split at g
        · rename_i t ρ' e1
          cases g
          obtain ⟨v, r, rfl, h1, h2⟩ := rx.inv
          obtain rfl := RDs.nil_inv h2
          obtain ⟨a, dx, fs, rfl, ha, _⟩ := h1.obj_inv
          refine ⟨_, rfl, ⟨a, dx, fs, rfl, sm _ _ ha⟩, fun us hus => ?_⟩
          have R : Rep K ⟨H, H0, []⟩ [] H0 H [] := ⟨rfl, Same.refl _, sm, fun _ _ z _ => z, fun a _ z _ => z, fun _ z => z, fun i d z => by simp at z, fun i o z => by simp at z, fun i j o o' a z => by simp at z⟩
          have q := callP_run (g := m) (E0 := EN []) R (ArRs.data (σ := []) (hus H0 _ h1)) RDs.nil e1 (Q := fun v H' => (∃ z, v = .str z) ∧ Q v H') (fun v H0' H' s1 R1 => ?_)
          · rwa [List.append_nil] at q
          · obtain ⟨v', ev, rd⟩ := R1.val 0 _ rfl
            obtain rfl : v = v' := Option.some.inj (Option.some.inj ev)
            have ev2 := rd.str_inv
            exact ⟨⟨_, ev2⟩, h v H0' H' ⟨s1, fun a o z => R1.s3 a o z (by simp), R1.s2, fun a z z0 => R1.s4 a z z0 (by simp)⟩ rd⟩
        · cases g
      · cases g
    · cases g
end DL

end
section
set_option Elab.async false
set_option linter.all false
set_option maxRecDepth 100000
set_option maxHeartbeats 4000000
/-! N4: an instance with an own __eq__ against other things; one rule or another; gcd. -/
namespace DL
open PySem PySem.Spec L2 PySem.W
def rOr (r r' : R2) : R2 := fun x y H Q => r x y H Q ∨ r' x y H Q
def gOr (g g' : Dt → Dt → Option Sl) (d e : Dt) : Option Sl := match g d e with
  | some s => some s
  | none => g' d e
instance vOr {K : Fg} {r r' : R2} {g g' : Dt → Dt → Option Sl} [A : OpV K r g] [B : OpV K r' g'] : OpV K (rOr r r') (gOr g g') where
  run := fun x y d e s H0 H Q sm rx ry q h => by
    unfold gOr at q
    split at q
    · rename_i t qt
      cases q
      exact .inl (A.run x y d e _ H0 H Q sm rx ry qt h)
    · exact .inr (B.run x y d e s H0 H Q sm rx ry q h)
theorem kOr {X : Cx} {f : Value → Value → Sem Value} {r r' : R2} (h : OpR X f r) (h' : OpR X f r') : OpR X f (rOr r r') := OpR.or h h'
def cOr (r r' : List V → Hp → VK → Prop) : List V → Hp → VK → Prop := fun xs H Q => r xs H Q ∨ r' xs H Q
def hOr (g g' : List Dt → Option Sl) (ds : List Dt) : Option Sl := match g ds with
  | some s => some s
  | none => g' ds
instance vcOr {K : Fg} {r r' : List V → Hp → VK → Prop} {g g' : List Dt → Option Sl} [A : CallV K r g] [B : CallV K r' g'] : CallV K (cOr r r') (hOr g g') where
  run := fun xs ds s H0 H Q sm rx q h => by
    unfold hOr at q
    split at q
    · rename_i t qt
      cases q
      exact .inl (A.run xs ds _ H0 H Q sm rx qt h)
    · exact .inr (B.run xs ds s H0 H Q sm rx q h)
theorem kcOr {X : Cx} {f : Value} {r r' : List V → Hp → VK → Prop} (h : CallR X f r) (h' : CallR X f r') : CallR X f (cOr r r') := CallR.or h h'
/-- nothing, a number, a truth, a text, a list or a tuple -/
def plainV (K : Fg) (y : V) (H : Hp) : Prop := y = .non ∨ (∃ i, y = .int i) ∨ (∃ z, y = .str z) ∨ (∃ a xs, y = .ref a ∧ SqL K H a xs) ∨ ∃ a xs, y = .ref a ∧ SqT K H a xs
theorem not_first {K : Fg} {C : Addr} {t : String} {bm : List Value} (e : fastBuiltinMro t = some bm) (h : bm.contains (.ref C) = false) : PySem.W.notFirst K C (.type t) = true := by
  unfold PySem.W.notFirst
  have e2 : PySem.W.subIn K (.type t) (.ref C) = some false := by
    show (fastBuiltinMro t).map (·.contains (.ref C)) = some false
    rw [e, ← h]; rfl
  rw [e2]
  simp
theorem looks_plain {X : Cx} {pins : List (Addr × Obj)} {σ : L2.St} {H : Hp} {s : Shared} {y : V} {u : Value} {C : Addr} (I : Inv X pins σ H s) (ry : RelV y u) (p : plainV X.K y H) :
    ∃ tb, PySem.W.Looks (model X.prog X.w) s.heap (typeOf u) tb ∧ PySem.W.notFirst X.K C tb = true := by
  rcases p with rfl | ⟨i, rfl⟩ | ⟨z, rfl⟩ | ⟨a, xs, rfl, h⟩ | ⟨a, xs, rfl, h⟩
  · cases ry
    exact ⟨.type "NoneType", PySem.W.Looks.of_pure rfl, not_first (bm := [.type "NoneType", .type "object"]) (by decide +kernel) (by simp)⟩
  · obtain ⟨t, rfl⟩ := ry
    exact ⟨.type "int", PySem.W.Looks.of_pure rfl, not_first (bm := [.type "int", .type "object"]) (by decide +kernel) (by simp)⟩
  · obtain ⟨t, rfl⟩ := ry
    exact ⟨.type "str", PySem.W.Looks.of_pure rfl, not_first (bm := [.type "str", .type "object"]) (by decide +kernel) (by simp)⟩
  · obtain rfl : u = Value.ref a := ry
    obtain ⟨its, r, ⟨o, n, e, ec, _⟩, _⟩ := I.list h
    refine ⟨.type "list", ?_, not_first (bm := [.type "list", .type "object"]) (by decide +kernel) (by simp)⟩
    rw [← ec]
    exact (PySem.W.Looks.ld e).andThen PySem.W.Looks.now
  · obtain rfl : u = Value.ref a := ry
    obtain ⟨its, r, ⟨o, e, ec, _⟩, _⟩ := I.tuple h
    refine ⟨.type "tuple", ?_, not_first (bm := [.type "tuple", .type "object"]) (by decide +kernel) (by simp)⟩
    rw [← ec]
    exact (PySem.W.Looks.ld e).andThen PySem.W.Looks.now
def rOwnP (K : Fg) (C : Addr) (m : M Sl) : R2 := fun x y H Q => insV C x H ∧ plainV K y H ∧ told2 K m x y H Q
def rOwnPN (K : Fg) (C : Addr) (m : M Sl) : R2 := fun x y H Q => insV C x H ∧ plainV K y H ∧ told2N K m x y H Q
section
variable {X : Cx} {CX : CXT} {k : Nat} {C : Addr} {m : M Sl}
theorem op_ownP (D : Dq X.prog X.w X.K X.mg X.base CX0 k C "__eq__" 1 [] gPos (spP X.K 2 m)) (rm : Rm k X.A) : OpR X (compareOp .Eq) (rOwnP X.K C m) := by
  obtain ⟨f, fd, ps, gF, gV, c, M, F, B, pu⟩ := D.ex
  intro pins s σ H x y v u Q I rx ry hq
  obtain ⟨⟨a, dx, fs, rfl, ha⟩, hp, q⟩ := hq
  obtain rfl : v = Value.ref a := rx
  obtain ⟨tb, hb, hn⟩ := looks_plain (C := C) I ry hp
  obtain ⟨mA, J, _⟩ := ins_get I.hok ha
  obtain ⟨od, J, _⟩ := J.look
  obtain ⟨z, hF⟩ := I.fr
  refine PySem.W.cmp_K (op := .Eq) (tb := tb) rm.r.units0 hF I.ok.mod.kin J hb hn M.at_ M.fn ?_
  have r0 : Vals [V.ref a, y] [Value.ref a, u] := .cons rfl (.cons ry .nil)
  have g := q (gV [V.ref a, y] []) (fun H0 d e rd re => rds_of (pu H0 σ [.d d, .d e] [] [V.ref a, y] [] rfl rfl (.cons rd (.cons re .nil)) .nil))
  refine thn (F.run (args := ⟨[Value.ref a, u], _⟩) rm (pa0 σ) I (B.to s [Value.ref a, u] [] I.kIn rfl rfl) (B.rel r0 .nil) g) fun r s' hr => ?_
  obtain ⟨z, H', I', rz, ⟨t, rfl⟩, h⟩ := hr
  cases rz
  exact ⟨.bl t, H', I', rfl, h⟩
theorem op_ownPN (D : Dq X.prog X.w X.K X.mg X.base CX0 k C "__eq__" 1 [] gPos (spP X.K 2 m)) (N : NeOk X.K C) (rm : Rm (k + 1) X.A) : OpR X (compareOp .NotEq) (rOwnPN X.K C m) := by
  obtain ⟨f, fd, ps, gF, gV, c, M, F, B, pu⟩ := D.ex
  intro pins s σ H x y v u Q I rx ry hq
  obtain ⟨⟨a, dx, fs, rfl, ha⟩, hp, q⟩ := hq
  obtain rfl : v = Value.ref a := rx
  obtain ⟨tb, hb, hn⟩ := looks_plain (C := C) I ry hp
  obtain ⟨mA, J, _⟩ := ins_get I.hok ha
  obtain ⟨od, J, _⟩ := J.look
  have r0 : Vals [V.ref a, y] [Value.ref a, u] := .cons rfl (.cons ry .nil)
  have g := q (gV [V.ref a, y] []) (fun H0 d e rd re => rds_of (pu H0 σ [.d d, .d e] [] [V.ref a, y] [] rfl rfl (.cons rd (.cons re .nil)) .nil))
  refine ne_own (tb := tb) rm.in1.r.units0 rm.r.units0 I.kIn J hb hn N.ob M.at_ M.fn N.ne ?_
  refine thn (GFn.below (args := ⟨[Value.ref a, u], _⟩) F rfl rm.in1 I (B.to s [Value.ref a, u] [] I.kIn rfl rfl) (B.rel r0 .nil) g) fun r s' hr => ?_
  obtain ⟨z, H', I', rz, t, rfl, h⟩ := hr
  cases rz
  exact ⟨t, rfl, .bl (!t), H', I', rfl, h⟩
end
def plainD : Dt → Bool
  | .non => true
  | .int _ => true
  | .str _ => true
  | .lst _ => true
  | .tup _ => true
  | _ => false
theorem plain_rd {K : Fg} {H0 H : Hp} {e : Dt} {y : V} (sm : Same H0 H) (ry : RD K H0 e y) (h : plainD e = true) : plainV K y H := by
  cases e with
  | non => exact .inl ry.non_inv
  | int i => exact .inr (.inl ⟨i, ry.int_inv⟩)
  | str z => exact .inr (.inr (.inl ⟨z, ry.str_inv⟩))
  | lst ds => obtain ⟨a, xs, rfl, h1, _⟩ := ry.lst_inv; exact .inr (.inr (.inr (.inl ⟨a, xs, rfl, .inl (.inl (sm _ _ h1))⟩)))
  | tup ds => obtain ⟨a, xs, rfl, h1, _⟩ := ry.tup_inv; exact .inr (.inr (.inr (.inr ⟨a, xs, rfl, sqT_mono sm h1⟩)))
  | _ => cases h
def gOwnP (C : Addr) (m : M Sl) (d e : Dt) : Option Sl := match d with
  | .obj A _ _ => if A = C ∧ plainD e = true then (match callD 2 m [] [.d d, .d e] [] with
    | some (.ok (.val (.bl t)), _) => some (.val (.bl t))
    | _ => none) else none
  | _ => none
def gOwnPN (C : Addr) (m : M Sl) (d e : Dt) : Option Sl := match d with
  | .obj A _ _ => if A = C ∧ plainD e = true then (match callD 2 m [] [.d d, .d e] [] with
    | some (.ok (.val (.bl t)), _) => some (.val (.bl (!t)))
    | _ => none) else none
  | _ => none
instance vOwnP {K : Fg} {C : Addr} {m : M Sl} : OpV K (rOwnP K C m) (gOwnP C m) where
  run := fun x y d e s H0 H Q sm rx ry g h => by
    unfold gOwnP at g
    split at g
    · rename_i A ns ds
      split at g
      · rename_i hc
        obtain ⟨rfl, hp⟩ := hc
        split at g
        · rename_i t ρ' e1
          cases g
          obtain ⟨a, dx, fs, rfl, ha, _⟩ := rx.obj_inv
          refine ⟨⟨a, dx, fs, rfl, sm _ _ ha⟩, plain_rd sm ry hp, fun us hus => ?_⟩
          have R : Rep K ⟨H, H0, []⟩ [] H0 H [] := ⟨rfl, Same.refl _, sm, fun _ _ z _ => z, fun a _ z _ => z, fun _ z => z, fun i d z => by simp at z, fun i o z => by simp at z, fun i j o o' a z => by simp at z⟩
          have q := callP_run (g := m) (E0 := EN []) R (ArRs.data (σ := []) (hus H0 _ _ rx ry)) RDs.nil e1 (Q := fun v H' => (∃ b, v = .bl b) ∧ Q v H') (fun v H0' H' s1 R1 => ?_)
          · rwa [List.append_nil] at q
          · obtain ⟨v', ev, rd⟩ := R1.val 0 _ rfl
            obtain rfl : v = v' := Option.some.inj (Option.some.inj ev)
            have ev2 := rd.bl_inv
            exact ⟨⟨_, ev2⟩, h v H0' H' ⟨s1, fun a o z => R1.s3 a o z (by simp), R1.s2, fun a z z0 => R1.s4 a z z0 (by simp)⟩ rd⟩
        · cases g
      · cases g
    · cases g
instance vOwnPN {K : Fg} {C : Addr} {m : M Sl} : OpV K (rOwnPN K C m) (gOwnPN C m) where
  run := fun x y d e s H0 H Q sm rx ry g h => by
    unfold gOwnPN at g
    split at g
    · rename_i A ns ds
      split at g
      · rename_i hc
        obtain ⟨rfl, hp⟩ := hc
        split at g
        · rename_i t ρ' e1
          cases g
          obtain ⟨a, dx, fs, rfl, ha, _⟩ := rx.obj_inv
          refine ⟨⟨a, dx, fs, rfl, sm _ _ ha⟩, plain_rd sm ry hp, fun us hus => ?_⟩
          have R : Rep K ⟨H, H0, []⟩ [] H0 H [] := ⟨rfl, Same.refl _, sm, fun _ _ z _ => z, fun a _ z _ => z, fun _ z => z, fun i d z => by simp at z, fun i o z => by simp at z, fun i j o o' a z => by simp at z⟩
          have q := callP_run (g := m) (E0 := EN []) R (ArRs.data (σ := []) (hus H0 _ _ rx ry)) RDs.nil e1 (Q := fun v H' => ∃ b, v = .bl b ∧ Q (.bl (!b)) H') (fun v H0' H' s1 R1 => ?_)
          · rwa [List.append_nil] at q
          · obtain ⟨v', ev, rd⟩ := R1.val 0 _ rfl
            obtain rfl : v = v' := Option.some.inj (Option.some.inj ev)
            have ev2 := rd.bl_inv
            exact ⟨t, ev2, h (.bl (!t)) H0' H' ⟨s1, fun a o z => R1.s3 a o z (by simp), R1.s2, fun a z z0 => R1.s4 a z z0 (by simp)⟩ RD.bl⟩
        · cases g
      · cases g
    · cases g
/-- the greatest common part of two numbers -/
def gGcd : List Dt → Option Sl
  | [.int a, .int b] => some (.val (.int (Nat.gcd a.natAbs b.natAbs : Nat)))
  | _ => none
instance vGcd {K : Fg} : CallV K rGcd gGcd where
  run := fun xs ds s H0 H Q sm rx g h => by
    unfold gGcd at g
    split at g
    · cases g
      obtain ⟨v, r, rfl, h1, h2⟩ := rx.inv
      obtain ⟨v2, r2, rfl, h3, h4⟩ := h2.inv
      obtain rfl := RDs.nil_inv h4
      exact ⟨_, _, by rw [h1.int_inv, h3.int_inv], h _ _ _ (Grow.refl sm) RD.int⟩
    · cases g
end DL

end
section
set_option Elab.async false
set_option linter.all false
set_option maxRecDepth 100000
set_option maxHeartbeats 4000000
/-! N5: a number against an instance with an own __eq__. -/
namespace DL
open PySem PySem.Spec L2 PySem.W
section
variable {prog : Program} {w : World} {M : Model} {A : Around} {E : Value → Shared → Prop} {s : Shared} {K : PySem.W.Frag} {x C f : Addr} {ox : Obj} {od : Option Obj} {n : Int} {t : Tok}
theorem int_ref {Q : Fin → Shared → Prop} (hx : s.heap.get? x = some ox) (hd : ox.data = .plain) (h : Q (.done (.ret .notImplemented)) s) : wpAny M A (Builtin.«int.__eq__» ⟨[.int n t, .ref x], []⟩) Q E s := by
  obtain ⟨hp, g, d, tk, os⟩ := s
  obtain ⟨cls, dict, data, slots⟩ := ox
  cases hd
  wp_walk using wpAny_loadPart' hx
  exact h
theorem int_own {Q : Value → Shared → Prop} (hu : A.units < cLine) (X : K.In s.heap) (I : PySem.W.InstAt s.heap x ox C od) (hd : ox.data = .plain) (hm : PySem.W.subIn K (.ref C) (.type "int") = some false)
    (hs : PySem.W.findIn K (.ref C) "__eq__" = some (some (.ref f))) (hf : PySem.W.isFn K (.ref f) = true) (h : wpAny (model prog w) A (call (.ref f) [.ref x, .int n t]) (PySem.W.CmpBack Q) E s) :
    wpAny (model prog w) A (richCompare .Eq (.int n t) (.ref x)) Q E s := by
  have one : wpAny (model prog w) A (tryCompare (.int n t) "__eq__" (.ref x)) (fun r s' => r = none ∧ s' = s) E s :=
    wpAny_tryCompare_declines (typeIs_int s n t) F.slot_int_eq (wpAny_call_entry F.slot_int_eq (typeIs_int s n t) F.entry_int_eq (int_ref I.at_ hd ⟨_, rfl, rfl, rfl, rfl⟩) (F.args_int_eq_2 _ _))
  have two : wpAny (model prog w) A (tryCompare (.ref x) "__eq__" (.int n t)) (fun r s' => ∃ v, r = some v ∧ Q v s') E s := by
    unfold tryCompare
    refine wpAny_bind (PySem.W.ifBound_K X I hs hf (wpAny_mono h (fun v s' hv => ?_) fun _ _ e => e))
    cases v <;> first | exact hv.elim | exact wpAny_pure ⟨_, rfl, hv⟩
  have ot : oneThing? .Eq (.int n t) (.ref x) = none := rfl
  simp only [richCompare, cmpInfo_Eq, ot]
  refine wpAny_holding (wpAny_bind (wpAny_cRoomFor hu ?_))
  refine wpAny_bind (wpAny_typeOf (typeIs_int s n t) ?_)
  refine wpAny_bind (I.type.here ?_)
  split
  · refine wpAny_bind ((PySem.W.looks_subIn X hm).here ?_)
    simp only [Bool.false_eq_true, if_false, Bool.not_false, if_true]
    refine wpAny_bind (m := tryCompare (.int n t) _ (.ref x)) (wpAny_mono one (fun r s1 z => ?_) fun _ _ e => e)
    obtain ⟨rfl, rfl⟩ := z
    refine wpAny_bind (m := tryCompare (.ref x) _ (.int n t)) (wpAny_mono two (fun r s2 z => ?_) fun _ _ e => e)
    obtain ⟨v, rfl, q⟩ := z
    exact wpAny_pure q
  · rename_i q
    exact absurd (by simp) q
end
def rOwnI (K : Fg) (C : Addr) (m : M Sl) : R2 := fun x y H Q => (∃ i, x = .int i) ∧ insV C y H ∧ told2 K m y x H Q
section
variable {X : Cx} {CX : CXT} {k : Nat} {C : Addr} {m : M Sl}
theorem op_ownI (D : Dq X.prog X.w X.K X.mg X.base CX0 k C "__eq__" 1 [] gPos (spP X.K 2 m)) (hm : PySem.W.subIn X.K (.ref C) (.type "int") = some false) (rm : Rm k X.A) : OpR X (compareOp .Eq) (rOwnI X.K C m) := by
  obtain ⟨f, fd, ps, gF, gV, c, M, F, B, pu⟩ := D.ex
  intro pins s σ H x y v u Q I rx ry hq
  obtain ⟨⟨i, rfl⟩, ⟨a, dx, fs, rfl, ha⟩, q⟩ := hq
  obtain rfl : u = Value.ref a := ry
  obtain ⟨t, rfl⟩ := rx
  obtain ⟨mA, J, _⟩ := ins_get I.hok ha
  obtain ⟨od, J, _⟩ := J.look
  have r0 : Vals [V.ref a, V.int i] [Value.ref a, Value.int i t] := .cons rfl (.cons ⟨t, rfl⟩ .nil)
  have g := q (gV [V.ref a, V.int i] []) (fun H0 d e rd re => rds_of (pu H0 σ [.d d, .d e] [] [V.ref a, V.int i] [] rfl rfl (.cons rd (.cons re .nil)) .nil))
  refine int_own rm.r.units0 I.kIn J rfl hm M.at_ M.fn ?_
  refine thn (F.run (args := ⟨[Value.ref a, Value.int i t], _⟩) rm (pa0 σ) I (B.to s [Value.ref a, Value.int i t] [] I.kIn rfl rfl) (B.rel r0 .nil) g) fun r s' hr => ?_
  obtain ⟨z, H', I', rz, ⟨b, rfl⟩, h⟩ := hr
  cases rz
  exact ⟨.bl b, H', I', rfl, h⟩
end
def gOwnI (C : Addr) (m : M Sl) (d e : Dt) : Option Sl := match d, e with
  | .int i, .obj A ns ds => if A = C then (match callD 2 m [] [.d (.obj A ns ds), .d (.int i)] [] with
    | some (.ok (.val (.bl t)), _) => some (.val (.bl t))
    | _ => none) else none
  | _, _ => none
instance vOwnI {K : Fg} {C : Addr} {m : M Sl} : OpV K (rOwnI K C m) (gOwnI C m) where
  run := fun x y d e s H0 H Q sm rx ry g h => by
    unfold gOwnI at g
    split at g
    · rename_i i A ns ds
      split at g
      · rename_i hc
        subst hc
        split at g
        · rename_i t ρ' e1
          cases g
          obtain ⟨a, dx, fs, rfl, ha, _⟩ := ry.obj_inv
          refine ⟨⟨i, rx.int_inv⟩, ⟨a, dx, fs, rfl, sm _ _ ha⟩, fun us hus => ?_⟩
          have R : Rep K ⟨H, H0, []⟩ [] H0 H [] := ⟨rfl, Same.refl _, sm, fun _ _ z _ => z, fun a _ z _ => z, fun _ z => z, fun i d z => by simp at z, fun i o z => by simp at z, fun i j o o' a z => by simp at z⟩
          have q := callP_run (g := m) (E0 := EN []) R (ArRs.data (σ := []) (hus H0 _ _ ry rx)) RDs.nil e1 (Q := fun v H' => (∃ b, v = .bl b) ∧ Q v H') (fun v H0' H' s1 R1 => ?_)
          · rwa [List.append_nil] at q
          · obtain ⟨v', ev, rd⟩ := R1.val 0 _ rfl
            obtain rfl : v = v' := Option.some.inj (Option.some.inj ev)
            have ev2 := rd.bl_inv
            exact ⟨⟨_, ev2⟩, h v H0' H' ⟨s1, fun a o z => R1.s3 a o z (by simp), R1.s2, fun a z z0 => R1.s4 a z z0 (by simp)⟩ rd⟩
        · cases g
      · cases g
    · cases g
end DL

end
section
set_option Elab.async false
set_option linter.all false
set_option maxRecDepth 100000
set_option maxHeartbeats 4000000
/-! N6: `in` over a list whose items are compared by defs. -/
namespace DL
open PySem PySem.Spec L2 PySem.W
open AutoSeq1 (wpAny_loadPart')
open MeetsSeq MeetsSeq2 MeetsSeq3 SeqRoads2
section
variable {prog : Program} {w : World} {A : Around} {R : Result → Shared → Prop}
theorem in_loopG (l : Addr) (x : Value) (N : Nat) (bs : Nat → Bool) (I : Shared → Prop)
    (hl : ∀ s, I s → ∃ (items : Array Value) (n : Nat), s.heap.get? l = some { cls := .type "list", data := .seq items n } ∧ items.size = N ∧ ∀ (i : Nat) (h1 : i < items.size), wpAny (model prog w) A.in1 (eqBool items[i] x) (fun r s' => r = bs i ∧ I s') (fun e s' => R (.error e) s') s)
    (no : (∀ j < N, bs j = false) → ∀ s, I s → R (.ok (.ret (.bool false))) s) (yes : ∀ j < N, bs j = true → ∀ s, I s → R (.ok (.ret (.bool true))) s) (k : Nat) :
    ∀ i : Nat, N - i = k → i ≤ N → (∀ j < i, bs j = false) → ∀ s, I s →
      wpAny (model prog w) A.in1 (Builtin.«list.__contains__.loop» ⟨[.ref l, x, rawInt i], []⟩) (GQ.FinOf prog w A R) (fun e s' => R (.error e) s') s := by
  induction k with
  | zero =>
    intro i hk hi hb s h
    obtain ⟨items, n, hl1, hs1, _⟩ := hl _ h
    obtain rfl : i = N := by omega
    have hR : R (.ok (.ret (.bool false))) s := no hb s h
    obtain ⟨hp, g, d, tk, os⟩ := s
    wp_walk using wpAny_loadPart' hl1
    have hi1 : items[((i : Nat) : Int).toNat]? = none := by simp; omega
    rw [hi1]
    wp_walk
    exact hR
  | succ k ih =>
    intro i hk hi hb s h
    obtain ⟨items, n, hl1, hs1, turn⟩ := hl _ h
    have hlt : i < items.size := by omega
    have ht := turn i hlt
    obtain ⟨hp, g, d, tk, os⟩ := s
    wp_walk using wpAny_loadPart' hl1
    have hi1 : items[((i : Nat) : Int).toNat]? = some items[i] := by simp [hlt]
    have hc : ((i : Int) + 1) = ((i + 1 : Nat) : Int) := by omega
    rw [hi1]
    refine wpAny_bind (wpAny_mono ht (fun r s2 h2 => ?_) fun _ _ x => x)
    obtain ⟨rfl, h2⟩ := h2
    cases q : bs i with
    | true =>
      have hR := yes i (by omega) q s2 h2
      obtain ⟨hp2, g2, d2, tk2, os2⟩ := s2
      wp_walk
      exact hR
    | false =>
      have hrec := ih (i + 1) (by omega) (by omega) (fun j hj => by
        rcases Nat.lt_or_ge j i with z | z
        · exact hb j z
        · obtain rfl : j = i := by omega
          exact q) s2 h2
      obtain ⟨hp2, g2, d2, tk2, os2⟩ := s2
      wp_walk
      rw [hc]
      exact ⟨plainId_quiet plain_contains_loop _, codeAny_builtin entry_contains_loop (by
        rw [Around.under_plainId plain_contains_loop _]
        exact hrec)⟩
theorem in_listG (l : Addr) (x : Value) (N : Nat) (bs : Nat → Bool) (I : Shared → Prop)
    (hl : ∀ s, I s → ∃ (items : Array Value) (n : Nat), s.heap.get? l = some { cls := .type "list", data := .seq items n } ∧ items.size = N ∧ ∀ (i : Nat) (h1 : i < items.size), wpAny (model prog w) A.in1 (eqBool items[i] x) (fun r s' => r = bs i ∧ I s') (fun e s' => R (.error e) s') s)
    (no : (∀ j < N, bs j = false) → ∀ s, I s → R (.ok (.ret (.bool false))) s) (yes : ∀ j < N, bs j = true → ∀ s, I s → R (.ok (.ret (.bool true))) s) {s : Shared} (h : I s) :
    wpAny (model prog w) A.in1 (Builtin.«list.__contains__» ⟨[.ref l, x], []⟩) (GQ.FinOf prog w A R) (fun e s' => R (.error e) s') s := by
  obtain ⟨items, n, hl1, hs1, _⟩ := hl _ h
  have hrec := in_loopG (A := A) (R := R) l x N bs I hl no yes _ 0 rfl (Nat.zero_le _) (fun j hj => absurd hj (Nat.not_lt_zero _)) s h
  obtain ⟨hp, g, d, tk, os⟩ := s
  wp_walk using wpAny_loadPart' hl1
  exact ⟨plainId_quiet plain_contains_loop _, codeAny_builtin entry_contains_loop (by
    rw [Around.under_plainId plain_contains_loop _]
    exact hrec)⟩
end
section
variable {prog : Program} {w : World} {A : Around} {E : Value → Shared → Prop} {s : Shared}
theorem inG {l : Addr} {x : Value} {N : Nat} {Q : Value → Shared → Prop} (bs : Nat → Bool) (I : Shared → Prop)
    (hl : ∀ s, I s → ∃ (items : Array Value) (n : Nat), s.heap.get? l = some { cls := .type "list", data := .seq items n } ∧ items.size = N ∧ ∀ (i : Nat) (h1 : i < items.size), wpAny (model prog w) A.in1 (eqBool items[i] x) (fun r s' => r = bs i ∧ I s') E s)
    (fin : ∀ s b, (b = true ↔ ∃ j < N, bs j = true) → I s → Q (.bool b) s) (h : I s) : wpAny (model prog w) A (compareOp .In x (.ref l)) Q E s := by
  obtain ⟨items, n, hl1, _⟩ := hl _ h
  show wpAny _ _ (do return .bool (← contains (.ref l) x)) Q E s
  refine wpAny_bind (wpAny_contains_slot ⟨_, hl1, rfl⟩ F.slot_list_contains (GQ.call_here F.slot_list_contains ⟨_, hl1, rfl⟩ F.entry_list_contains (F.args_list_contains_2 _ _)
    (in_listG (R := wants (fun v s' => wpAny (model prog w) A (truthy v) (fun b s2 => wpAny (model prog w) A (pure (.bool b)) Q E s2) E s') E) l x N bs I hl (fun hb s1 q => ?_) (fun j hj hb s1 q => ?_) h)))
  · exact wpAny_truthy_bool (wpAny_pure (fin s1 false ⟨fun z => (nomatch z), fun ⟨j, hj, z⟩ => by rw [hb j hj] at z; cases z⟩ q))
  · exact wpAny_truthy_bool (wpAny_pure (fin s1 true ⟨fun _ => ⟨j, hj, hb⟩, fun _ => rfl⟩ q))
end
end DL

end
section
set_option Elab.async false
set_option linter.all false
set_option maxRecDepth 100000
set_option maxHeartbeats 4000000
/-! N7: `in` over a list of instances with an own __eq__. -/
namespace DL
open PySem PySem.Spec L2 PySem.W
/-- what a def of two tells of these two, in this heap and in any that has grown of it: this truth -/
def told2B (K : Fg) (m : M Sl) (x y : V) (H : Hp) (b : Bool) : Prop := ∀ H', Ext H H' → ∀ us, (∀ (H0 : Hp) (d e : Dt), RD K H0 d x → RD K H0 e y → RDs K H0 [d, e] us) → spP K 2 m us H' (fun v H2 => v = .bl b ∧ Ext H' H2) (EN [])
def rInOwn (K : Fg) (C : Addr) (m : M Sl) : R2 := fun x y H Q => insV C x H ∧ ∃ (a : Addr) (xs : List V) (bs : Nat → Bool), y = .ref a ∧ H a = some (.lst xs) ∧
  (∀ (i : Nat) (z : V), xs[i]? = some z → insV C z H ∧ (z = x → bs i = true) ∧ told2B K m z x H (bs i)) ∧ ∀ b H', (b = true ↔ ∃ j < xs.length, bs j = true) → Ext H H' → Q (.bl b) H'
section
variable {X : Cx} {k : Nat} {C : Addr} {m : M Sl}
theorem op_inOwn (D : Dq X.prog X.w X.K X.mg X.base CX0 k C "__eq__" 1 [] gPos (spP X.K 2 m)) (rm : Rm (k + 1) X.A) : OpR X (compareOp .In) (rInOwn X.K C m) := by
  obtain ⟨f, fd, ps, gF, gV, c, M, F, B, pu⟩ := D.ex
  intro pins s σ H x y v u Q I rx ry hq
  obtain ⟨⟨b, dy, gs, rfl, hb⟩, l, xs, bs, rfl, hl, hz, fin⟩ := hq
  obtain rfl : v = Value.ref b := rx
  obtain rfl : u = Value.ref l := ry
  refine inG (N := xs.length) bs (fun s' => ∃ H', Inv X pins σ H' s' ∧ Ext H H') (fun s1 ⟨H1, I1, e1⟩ => ?_) (fun s1 t ht ⟨H1, I1, e1⟩ => ?_) ⟨H, I, Ext.rfl'⟩
  · obtain ⟨z, its, n, r, e⟩ := I1.hok l _ (e1 _ _ hl)
    refine ⟨its.toArray, n, e, by rw [List.size_toArray, ← r.length], fun i hi => ?_⟩
    obtain ⟨zv, hzv, rel⟩ : ∃ zv, xs[i]? = some zv ∧ RelV zv its.toArray[i] := by
      have z1 : its[i]? = some its.toArray[i] := by
        have z2 : i < its.length := by simpa using hi
        rw [List.getElem?_eq_getElem z2] <;> simp
      have z3 : i < xs.length := by rw [r.length]; simpa using hi
      obtain ⟨q, hq, rq⟩ := r.get (List.getElem?_eq_getElem z3)
      rw [z1] at hq
      exact ⟨_, List.getElem?_eq_getElem z3, by rw [Option.some.inj hq]; exact rq⟩
    obtain ⟨⟨a, dx, fs, rfl, ha⟩, same, told⟩ := hz i zv hzv
    rw [show its.toArray[i] = Value.ref a from rel]
    by_cases hab : a = b
    · subst hab
      rw [same rfl]
      exact SeqAt.EqAt.same (A := X.A.in1) (s := s1) (.ref a) X.prog X.w X.xe _ ⟨rfl, H1, I1, e1⟩
    · obtain ⟨mA, J, _⟩ := ins_get I1.hok (e1 _ _ ha)
      obtain ⟨mB, J', _⟩ := ins_get I1.hok (e1 _ _ hb)
      obtain ⟨od, J, _⟩ := J.look
      obtain ⟨od', J', _⟩ := J'.look
      obtain ⟨z, hF⟩ := I1.fr
      refine GQ.eqBool_refG hab (PySem.W.cmp_K (op := .Eq) (tb := .ref C) rm.in1.r.units0 hF I1.ok.mod.kin J J'.type (by simp [PySem.W.notFirst]) M.at_ M.fn ?_)
      have r0 : Vals [V.ref a, V.ref b] [Value.ref a, Value.ref b] := .cons rfl (.cons rfl .nil)
      have g := told H1 e1 (gV [V.ref a, V.ref b] []) (fun H0 d e rd re => rds_of (pu H0 σ [.d d, .d e] [] [V.ref a, V.ref b] [] rfl rfl (.cons rd (.cons re .nil)) .nil))
      refine thn (GFn.below (args := ⟨[Value.ref a, Value.ref b], _⟩) F rfl rm.in1 I1 (B.to s1 [Value.ref a, Value.ref b] [] I1.kIn rfl rfl) (B.rel r0 .nil) g) fun r s' hr => ?_
      obtain ⟨z, H', I', rz, rfl, h⟩ := hr
      cases rz
      exact ⟨_, rfl, rfl, H', I', e1.trans h⟩
  · exact ⟨.bl t, H1, I1, rfl, fin t H1 ht e1⟩
end
/-- two that are known to be different things: some whole number of the one is another in the other -/
def apartD : Dt → Dt → Bool
  | .obj _ _ ds, .obj _ _ es => (ds.zip es).any fun p => match p with
    | (.int i, .int j) => i != j
    | _ => false
  | _, _ => false
theorem apart_ne {K : Fg} {H : Hp} {d e : Dt} {x y : V} (h1 : RD K H d x) (h2 : RD K H e y) (h : apartD d e = true) : x ≠ y := by
  rintro rfl
  unfold apartD at h
  split at h
  · rename_i C ns ds C2 ns2 es
    obtain ⟨a, dx, fs, rfl, e1, _, r1⟩ := h1.obj_inv
    obtain ⟨a2, dx2, fs2, ea, e2, _, r2⟩ := h2.obj_inv
    cases ea
    rw [e1] at e2
    cases e2
    have go : ∀ (ds es : List Dt) (vs : List V), RDs K H ds vs → RDs K H es vs → ((ds.zip es).any fun p => match p with
        | (.int i, .int j) => i != j
        | _ => false) = false := by
      intro ds
      induction ds with
      | nil => intro es vs _ _; simp
      | cons d ds ih =>
        intro es vs r1 r2
        cases es with
        | nil => simp
        | cons e es =>
          obtain ⟨v, vs2, rfl, a1, a2⟩ := r1.inv
          obtain ⟨v2, vs3, ev, b1, b2⟩ := r2.inv
          cases ev
          rw [List.zip_cons_cons, List.any_cons, ih es vs2 a2 b2, Bool.or_false]
          split
          · rename_i i j hp
            cases hp
            have := a1.int_inv.symm.trans b1.int_inv
            cases this
            simp
          · rfl
    rw [go _ _ _ r1 r2] at h
    cases h
  · cases h
def inBs (C : Addr) (m : M Sl) (d : Dt) : List Dt → Option (List Bool)
  | [] => some []
  | e :: es => match gOwn C m e d, inBs C m d es with
    | some (.val (.bl b)), some bs => if b || apartD e d then some (b :: bs) else none
    | _, _ => none
def gInOwn (C : Addr) (m : M Sl) (d e : Dt) : Option Sl := match e with
  | .lst es => if insD C d then (inBs C m d es).map fun bs => .val (.bl (bs.any id)) else none
  | _ => none
where insD (C : Addr) : Dt → Bool
  | .obj A _ _ => A == C
  | _ => false
theorem told_of {K : Fg} {C : Addr} {m : M Sl} {d e : Dt} {x y : V} {H0 H : Hp} {b : Bool} (sm : Same H0 H) (rx : RD K H0 d x) (ry : RD K H0 e y) (g : gOwn C m d e = some (.val (.bl b))) : insV C x H ∧ told2B K m x y H b := by
  unfold gOwn at g
  split at g
  · rename_i A ns ds B ns2 ds2
    split at g
    · rename_i hc
      obtain ⟨rfl, rfl⟩ := hc
      split at g
      · rename_i t ρ' e1
        cases g
        obtain ⟨a, dx, fs, rfl, ha, _⟩ := rx.obj_inv
        refine ⟨⟨a, dx, fs, rfl, sm _ _ ha⟩, fun H' ex us hus => ?_⟩
        have sm' : Same H0 H' := sm.trans ex
        have R : Rep K ⟨H', H0, []⟩ [] H0 H' [] := ⟨rfl, Same.refl _, sm', fun _ _ z _ => z, fun a _ z _ => z, fun _ z => z, fun i d z => by simp at z, fun i o z => by simp at z, fun i j o o' a z => by simp at z⟩
        have q := callP_run (g := m) (E0 := EN []) R (ArRs.data (σ := []) (hus H0 _ _ rx ry)) RDs.nil e1 (Q := fun v H2 => v = .bl b ∧ Ext H' H2) (fun v H0' H2 s1 R1 => ?_)
        · rwa [List.append_nil] at q
        · obtain ⟨v', ev, rd⟩ := R1.val 0 _ rfl
          obtain rfl : v = v' := Option.some.inj (Option.some.inj ev)
          exact ⟨rd.bl_inv, fun a o z => R1.s3 a o z (by simp)⟩
      · cases g
    · cases g
  · cases g
theorem inBs_at {C : Addr} {m : M Sl} {d : Dt} : ∀ {es : List Dt} {bs : List Bool}, inBs C m d es = some bs → bs.length = es.length ∧ ∀ (i : Nat) (e : Dt), es[i]? = some e → gOwn C m e d = some (.val (.bl (bs.getD i false))) ∧ (bs.getD i false = true ∨ apartD e d = true)
  | [], bs, h => by
    cases h
    exact ⟨rfl, fun i e h => by simp at h⟩
  | e :: es, bs, h => by
    unfold inBs at h
    split at h
    · rename_i b bs2 h1 h2
      split at h
      · rename_i hc
        cases h
        obtain ⟨l, ih⟩ := inBs_at h2
        refine ⟨by rw [List.length_cons, List.length_cons, l], fun i e' q => ?_⟩
        cases i with
        | zero =>
          have : e = e' := by simpa using q
          subst this
          exact ⟨h1, by simpa using hc⟩
        | succ i => simpa using ih i e' (by simpa using q)
      · cases h
    · cases h
instance vInOwn {K : Fg} {C : Addr} {m : M Sl} : OpV K (rInOwn K C m) (gInOwn C m) where
  run := fun x y d e s H0 H Q sm rx ry g h => by
    unfold gInOwn at g
    split at g
    · rename_i es
      split at g
      · rename_i hc
        obtain ⟨bs, hbs, hs⟩ := Option.map_eq_some_iff.mp g
        subst hs
        obtain ⟨bl, at_⟩ := inBs_at hbs
        obtain ⟨a, xs, rfl, ha, rs⟩ := ry.lst_inv
        have ix : insV C x H := by
          cases d with
          | obj A ns ds =>
            have : A = C := by simpa [gInOwn.insD] using hc
            subst this
            obtain ⟨b, dx, fs, rfl, hb, _⟩ := rx.obj_inv
            exact ⟨b, dx, fs, rfl, sm _ _ hb⟩
          | _ => cases hc
        refine ⟨ix, a, xs, fun i => bs.getD i false, rfl, sm _ _ ha, fun i z hz => ?_, fun b H' hb ex => ?_⟩
        · obtain ⟨e', he, re⟩ : ∃ e', es[i]? = some e' ∧ RD K H0 e' z := rs.getV hz
          obtain ⟨g1, g2⟩ := at_ i e' he
          obtain ⟨t1, t2⟩ := told_of sm re rx g1
          refine ⟨t1, fun hzx => ?_, t2⟩
          rcases g2 with g2 | g2
          · exact g2
          · exact absurd hzx (apart_ne re rx g2)
        · have eb : b = bs.any id := by
            have hl : xs.length = bs.length := by rw [rs.length, bl]
            have h1 : (bs.any id = true) ↔ ∃ j < xs.length, bs.getD j false = true := by
              rw [List.any_eq_true, hl]
              constructor
              · rintro ⟨t, ht, htt⟩
                obtain ⟨j, hj, rfl⟩ := List.getElem_of_mem ht
                exact ⟨j, hj, by simpa [hj] using htt⟩
              · rintro ⟨j, hj, hjt⟩
                exact ⟨bs[j], List.getElem_mem hj, by simpa [hj] using hjt⟩
            exact Bool.eq_iff_iff.mpr (hb.trans h1.symm)
          rw [eb]
          exact h _ H0 H' ⟨Same.refl _, ex, sm.trans ex, fun _ _ z => z⟩ RD.bl
      · cases g
    · cases g
end DL

end
section
set_option Elab.async false
set_option linter.all false
set_option maxRecDepth 100000
set_option maxHeartbeats 4000000
/-! N8: a caught exception that is kept by a name. -/
namespace DL
open PySem PySem.Spec L2 PyProof.Rows
/-- what 'except x as n: y = n' wishes of the body's exceptions -/
def wKeep (K : Fg) (c : Value) (i j : Nat) (Wout : WX) (D : Ends) : WX := fun cls d σ H => ∃ b, PySem.W.exmOne K cls c = some b ∧ (b = true → ∀ a, H a = none → D.nx (((σ.set i (some (.ref a))).set j (some (.ref a))).set i none) (upd H a (ExV cls d a))) ∧ (b = false → Wout cls d σ H)
section
variable {X : Cx} {x n y : Str} {c : Value} {i j : Nat} {body : List Stmt} {np pos pos' p1 p2 p3 : Pos} {tb : WX → TS} {Wout : WX}
theorem ps_keep (hs : X.stack = X.env :: X.outer) (hf : X.env.frame = some X.env.locals) (hex : X.ex = []) (hN : X.N.Nodup) (hi : X.N[i]? = some n) (hj : X.N[j]? = some y) (hy : X.env.scope.names.lookup y = some .local) (hln : X.env.kindOf n = some .local) (hc : Names X x c) (tk : Takes X Wout)
    (hb : ∀ (W : WX) (pn : List (Addr × Obj)) (xe : Value → Shared → Prop), Takes (X.tr pn xe) W → PassesOwn (model X.prog X.w) X.A X.env xe → PSs (X.tr pn xe) body (tb W))
    (hv : Vis X.env.scope n) (hd1 : (n == ("__debug__" : Str)) = false := by decide) (hd2 : (n == ("__classdict__" : Str)) = false := by decide) :
    PS X (.Try body [.ExceptHandler (some (.Name x np)) (some n) [.Assign [.Name y p3] (.Name n p1) p2] pos'] [] [] pos) (fun D σ H => tb (wKeep X.K c i j Wout D) D σ H) := by
  constructor
  intro pins s σ H D I h
  have ok := I.ok
  have frames : X.A.frames = some (X.env :: X.outer) := by rw [ok.frames, hs]
  have loc : Loc X.env.scope n := .inl hln
  refine wpAny_Try_except (wpAny_mono ((hb (wKeep X.K c i j Wout D) (X.pn ++ pins) _ (fun u s' air => ?_) PassesOwn.looking).run [] s σ H D (I.toTry _) h) ?_ fun _ _ z => z)
  · -- it is caught
    obtain ⟨a, G0, sI, pins', σ', H', cls, d, rfl, J', nb, up, sky, na, os, ag, b, hb1, yes, no⟩ := air
    have J : Inv X pins σ' H' sI := J'.ofTry ok
    have sky1 : Sky G0 (X.env :: X.outer) a (Zc cls d) X.env.locals s'.heap := hs ▸ sky
    show wpAny (model X.prog X.w) X.A (noteFrame (.ref a) X.env) _ _ _
    refine Sky.land Zc.steady frames hf sky1 fun h3 fly up3 => ?_
    have J3 : Inv X pins σ' H' { s' with heap := h3 } := J.landed nb fly.1 (up.trans up3) os ag
    obtain ⟨oe3, vs3, g3, z3, d3⟩ := fly.there
    have out : a ∉ frs (X.env :: X.outer) := fun hm => by
      obtain ⟨_, o, e, nf⟩ := fly.2.2.1.mem hm
      rw [g3] at e
      exact nf _ (Option.some.inj e ▸ d3)
    have nL : a ≠ X.env.locals := fun z => out (List.mem_filterMap.mpr ⟨X.env, List.mem_cons_self, by rw [hf, z]⟩)
    have nF : a ∉ X.fs := fun hm => by
      obtain ⟨e, he, q⟩ := List.mem_filterMap.mp hm
      exact out (List.mem_filterMap.mpr ⟨e, List.mem_cons_of_mem _ he, q⟩)
    have fresh : sI.heap.get? a = none := by
      cases q : sI.heap.get? a with
      | none => rfl
      | some o =>
        have := nb a o q (by rw [hs]; exact out)
        rw [fly.2.1] at this
        exact nomatch this
    have new : X.s_0.heap.get? a = none := by
      cases q : X.s_0.heap.get? a with
      | none => rfl
      | some o =>
        obtain ⟨o', e'⟩ := J.base.there a o q (by rw [hex]; exact fun z => nomatch z)
        rw [fresh] at e'
        exact nomatch e'
    have S3 := J3.suite g3 d3 na nL nF
    refine wpAny_handleBy_cons (codeAny_handlers_test ?_) (by intro q; cases q)
    have LT : PySem.W.Looks (model X.prog X.w) h3 (typeOf (.ref a)) cls := fun A Q E s k q => wpAny_typeOf_ref (k _ _ g3) (by rw [z3.1]; exact q)
    have LM := PySem.W.exm_one (M := model X.prog X.w) (J3.kIn) LT hb1
    have test : ∀ {Q : Value → Shared → Prop} {E : Value → Shared → Prop}, Q c { s' with heap := h3 } → wpAny (model X.prog X.w) (X.A.mark (some (.ref a))) (eval (.Name x np) X.env) Q E { s' with heap := h3 } := fun {Q E} q => by
      rcases hc with ⟨hg, hdbg, hm | ⟨hm, hv, hnn⟩⟩
      · exact ld_glob (X := X.suite a ((a, oe3) :: (X.pn ++ pins))) S3 hg hm q hdbg
      · exact ld_blt (X := X.suite a ((a, oe3) :: (X.pn ++ pins))) S3 hg hm hv q hnn hdbg
    refine test (LM.here ?_)
    cases b with
    | true =>
      refine codeAny_handlers_suite_as (HandSPX.lands_againZ fly fun h4 fly4 up4 => ?_)
      have J4 : Inv X pins σ' H' { s' with heap := h4 } := J.landed nb fly4.1 ((up.trans up3).trans up4) os ag
      obtain ⟨oe4, vs4, g4, z4, d4⟩ := fly4.there
      have S4 := J4.suite g4 d4 na nL nF
      refine store_ok (X := X.suite a ((a, oe4) :: (X.pn ++ pins))) (v := .ref a) S4 hN hi loc rfl (fun s5 S5 => ?_) (.inr hln)
      have keeping : PSs (X.suite a ((a, oe4) :: (X.pn ++ pins))) [.Assign [.Name y p3] (.Name n p1) p2] (tAsg (tVar i) (gName j)) := pss_one (ps_set (X := X.suite a ((a, oe4) :: (X.pn ++ pins))) hN hj (.inl hy) (pe_var hi hv hd1 hd2) (by rfl) (.inr hy))
      have lt : i < σ'.length := by
        rw [J.len]; exact (List.getElem?_eq_some_iff.mp hi).1
      refine wpAny_mono (keeping.run [] s5 _ H' { nx := fun σ6 H6 => σ6 = (σ'.set i (some (.ref a))).set j (some (.ref a)) ∧ H6 = H', rt := fun _ _ => False } S5 ⟨.ref a, by rw [List.getElem?_set_self lt], rfl, rfl⟩) ?_ fun _ _ z => z.elim
      rintro (_ | _ | _ | u) s6 z
      · obtain ⟨σ6, H6, S6, rfl, rfl⟩ := z
        have pa := S6.pin (a, oe4) (List.mem_append_left _ List.mem_cons_self)
        have K6 : Inv X ((a, oe4) :: pins) ((σ'.set i (some (.ref a))).set j (some (.ref a))) H6 s6 := (S6.unsuite ok).pins_of fun p hp => by
          rcases List.mem_cons.mp hp with rfl | hp
          · exact pa
          · exact (S6.unsuite ok).pin p (List.mem_append_right _ hp)
        refine gone_ok K6 hN hi hln fun s7 J7 => ?_
        have p7 := J7.pin (a, oe4) (List.mem_append_right _ List.mem_cons_self)
        have J8 : Inv X pins (((σ'.set i (some (.ref a))).set j (some (.ref a))).set i none) H6 s7 := J7.pins_of fun p hp => J7.pin p (List.mem_append_right _ (List.mem_cons_of_mem _ hp))
        refine ⟨_, _, inv_tracked J8 p7.1 z4 d4 na nL new (fun p hp z => ?_), yes rfl a na⟩
        have := (J.pin p hp).1
        rw [z, fresh] at this
        exact nomatch this
      · obtain ⟨_, _, _, q⟩ := z; exact q.elim
      · obtain ⟨_, _, _, q⟩ := z; exact q.elim
      · obtain ⟨_, _, _, _, _, q⟩ := z; exact q.elim
    | false =>
      show wpAny _ X.A (handleBy (.ref a) X.env []) _ _ _
      refine wpAny_handleBy_nil ?_
      obtain ⟨k1, k2, k3, oe, vs, T, oT, ts', he, hz, hd, h1, hr⟩ := id fly
      unfold PySem.passOn
      refine wpAny_bind (wpAny_field he hd h1 ?_)
      rw [if_neg (show ¬ ((Value.ref T == Value.none) = true) from by simp)]
      have fin : wpAny (model X.prog X.w) X.A (setFlight (.ref a) X.env.frame) (fun _ s4 => wpAny (model X.prog X.w) X.A (throw (.ref a) : Sem Flow) (SP X pins D) X.xe s4) X.xe { s' with heap := h3 } := by
        rw [hf]
        refine HandSPX.setFlight_upZ fly fun h4 hh4 up4 => wpAny_throw (tk _ _ ?_)
        exact ⟨a, G0, sI, pins, σ', H', cls, d, rfl, J, nb, (up.trans up3).trans up4, .inr (.inr (hs ▸ hh4)), na, os, ag, no rfl⟩
      first
        | exact wpAny_bind (wpAny_pure (wpAny_bind fin))
        | exact wpAny_bind fin
  · rintro (_ | _ | _ | u) s1 z
    · obtain ⟨σ1, H1, J1, q⟩ := z
      exact wpAny_execs_nil ⟨σ1, H1, J1.ofTry ok, q⟩
    · obtain ⟨σ1, H1, J1, q⟩ := z
      exact ⟨σ1, H1, J1.ofTry ok, q⟩
    · obtain ⟨σ1, H1, J1, q⟩ := z
      exact ⟨σ1, H1, J1.ofTry ok, q⟩
    · obtain ⟨v1, σ1, H1, J1, r, q⟩ := z
      exact ⟨v1, σ1, H1, J1.ofTry ok, r, q⟩
end
end DL
namespace DL
open PySem PySem.Spec L2 PyProof.Rows
section
variable {K : Fg} {E : SX} {F : Fr} {pin : Nat → Bool} {σ : L2.St} {H0 H : Hp} {ρ ρ' : List Sl}
def tKeep (K : Fg) (c : Value) (i j : Nat) (E : SX) (tb : WX → TS) : TS := fun D σ H => tb (wKeep K c i j (fun cls d σ H => E σ cls d H) D) D σ H
theorem kKeep {X : Cx} {K : Fg} {x n y : Str} {c : Value} {i j : Nat} {body : List Stmt} {np pos pos' p1 p2 p3 : Pos} {tb : WX → TS} {E : SX} (hK : X.K = K) (hs : X.stack = X.env :: X.outer) (hf : X.env.frame = some X.env.locals) (hex : X.ex = []) (hN : X.N.Nodup) (hi : X.N[i]? = some n)
    (hj : X.N[j]? = some y) (hy : X.env.scope.names.lookup y = some .local)
    (hln : X.env.kindOf n = some .local) (hc : Names X x c) (tk : Takes X fun cls d σ H => E σ cls d H)
    (hb : ∀ (W : WX) (pn : List (Addr × Obj)) (xe : Value → Shared → Prop), Takes (X.tr pn xe) W → PassesOwn (model X.prog X.w) X.A X.env xe → PSs (X.tr pn xe) body (tb W))
    (hv : Vis X.env.scope n := by first | exact Or.inl rfl | exact Or.inr (Or.inl rfl) | exact Or.inr (Or.inr rfl)) (hd1 : (n == ("__debug__" : Str)) = false := by decide) (hd2 : (n == ("__classdict__" : Str)) = false := by decide) :
    PS X (.Try body [.ExceptHandler (some (.Name x np)) (some n) [.Assign [.Name y p3] (.Name n p1) p2] pos'] [] [] pos) (tKeep K c i j E tb) := hK ▸ ps_keep hs hf hex hN hi hj hy hln hc tk hb hv hd1 hd2
def fKeep (K : Fg) (c : Value) (pin : Nat → Bool) (i j : Nat) (fb : M So) : M So := fun ρ => match fb ρ with
  | some (.ex C ns ds, ρ') => match PySem.W.exmOne K (.ref C) c with
    | some true => if pin i || pin j then none else some (.ok .nx, (ρ'.set j (.val (.exn C ns ds))).set i .un)
    | some false => some (.ex C ns ds, ρ')
    | none => none
  | x => x
theorem set3 {α : Type} (l : List α) (i j : Nat) (x y z : α) : ((l.set i x).set j y).set i z = (l.set j y).set i z := by
  by_cases h : i = j
  · subst h; simp
  · rw [List.set_comm _ _ h, List.set_set]
instance sKeep {c : Value} {i j : Nat} {tb : WX → TS} {fb : M So} [S : ∀ W : WX, SimS K (fun σ cls d H => W cls d σ H) pin (tb W) fb] : SimS K E pin (tKeep K c i j E tb) (fKeep K c pin i j fb) where
  run := fun F σ H0 H ρ r ρ' D R e h => by
    unfold fKeep at e
    cases q : fb ρ with
    | none => rw [q] at e; cases e
    | some p =>
      obtain ⟨r0, ρ0⟩ := p
      rw [q] at e
      refine (S _).run F σ H0 H ρ r0 ρ0 D R q ?_
      cases r0 with
      | ok o =>
        cases e
        exact (show EndS K (fun σ cls d H => wKeep K c i j (fun cls d σ H => E σ cls d H) D cls d σ H) F pin σ H0 ρ' D (.ok o) from by cases o <;> exact h)
      | ex C ns ds =>
        simp only at e
        intro d σ' H0' H' s p R' x
        cases qe : PySem.W.exmOne K (.ref C) c with
        | none => rw [qe] at e; cases e
        | some b =>
          rw [qe] at e
          refine ⟨b, qe, ?_, ?_⟩
          · rintro rfl a na
            simp only at e
            split at e
            · cases e
            · rename_i hp
              cases e
              obtain ⟨H1, s1, R1⟩ := R'.holdX (C := C) x na
              rw [set3]
              have hp' : ¬ pin i = true ∧ ¬ pin j = true := by
                simpa using hp
              exact h _ H1 _ (s.trans s1) ((p.trans (Pin.set hp'.2)).trans (Pin.set hp'.1)) (R1.store (i := j)).setNone
          · rintro rfl
            cases e
            exact h d σ' H0' H' s p R' x
end
/-! ### its run -/
section
variable {ρ : List Sl} {QS : Po So}
def keepK (K : Fg) (c : Value) (pin : Nat → Bool) (i j : Nat) (Q : Po So) : Po So
  | .ok o, ρ => Q (.ok o) ρ
  | .ex C ns ds, ρ => match PySem.W.exmOne K (.ref C) c with
    | some true => bQ (!(pin i || pin j)) (Q (.ok .nx) ((ρ.set j (.val (.exn C ns ds))).set i .un))
    | some false => Q (.ex C ns ds) ρ
    | none => False
theorem keepK_ok {K : Fg} {c : Value} {pin : Nat → Bool} {i j : Nat} {o : So} : keepK K c pin i j QS (.ok o) ρ = QS (.ok o) ρ := rfl
theorem keepK_ex {K : Fg} {c : Value} {pin : Nat → Bool} {i j : Nat} {C : Addr} {ns : List Str} {ds : List Dt} (h : PySem.W.exmOne K (.ref C) c = some true) : keepK K c pin i j QS (.ex C ns ds) ρ = bQ (!(pin i || pin j)) (QS (.ok .nx) ((ρ.set j (.val (.exn C ns ds))).set i .un)) := by
  show (match PySem.W.exmOne K (.ref C) c with
    | some true => bQ (!(pin i || pin j)) (QS (.ok .nx) ((ρ.set j (.val (.exn C ns ds))).set i .un))
    | some false => QS (.ex C ns ds) ρ
    | none => False) = _
  rw [h]
theorem run_fKeep {K : Fg} {c : Value} {pin : Nat → Bool} {i j : Nat} {fb : M So} : Run (fKeep K c pin i j fb) ρ QS = Run fb ρ (keepK K c pin i j QS) := by
  unfold Run fKeep
  cases q : fb ρ with
  | none => exact propext ⟨fun ⟨_, _, e, _⟩ => (nomatch e), fun ⟨_, _, e, _⟩ => (nomatch e)⟩
  | some p =>
    obtain ⟨r0, ρ0⟩ := p
    cases r0 with
    | ok o => exact propext ⟨fun ⟨r, ρ', e, h⟩ => by cases e; exact ⟨_, _, rfl, h⟩, fun ⟨r, ρ', e, h⟩ => by cases e; exact ⟨_, _, rfl, h⟩⟩
    | ex C ns ds =>
      refine propext ⟨fun ⟨r, ρ', e, h⟩ => ⟨_, _, rfl, ?_⟩, fun ⟨r, ρ', e, h⟩ => ?_⟩
      · show (match PySem.W.exmOne K (.ref C) c with
          | some true => bQ (!(pin i || pin j)) (QS (.ok .nx) ((ρ0.set j (.val (.exn C ns ds))).set i .un))
          | some false => QS (.ex C ns ds) ρ0
          | none => False)
        simp only at e
        split at e
        · split at e
          · cases e
          · rename_i hp
            cases e
            exact ⟨by simpa using hp, h⟩
        · cases e; exact h
        · cases e
      · cases e
        have h' : (match PySem.W.exmOne K (.ref C) c with
          | some true => bQ (!(pin i || pin j)) (QS (.ok .nx) ((ρ0.set j (.val (.exn C ns ds))).set i .un))
          | some false => QS (.ex C ns ds) ρ0
          | none => False) := h
        simp only
        split at h'
        · obtain ⟨h1, h2⟩ := h'
          rw [if_neg (by simpa using h1)]
          exact ⟨_, _, rfl, h2⟩
        · exact ⟨_, _, rfl, h'⟩
        · exact h'.elim
/-- a method's call -/
theorem run_fMtV {C : Addr} {m : Str} {i n mm N : Nat} {gD : List Ar → List Ar → List Ar} {g : M Sl} {fa fk : M (List Ar)} {Q : Po Sl} : Run (fMtV C m i n mm N gD g fa fk) ρ Q = bQ (insAt C m ρ[i]?) (Run (fCk (n + 1) mm N gD g (fBVar i fa) fk) ρ Q) := by
  unfold Run fMtV bQ
  by_cases h : insAt C m ρ[i]? = true
  · simp only [if_pos h]; exact propext ⟨fun z => ⟨h, z⟩, fun z => z.2⟩
  · simp only [if_neg h]; exact propext ⟨fun ⟨_, _, e, _⟩ => (nomatch e), fun z => absurd z.1 h⟩
theorem run_fMtVP {C : Addr} {m : Str} {i n mm N : Nat} {gD : List Ar → List Ar → List Ar} {g : M Sl} {fa fk : M (List Ar)} {Q : Po Sl} : Run (fMtVP C m i n mm N gD g fa fk) ρ Q = bQ (insAt C m ρ[i]?) (Run (fCkP (n + 1) mm N gD g (fBVar i fa) fk) ρ Q) := by
  unfold Run fMtVP bQ
  by_cases h : insAt C m ρ[i]? = true
  · simp only [if_pos h]; exact propext ⟨fun z => ⟨h, z⟩, fun z => z.2⟩
  · simp only [if_neg h]; exact propext ⟨fun ⟨_, _, e, _⟩ => (nomatch e), fun z => absurd z.1 h⟩
end
end DL

end
section
set_option Elab.async false
set_option linter.all false
set_option maxRecDepth 100000
set_option maxHeartbeats 4000000
/-! N9: `not in` over a list of instances with an own __eq__. -/
namespace DL
open PySem PySem.Spec L2 PySem.W
open AutoSeq1 (wpAny_loadPart')
open MeetsSeq MeetsSeq2 MeetsSeq3 SeqRoads2
section
variable {prog : Program} {w : World} {A : Around} {E : Value → Shared → Prop} {s : Shared}
theorem notInG {l : Addr} {x : Value} {N : Nat} {Q : Value → Shared → Prop} (bs : Nat → Bool) (I : Shared → Prop)
    (hl : ∀ s, I s → ∃ (items : Array Value) (n : Nat), s.heap.get? l = some { cls := .type "list", data := .seq items n } ∧ items.size = N ∧ ∀ (i : Nat) (h1 : i < items.size), wpAny (model prog w) A.in1 (eqBool items[i] x) (fun r s' => r = bs i ∧ I s') E s)
    (fin : ∀ s b, (b = true ↔ ∃ j < N, bs j = true) → I s → Q (.bool (!b)) s) (h : I s) : wpAny (model prog w) A (compareOp .NotIn x (.ref l)) Q E s := by
  obtain ⟨items, n, hl1, _⟩ := hl _ h
  show wpAny _ _ (do return .bool (!(← contains (.ref l) x))) Q E s
  refine wpAny_bind (wpAny_contains_slot ⟨_, hl1, rfl⟩ F.slot_list_contains (GQ.call_here F.slot_list_contains ⟨_, hl1, rfl⟩ F.entry_list_contains (F.args_list_contains_2 _ _)
    (in_listG (R := wants (fun v s' => wpAny (model prog w) A (truthy v) (fun b s2 => wpAny (model prog w) A (pure (.bool (!b))) Q E s2) E s') E) l x N bs I hl (fun hb s1 q => ?_) (fun j hj hb s1 q => ?_) h)))
  · exact wpAny_truthy_bool (wpAny_pure (fin s1 false ⟨fun z => (nomatch z), fun ⟨j, hj, z⟩ => by rw [hb j hj] at z; cases z⟩ q))
  · exact wpAny_truthy_bool (wpAny_pure (fin s1 true ⟨fun _ => ⟨j, hj, hb⟩, fun _ => rfl⟩ q))
end
def rNotInOwn (K : Fg) (C : Addr) (m : M Sl) : R2 := fun x y H Q => insV C x H ∧ ∃ (a : Addr) (xs : List V) (bs : Nat → Bool), y = .ref a ∧ H a = some (.lst xs) ∧
  (∀ (i : Nat) (z : V), xs[i]? = some z → insV C z H ∧ (z = x → bs i = true) ∧ told2B K m z x H (bs i)) ∧ ∀ b H', (b = true ↔ ∃ j < xs.length, bs j = true) → Ext H H' → Q (.bl (!b)) H'
section
variable {X : Cx} {k : Nat} {C : Addr} {m : M Sl}
theorem op_notInOwn (D : Dq X.prog X.w X.K X.mg X.base CX0 k C "__eq__" 1 [] gPos (spP X.K 2 m)) (rm : Rm (k + 1) X.A) : OpR X (compareOp .NotIn) (rNotInOwn X.K C m) := by
  obtain ⟨f, fd, ps, gF, gV, c, M, F, B, pu⟩ := D.ex
  intro pins s σ H x y v u Q I rx ry hq
  obtain ⟨⟨b, dy, gs, rfl, hb⟩, l, xs, bs, rfl, hl, hz, fin⟩ := hq
  obtain rfl : v = Value.ref b := rx
  obtain rfl : u = Value.ref l := ry
  refine notInG (N := xs.length) bs (fun s' => ∃ H', Inv X pins σ H' s' ∧ Ext H H') (fun s1 ⟨H1, I1, e1⟩ => ?_) (fun s1 t ht ⟨H1, I1, e1⟩ => ?_) ⟨H, I, Ext.rfl'⟩
  · obtain ⟨z, its, n, r, e⟩ := I1.hok l _ (e1 _ _ hl)
    refine ⟨its.toArray, n, e, by rw [List.size_toArray, ← r.length], fun i hi => ?_⟩
    obtain ⟨zv, hzv, rel⟩ : ∃ zv, xs[i]? = some zv ∧ RelV zv its.toArray[i] := by
      have z1 : its[i]? = some its.toArray[i] := by
        have z2 : i < its.length := by simpa using hi
        rw [List.getElem?_eq_getElem z2] <;> simp
      have z3 : i < xs.length := by rw [r.length]; simpa using hi
      obtain ⟨q, hq, rq⟩ := r.get (List.getElem?_eq_getElem z3)
      rw [z1] at hq
      exact ⟨_, List.getElem?_eq_getElem z3, by rw [Option.some.inj hq]; exact rq⟩
    obtain ⟨⟨a, dx, fs, rfl, ha⟩, same, told⟩ := hz i zv hzv
    rw [show its.toArray[i] = Value.ref a from rel]
    by_cases hab : a = b
    · subst hab
      rw [same rfl]
      exact SeqAt.EqAt.same (A := X.A.in1) (s := s1) (.ref a) X.prog X.w X.xe _ ⟨rfl, H1, I1, e1⟩
    · obtain ⟨mA, J, _⟩ := ins_get I1.hok (e1 _ _ ha)
      obtain ⟨mB, J', _⟩ := ins_get I1.hok (e1 _ _ hb)
      obtain ⟨od, J, _⟩ := J.look
      obtain ⟨od', J', _⟩ := J'.look
      obtain ⟨z, hF⟩ := I1.fr
      refine GQ.eqBool_refG hab (PySem.W.cmp_K (op := .Eq) (tb := .ref C) rm.in1.r.units0 hF I1.ok.mod.kin J J'.type (by simp [PySem.W.notFirst]) M.at_ M.fn ?_)
      have r0 : Vals [V.ref a, V.ref b] [Value.ref a, Value.ref b] := .cons rfl (.cons rfl .nil)
      have g := told H1 e1 (gV [V.ref a, V.ref b] []) (fun H0 d e rd re => rds_of (pu H0 σ [.d d, .d e] [] [V.ref a, V.ref b] [] rfl rfl (.cons rd (.cons re .nil)) .nil))
      refine thn (GFn.below (args := ⟨[Value.ref a, Value.ref b], _⟩) F rfl rm.in1 I1 (B.to s1 [Value.ref a, Value.ref b] [] I1.kIn rfl rfl) (B.rel r0 .nil) g) fun r s' hr => ?_
      obtain ⟨z, H', I', rz, rfl, h⟩ := hr
      cases rz
      exact ⟨_, rfl, rfl, H', I', e1.trans h⟩
  · exact ⟨.bl (!t), H1, I1, rfl, fin t H1 ht e1⟩
end
def gNotInOwn (C : Addr) (m : M Sl) (d e : Dt) : Option Sl := match e with
  | .lst es => if insD C d then (inBs C m d es).map fun bs => .val (.bl (!(bs.any id))) else none
  | _ => none
where insD (C : Addr) : Dt → Bool
  | .obj A _ _ => A == C
  | _ => false
instance vNotInOwn {K : Fg} {C : Addr} {m : M Sl} : OpV K (rNotInOwn K C m) (gNotInOwn C m) where
  run := fun x y d e s H0 H Q sm rx ry g h => by
    unfold gNotInOwn at g
    split at g
    · rename_i es
      split at g
      · rename_i hc
        obtain ⟨bs, hbs, hs⟩ := Option.map_eq_some_iff.mp g
        subst hs
        obtain ⟨bl, at_⟩ := inBs_at hbs
        obtain ⟨a, xs, rfl, ha, rs⟩ := ry.lst_inv
        have ix : insV C x H := by
          cases d with
          | obj A ns ds =>
            have : A = C := by simpa [gNotInOwn.insD] using hc
            subst this
            obtain ⟨b, dx, fs, rfl, hb, _⟩ := rx.obj_inv
            exact ⟨b, dx, fs, rfl, sm _ _ hb⟩
          | _ => cases hc
        refine ⟨ix, a, xs, fun i => bs.getD i false, rfl, sm _ _ ha, fun i z hz => ?_, fun b H' hb ex => ?_⟩
        · obtain ⟨e', he, re⟩ : ∃ e', es[i]? = some e' ∧ RD K H0 e' z := rs.getV hz
          obtain ⟨g1, g2⟩ := at_ i e' he
          obtain ⟨t1, t2⟩ := told_of sm re rx g1
          refine ⟨t1, fun hzx => ?_, t2⟩
          rcases g2 with g2 | g2
          · exact g2
          · exact absurd hzx (apart_ne re rx g2)
        · have eb : b = bs.any id := by
            have hl : xs.length = bs.length := by rw [rs.length, bl]
            have h1 : (bs.any id = true) ↔ ∃ j < xs.length, bs.getD j false = true := by
              rw [List.any_eq_true, hl]
              constructor
              · rintro ⟨t, ht, htt⟩
                obtain ⟨j, hj, rfl⟩ := List.getElem_of_mem ht
                exact ⟨j, hj, by simpa [hj] using htt⟩
              · rintro ⟨j, hj, hjt⟩
                exact ⟨bs[j], List.getElem_mem hj, by simpa [hj] using hjt⟩
            exact Bool.eq_iff_iff.mpr (hb.trans h1.symm)
          rw [eb]
          exact h _ H0 H' ⟨Same.refl _, ex, sm.trans ex, fun _ _ z => z⟩ RD.bl
      · cases g
    · cases g
end DL

end
section
set_option Elab.async false
set_option linter.all false
set_option maxRecDepth 100000
set_option maxHeartbeats 4000000
/-! N10: isinstance by a tuple of classes, also of held exceptions. -/
namespace DL
open PySem PySem.Spec L2 PySem.W
def exV (K : Fg) (x : V) (H : Hp) (t : Value) : Prop := ∃ (a C : Addr) (d : Option Addr) (fs : List (Str × V)), x = .ref a ∧ H a = some (ExV (.ref C) d a) ∧ ((d = none ∧ fs = []) ∨ ∃ dx, d = some dx ∧ H dx = some (.xd fs)) ∧ ExcC K C ∧ t = .ref C
def rIsTup (K : Fg) : List V → Hp → VK → Prop := fun xs H Q => ∃ (x : V) (tp : Addr) (cs : List V) (us : List Value) (t : Value) (b : Bool), xs = [x, .ref tp] ∧ SqT K H tp cs ∧ Paired ClsV cs us ∧ (TyX K H x t ∨ exV K x H t) ∧ PySem.W.kitAny K t us = some b ∧ Q (.bl b) H
theorem cr_isTup {X : Cx} : CallR X (.builtin "isinstance") (rIsTup X.K) := by
  intro pins s σ H xs us Q I r h
  obtain ⟨x, tp, cs, ws, t, b, rfl, hT, k, ty, e, q⟩ := h
  obtain ⟨u1, u2, rfl, r1, r2⟩ := vals2 r
  cases (show u2 = Value.ref tp from r2)
  obtain ⟨its, rv, ⟨o, h1, h2, n, h3⟩, _⟩ := I.tuple hT
  have e3 := ClsV.all k rv
  subst e3
  obtain ⟨oc, od, dt, sl⟩ := o
  simp only at h2 h3
  subst h2 h3
  rcases ty with ty | ⟨a, C, d, fs, rfl, ea, hd, T, rfl⟩
  · obtain ⟨P, Z, p, hx⟩ := kit_of I r1 ty
    exact PySem.W.kia_tup Z I.kIn p h1 e hx fun tk => ⟨.bl b, H, I.tok tk, rfl, q⟩
  · cases r1
    obtain ⟨ox, od, inst, _⟩ := exv_inst I ea hd
    exact PySem.W.kia_tup (kit_exn T) I.kIn ⟨ox, od, inst⟩ h1 e (fun z => nomatch z) fun tk => ⟨.bl b, H, I.kept (t' := tk) fun _ _ z => z, rfl, q⟩
def clsDs : List Dt → Option (List Value)
  | [] => some []
  | d :: ds => match clD d, clsDs ds with
    | some u, some us => some (u :: us)
    | _, _ => none
theorem clsDs_ok {K : Fg} {H : Hp} : ∀ {ds : List Dt} {vs : List V} {us : List Value}, RDs K H ds vs → clsDs ds = some us → Paired ClsV vs us
  | [], vs, us, r, e => by
    obtain rfl := RDs.nil_inv r
    cases e
    exact .nil
  | d :: ds, vs, us, r, e => by
    obtain ⟨v, vs2, rfl, h1, h2⟩ := r.inv
    unfold clsDs at e
    split at e
    · rename_i u us2 e1 e2
      cases e
      exact .cons (clD_ok h1 e1) (clsDs_ok h2 e2)
    · cases e
open Classical in
noncomputable def tyU (K : Fg) : Dt → Option Value
  | .exn C _ _ => if ExcC K C then some (.ref C) else none
  | d => tyD K d
noncomputable def gIsTup (K : Fg) : List Dt → Option Sl
  | [d, .tup cs] => match tyU K d, clsDs cs with
    | some t, some us => (PySem.W.kitAny K t us).map fun b => .val (.bl b)
    | _, _ => none
  | _ => none
open Classical in
noncomputable instance vIsTup {K : Fg} : CallV K (rIsTup K) (gIsTup K) where
  run := fun xs ds s H0 H Q sm rx eq h => by
    unfold gIsTup at eq
    split at eq
    · rename_i d cs
      split at eq
      · rename_i t us e1 e2
        obtain ⟨b, q, hs⟩ := Option.map_eq_some_iff.mp eq
        subst hs
        obtain ⟨v, w, rfl, hv, hw⟩ := rx.two
        obtain ⟨tp, ys, rfl, ht, rs⟩ := hw.tup_inv
        refine ⟨v, tp, ys, us, t, b, rfl, sqT_mono sm ht, clsDs_ok rs e2, ?_, q, h.val sm RD.bl⟩
        cases d with
        | exn C ns es =>
          by_cases hc : ExcC K C
          · have e1 : some (Value.ref C) = some t := by
              have e1' : (if ExcC K C then some (Value.ref C) else none) = some t := e1
              rwa [if_pos hc] at e1'
            cases e1
            obtain ⟨a, od, fs, rfl, h1, hx, h2, h3⟩ := hv.exn_inv
            exact .inr ⟨a, C, od, fs, rfl, sm _ _ h1, hx.imp id (fun ⟨y, p, z⟩ => ⟨y, p, sm _ _ z⟩), hc, rfl⟩
          · have e1' : (if ExcC K C then some (Value.ref C) else none) = some t := e1
            rw [if_neg hc] at e1'
            cases e1'
        | _ => exact .inl (tyD_ok (hv.mono sm) e1)
      · cases eq
    · cases eq
end DL

end
section
set_option Elab.async false
set_option linter.all false
set_option maxRecDepth 100000
set_option maxHeartbeats 4000000
/-! N11: words for the generator: own ==, in, str, repr, gcd, isinstance by a tuple. -/
namespace DL
open PySem PySem.Spec L2 PySem.W
section
variable {X : Cx} {P : Program} {w : World} {K : Fg} {mg : Str → Option Value} {base : Heap} {k : Nat} {C : Addr} {m : M Sl}
theorem kOwn (D : Dq P w K mg base CX0 k C "__eq__" 1 [] gPos (spP K 2 m)) (h1 : X.prog = P) (h2 : X.w = w) (h3 : X.K = K) (h4 : X.mg = mg) (h5 : X.base = base) (rm : Rm k X.A) : OpR X (compareOp .Eq) (rOwn K C m) := by
  subst h1 h2 h3 h4 h5; exact op_own D rm
theorem kOwnP (D : Dq P w K mg base CX0 k C "__eq__" 1 [] gPos (spP K 2 m)) (h1 : X.prog = P) (h2 : X.w = w) (h3 : X.K = K) (h4 : X.mg = mg) (h5 : X.base = base) (rm : Rm k X.A) : OpR X (compareOp .Eq) (rOwnP K C m) := by
  subst h1 h2 h3 h4 h5; exact op_ownP D rm
theorem kOwnI (D : Dq P w K mg base CX0 k C "__eq__" 1 [] gPos (spP K 2 m)) (hm : PySem.W.subIn K (.ref C) (.type "int") = some false) (h1 : X.prog = P) (h2 : X.w = w) (h3 : X.K = K) (h4 : X.mg = mg) (h5 : X.base = base) (rm : Rm k X.A) : OpR X (compareOp .Eq) (rOwnI K C m) := by
  subst h1 h2 h3 h4 h5; exact op_ownI D hm rm
theorem kOwnN (D : Dq P w K mg base CX0 k C "__eq__" 1 [] gPos (spP K 2 m)) (N : NeOk K C) (h1 : X.prog = P) (h2 : X.w = w) (h3 : X.K = K) (h4 : X.mg = mg) (h5 : X.base = base) (rm : Rm (k + 1) X.A) : OpR X (compareOp .NotEq) (rOwnN K C m) := by
  subst h1 h2 h3 h4 h5; exact op_ownN D N rm
theorem kOwnPN (D : Dq P w K mg base CX0 k C "__eq__" 1 [] gPos (spP K 2 m)) (N : NeOk K C) (h1 : X.prog = P) (h2 : X.w = w) (h3 : X.K = K) (h4 : X.mg = mg) (h5 : X.base = base) (rm : Rm (k + 1) X.A) : OpR X (compareOp .NotEq) (rOwnPN K C m) := by
  subst h1 h2 h3 h4 h5; exact op_ownPN D N rm
theorem kInOwn (D : Dq P w K mg base CX0 k C "__eq__" 1 [] gPos (spP K 2 m)) (h1 : X.prog = P) (h2 : X.w = w) (h3 : X.K = K) (h4 : X.mg = mg) (h5 : X.base = base) (rm : Rm (k + 1) X.A) : OpR X (compareOp .In) (rInOwn K C m) := by
  subst h1 h2 h3 h4 h5; exact op_inOwn D rm
theorem kNotInOwn (D : Dq P w K mg base CX0 k C "__eq__" 1 [] gPos (spP K 2 m)) (h1 : X.prog = P) (h2 : X.w = w) (h3 : X.K = K) (h4 : X.mg = mg) (h5 : X.base = base) (rm : Rm (k + 1) X.A) : OpR X (compareOp .NotIn) (rNotInOwn K C m) := by
  subst h1 h2 h3 h4 h5; exact op_notInOwn D rm
theorem kReprOwn (D : Dq P w K mg base CX0 k C "__repr__" 0 [] gPos (spP K 1 m)) (h1 : X.prog = P) (h2 : X.w = w) (h3 : X.K = K) (h4 : X.mg = mg) (h5 : X.base = base) (rm : Rm (k + 1) X.A) : CallR X (.builtin "repr") (rShow K C m) := by
  subst h1 h2 h3 h4 h5; exact cr_reprOwn D rm
theorem kStrOwn (D : Dq P w K mg base CX0 k C "__str__" 0 [] gPos (spP K 1 m)) (h1 : X.prog = P) (h2 : X.w = w) (h3 : X.K = K) (h4 : X.mg = mg) (h5 : X.base = base) (rm : Rm (k + 2) X.A) : CallR X (.type "str") (rShow K C m) := by
  subst h1 h2 h3 h4 h5; exact cr_strOwn D rm
theorem kIsTup (h : X.K = K) : CallR X (.builtin "isinstance") (rIsTup K) := h ▸ cr_isTup
end
/-- str of a whole number -/
def rStrI : List V → Hp → VK → Prop := fun xs H Q => ∃ i : Int, xs = [.int i] ∧ i.natAbs.log2 < 1920 ∧ Q (.str (toString i)) H
theorem kStrI {X : Cx} : CallR X (.type "str") rStrI := call_str_int
def gStrI : List Dt → Option Sl
  | [.int i] => if i.natAbs.log2 < 1920 then some (.val (.str (toString i))) else none
  | _ => none
instance vStrI {K : Fg} : CallV K rStrI gStrI where
  run := fun xs ds s H0 H Q sm rx eq h => by
    unfold gStrI at eq
    split at eq
    · split at eq
      · rename_i i hl
        cases eq
        obtain ⟨v, r, rfl, h1, h2⟩ := rx.inv
        obtain rfl := RDs.nil_inv h2
        exact ⟨i, by rw [h1.int_inv], hl, h _ _ _ (Grow.refl sm) RD.str⟩
      · cases eq
    · cases eq
end DL

end
section
set_option Elab.async false
set_option linter.all false
set_option maxRecDepth 100000
set_option maxHeartbeats 4000000
/-! N12: // by any divisor but 0 below 2 ^ 9000, of either sign. -/
namespace DL
open PySem PySem.Spec L2 PyProof.Rows
def CDivA (_ j : Int) : Prop := j ≠ 0 ∧ j.natAbs.log2 < 9000
instance : ∀ i j, Decidable (CDivA i j) := fun i j => inferInstanceAs (Decidable (_ ∧ _))
def rDivA : R2 := rI CDivA fun i j => .int (i.fdiv j)
theorem opDivA {X : Cx} : OpR X (binaryOp .FloorDiv) rDivA := opI fun i j _ _ _ _ _ hc q => floordiv_int hc.1 q (.inl (PyProof.noPylong_of_log2 hc.2))
def gDivA : Dt → Dt → Option Sl
  | .int i, .int j => if CDivA i j then some (.val (.int (i.fdiv j))) else none
  | _, _ => none
instance vDivA {K : Fg} : OpV K rDivA gDivA where
  run := fun x y d e s H0 H Q sm rx ry g h => by
    unfold gDivA at g
    split at g
    · rename_i i j
      split at g
      · rename_i hc
        cases g
        exact ⟨i, j, rx.int_inv, ry.int_inv, hc, h _ _ _ (Grow.refl sm) RD.int⟩
      · cases g
    · cases g
theorem gDivA_ii {i j : Int} (h0 : j ≠ 0) (h : j.natAbs.log2 < 9000) : gDivA (.int i) (.int j) = some (.val (.int (i.fdiv j))) := by
  show (if CDivA i j then some (Sl.val (.int (i.fdiv j))) else none) = _
  rw [if_pos ⟨h0, h⟩]
end DL

end
section
set_option Elab.async false
set_option linter.all false
set_option maxRecDepth 100000
set_option maxHeartbeats 4000000
/-! N13: runs of f-strings; isinstance of instances; classes told apart. -/
namespace DL
open PySem PySem.Spec L2
section
variable {α β : Type} {ρ : List Sl} {Q : Po Sl}
theorem run_fFmt {f : M Sl} : Run (fFmt f) ρ Q = Run (mB (vl f) fun d => mO ((fmtT d).map fun x => .val (.str x))) ρ Q := rfl
theorem run_fFmtD {f : M Sl} : Run (fFmtD f) ρ Q = Run (mB (vl f) fun d => mO ((textD d).map fun x => .val (.str x))) ρ Q := rfl
theorem run_fJoin {g : Str → M Str} : Run (fJoin g) ρ Q = Run (mB (g Str.empty) fun x => mP (.val (.str x))) ρ Q := rfl
def jK (g : Str → M Str) (acc : Str) (Q : Po Str) : Po Dt
  | .ok (.str y), ρ => bQ (small (acc ++ y).length) (Run (g (acc ++ y)) ρ Q)
  | .ok _, _ => False
  | .ex C ns ds, ρ => Q (.ex C ns ds) ρ
theorem jK_ok {g : Str → M Str} {acc y : Str} {Q : Po Str} : jK g acc Q (.ok (.str y)) ρ = bQ (small (acc ++ y).length) (Run (g (acc ++ y)) ρ Q) := rfl
theorem jK_ex {g : Str → M Str} {acc : Str} {Q : Po Str} {C : Addr} {ns : List Str} {ds : List Dt} : jK g acc Q (.ex C ns ds) ρ = Q (.ex C ns ds) ρ := rfl
theorem run_fJCons {f : M Sl} {g : Str → M Str} {acc : Str} {Q : Po Str} : Run (fJCons f g acc) ρ Q = Run (vl f) ρ (jK g acc Q) := by
  unfold fJCons
  rw [run_mB]
  have e : (bindK (fun d => match d with
    | .str y => if small (acc ++ y).length then g (acc ++ y) else fun _ => none
    | _ => fun _ => none) Q) = jK g acc Q := by
    funext r ρ'
    cases r with
    | ex C ns ds => rfl
    | ok d =>
      cases d with
      | str y =>
        show Run (if small (acc ++ y).length then g (acc ++ y) else fun _ => none) ρ' Q = bQ (small (acc ++ y).length) (Run (g (acc ++ y)) ρ' Q)
        cases small (acc ++ y).length with
        | true => rw [bQ_true]; rfl
        | false => rw [bQ_false]; exact run_none
      | _ => exact run_none (ρ := ρ')
  exact congrArg _ e
end
theorem fmtT_int {i : Int} (h : i.natAbs.log2 < 1920) : fmtT (.int i) = some (Str.ofString (toString i)) := by
  show (if i.natAbs.log2 < 1920 then some (Str.ofString (toString i)) else none) = _
  rw [if_pos h]
open Classical in
theorem isi_obj {K : Fg} {C D : Addr} {ns : List Str} {ds : List Dt} {b : Bool} (h : ObjCls K C) (k : PySem.W.kitOne K (.ref C) (.ref D) = some b) : gIsiU K [.obj C ns ds, .ref D] = some (.val (.bl b)) := by
  have e : tyD K (.obj C ns ds) = some (.ref C) := by
    show (if ObjCls K C then some (Value.ref C) else none) = _
    rw [if_pos h]
  show (match tyD K (.obj C ns ds), clD (.ref D) with
    | some t, some u => (PySem.W.kitOne K t u).map fun b => Sl.val (.bl b)
    | _, _ => none) = _
  rw [e]
  show (PySem.W.kitOne K (.ref C) (.ref D)).map (fun b => Sl.val (.bl b)) = _
  rw [k]; rfl
end DL

end
section
set_option Elab.async false
set_option linter.all false
set_option maxRecDepth 100000
set_option maxHeartbeats 4000000
/-! N14: runs of while, and of two names set at once. -/
namespace DL
open PySem PySem.Spec L2
section
variable {ρ : List Sl} {Q : Po So}
def wstepK (I : Nat → List Sl → Prop) (n : Nat) (Q : Po So) : Po So
  | .ok .nx, ρ => ∃ m, m < n ∧ I m ρ
  | .ok .ct, ρ => ∃ m, m < n ∧ I m ρ
  | .ok .bk, ρ => Q (.ok .nx) ρ
  | .ok (.rt s), ρ => Q (.ok (.rt s)) ρ
  | .ex C ns ds, ρ => Q (.ex C ns ds) ρ
def wK (B : M So) (I : Nat → List Sl → Prop) (n : Nat) (Q : Po So) : Po Bool
  | .ok true, ρ => Run B ρ (wstepK I n Q)
  | .ok false, ρ => Q (.ok .nx) ρ
  | .ex C ns ds, ρ => Q (.ex C ns ds) ρ
theorem wstepK_nx {I : Nat → List Sl → Prop} {n : Nat} : wstepK I n Q (.ok .nx) ρ = ∃ m, m < n ∧ I m ρ := rfl
theorem wK_true {B : M So} {I : Nat → List Sl → Prop} {n : Nat} : wK B I n Q (.ok true) ρ = Run B ρ (wstepK I n Q) := rfl
theorem wK_false {B : M So} {I : Nat → List Sl → Prop} {n : Nat} : wK B I n Q (.ok false) ρ = Q (.ok .nx) ρ := rfl
theorem whileN_run {c : M Bool} {B : M So} (I : Nat → List Sl → Prop) (st : ∀ n ρ, I n ρ → Run c ρ (wK B I n Q)) : ∀ (k n : Nat) (ρ : List Sl), n < k → I n ρ → ∃ k2, Run (whileN c B k2) ρ Q
  | 0, n, ρ, h, _ => absurd h (Nat.not_lt_zero _)
  | k + 1, n, ρ, h, hi => by
    obtain ⟨r, ρ1, e, q⟩ := st n ρ hi
    cases r with
    | ex C ns ds => exact ⟨1, _, _, by unfold whileN mB; rw [e], q⟩
    | ok b =>
      cases b with
      | false => exact ⟨1, _, _, by unfold whileN mB; rw [e]; rfl, q⟩
      | true =>
        obtain ⟨r2, ρ2, e2, q2⟩ := (show Run B ρ1 (wstepK I n Q) from q)
        cases r2 with
        | ex C ns ds => exact ⟨1, _, _, by unfold whileN mB; rw [e]; simp only [if_true]; rw [e2], q2⟩
        | ok o =>
          cases o with
          | bk => exact ⟨1, _, _, by unfold whileN mB; rw [e]; simp only [if_true]; rw [e2]; rfl, q2⟩
          | rt s => exact ⟨1, _, _, by unfold whileN mB; rw [e]; simp only [if_true]; rw [e2]; rfl, q2⟩
          | nx =>
            obtain ⟨m, hm, im⟩ := (show ∃ m, m < n ∧ I m ρ2 from q2)
            obtain ⟨k2, r3, ρ3, e3, q3⟩ := whileN_run I st k m ρ2 (by omega) im
            exact ⟨k2 + 1, r3, ρ3, by unfold whileN mB; rw [e]; simp only [if_true]; rw [e2]; exact e3, q3⟩
          | ct =>
            obtain ⟨m, hm, im⟩ := (show ∃ m, m < n ∧ I m ρ2 from q2)
            obtain ⟨k2, r3, ρ3, e3, q3⟩ := whileN_run I st k m ρ2 (by omega) im
            exact ⟨k2 + 1, r3, ρ3, by unfold whileN mB; rw [e]; simp only [if_true]; rw [e2]; exact e3, q3⟩
theorem run_while {c : M Bool} {B : M So} (I : Nat → List Sl → Prop) {n : Nat} (h : I n ρ) (st : ∀ n ρ, I n ρ → Run c ρ (wK B I n Q)) : Run (fWhile c B) ρ Q := by
  obtain ⟨k, r, ρ', e, q⟩ := whileN_run I st (n + 1) n ρ (Nat.lt_succ_self n) h
  exact ⟨r, ρ', fWhile_of e, q⟩
def parK (pin : Nat → Bool) (i j : Nat) (Q : Po So) : Po (List Dt)
  | .ok [d, e], ρ => bQ (!(pin i || pin j)) (Q (.ok .nx) ((ρ.set i (.val d)).set j (.val e)))
  | .ok _, _ => False
  | .ex C ns ds, ρ => Q (.ex C ns ds) ρ
theorem parK_ok {pin : Nat → Bool} {i j : Nat} {d e : Dt} : parK pin i j Q (.ok [d, e]) ρ = bQ (!(pin i || pin j)) (Q (.ok .nx) ((ρ.set i (.val d)).set j (.val e))) := rfl
theorem run_fPar {pin : Nat → Bool} {i j : Nat} {f : M (List Dt)} : Run (fPar pin i j f) ρ Q = Run f ρ (parK pin i j Q) := by
  unfold fPar
  rw [run_mB]
  refine congrArg _ ?_
  funext r ρ'
  cases r with
  | ex C ns ds => rfl
  | ok es =>
    match es with
    | [] => exact run_none (ρ := ρ')
    | [_] => exact run_none (ρ := ρ')
    | [d, e] =>
      show Run (mU (fun ρ => (put pin i (.val d) ρ).bind (put pin j (.val e))) (mP .nx)) ρ' Q = bQ (!(pin i || pin j)) (Q (.ok .nx) ((ρ'.set i (.val d)).set j (.val e)))
      rw [run_mU]
      unfold put
      cases h1 : pin i <;> cases h2 : pin j <;> simp [upQ, bQ, run_mP]
    | _ :: _ :: _ :: _ => exact run_none (ρ := ρ')
end
end DL

end
section
set_option Elab.async false
set_option linter.all false
set_option maxRecDepth 100000
set_option maxHeartbeats 4000000
/-! T1: truth of data: tests, or, and, not of any data. -/
namespace DL
open PySem PySem.Spec L2
/-- a datum's truth -/
def truD : Dt → Option Bool
  | .non => some false
  | .bl b => some b
  | .int i => some (i != 0)
  | .str y => if small y.length then some ((y.length : Int) != 0) else none
  | .lst ds => some (!ds.isEmpty)
  | .rol ds => some (!ds.isEmpty)
  | .tup ds => some (!ds.isEmpty)
  | .dct ks _ => some (!ks.isEmpty)
  | _ => none
theorem emp_len {α β : Type} {xs : List α} {ys : List β} (h : xs.length = ys.length) : xs.isEmpty = ys.isEmpty := by
  cases xs <;> cases ys <;> simp at h <;> rfl
theorem truD_ok {K : Fg} {H0 H : Hp} {d : Dt} {v : V} {k : Bool} (h : RD K H0 d v) (e : truD d = some k) (sm : Same H0 H) : TruV K v H k := by
  cases d with
  | non => rw [h.non_inv]; exact (Option.some.inj e).symm
  | bl b => rw [h.bl_inv]; exact (Option.some.inj e).symm
  | int i => rw [h.int_inv]; exact (Option.some.inj e).symm
  | str y =>
    rw [h.str_inv]
    have e : (if small y.length then some ((y.length : Int) != 0) else none) = some k := e
    split at e
    · rename_i hs
      exact ⟨small_line hs, (Option.some.inj e).symm⟩
    · cases e
  | lst ds =>
    obtain ⟨a, xs, rfl, h1, h2⟩ := h.lst_inv
    exact .inl ⟨xs, .inl (.inl (sm _ _ h1)), by rw [emp_len h2.length]; exact (Option.some.inj e).symm⟩
  | rol ds =>
    obtain ⟨a, xs, rfl, h1, h2⟩ := h.rol_inv
    exact .inl ⟨xs, sm.seq h1, by rw [emp_len h2.length]; exact (Option.some.inj e).symm⟩
  | tup ds =>
    obtain ⟨a, xs, rfl, h1, h2⟩ := h.tup_inv
    exact .inr (.inl ⟨xs, sqT_mono sm h1, by rw [emp_len h2.length]; exact (Option.some.inj e).symm⟩)
  | dct ks ds =>
    obtain ⟨a, kvs, rfl, h1, h2, h3⟩ := h.dct_inv
    exact .inr (.inr ⟨kvs, sm _ _ h1, by rw [emp_len (xs := kvs) (ys := ks) (by rw [← h2, List.length_map])]; exact (Option.some.inj e).symm⟩)
  | _ => cases e
def orU (fb : M Sl) (d : Dt) : M Sl := match truD d with
  | some true => mP (.val d)
  | some false => fb
  | none => fun _ => none
def andU (fb : M Sl) (d : Dt) : M Sl := match truD d with
  | some true => fb
  | some false => mP (.val d)
  | none => fun _ => none
def fOrU (fa fb : M Sl) : M Sl := mB (vl fa) (orU fb)
def fAndU (fa fb : M Sl) : M Sl := mB (vl fa) (andU fb)
def fNotU (fa : M Sl) : M Sl := mB (vl fa) fun d => mO ((truD d).map fun k => .val (.bl (!k)))
def fTru (fa : M Sl) : M Bool := mB (vl fa) fun d => mO (truD d)
section
variable {K : Fg} {E : SX}
instance sOrU {ta tb : TE} {fa fb : M Sl} [A : SimE K E ta fa] [B : SimE K E tb fb] : SimE K E (tOrT K ta tb) (fOrU fa fb) where
  run := fun F σ H0 H ρ r ρ' Q R e h => by
    refine A.bindV R e h.hx fun d ρ1 v H1 H' e1 s1 R1 rd => ?_
    unfold orU at e1
    cases q : truD d with
    | none => rw [q] at e1; cases e1
    | some k =>
      rw [q] at e1
      refine ⟨k, truD_ok rd q R1.s2, ?_⟩
      cases k with
      | true =>
        simp only [mP, Option.some.injEq, Prod.mk.injEq] at e1
        obtain ⟨rfl, rfl⟩ := e1
        rw [if_pos rfl]
        exact h _ H1 H' s1 (R1.push rd)
      | false =>
        rw [if_neg (by decide)]
        exact B.run F σ H1 H' ρ1 r ρ' Q R1 e1 (h.later s1)
instance sAndU {ta tb : TE} {fa fb : M Sl} [A : SimE K E ta fa] [B : SimE K E tb fb] : SimE K E (tAndT K ta tb) (fAndU fa fb) where
  run := fun F σ H0 H ρ r ρ' Q R e h => by
    refine A.bindV R e h.hx fun d ρ1 v H1 H' e1 s1 R1 rd => ?_
    unfold andU at e1
    cases q : truD d with
    | none => rw [q] at e1; cases e1
    | some k =>
      rw [q] at e1
      refine ⟨k, truD_ok rd q R1.s2, ?_⟩
      cases k with
      | false =>
        simp only [mP, Option.some.injEq, Prod.mk.injEq] at e1
        obtain ⟨rfl, rfl⟩ := e1
        rw [if_neg (by decide)]
        exact h _ H1 H' s1 (R1.push rd)
      | true =>
        rw [if_pos rfl]
        exact B.run F σ H1 H' ρ1 r ρ' Q R1 e1 (h.later s1)
instance sNotU {ta : TE} {fa : M Sl} [A : SimE K E ta fa] : SimE K E (tNotT K ta) (fNotU fa) where
  run := fun F σ H0 H ρ r ρ' Q R e h => by
    refine A.bindV R e h.hx fun d ρ1 v H1 H' e1 s1 R1 rd => ?_
    obtain ⟨b, es, e4, rfl⟩ := mO_inv e1
    cases e4
    obtain ⟨k, q, rfl⟩ := Option.map_eq_some_iff.mp es
    exact ⟨k, truD_ok rd q R1.s2, h _ H1 H' s1 (R1.push RD.bl)⟩
instance sTru {ta : TE} {fa : M Sl} [A : SimE K E ta fa] : SimT K E (tTru K ta) (fTru fa) where
  run := fun F σ H0 H ρ r ρ' Q R e h => by
    refine A.bindV R e (fun C ns ds er => by subst er; exact h) fun d ρ1 v H1 H' e1 s1 R1 rd => ?_
    obtain ⟨b, es, e4, rfl⟩ := mO_inv e1
    cases e4
    exact ⟨b, truD_ok rd es R1.s2, h H1 H' s1 R1⟩
end
section
variable {X : Cx} {K : Fg} {a b : Expr} {ta tb : TE} {rest : List Expr} {pos : Pos}
theorem kOrT (hK : X.K = K) (ha : PE X a ta) (hb : PE X (.BoolOp .Or (b :: rest) pos) tb) : PE X (.BoolOp .Or (a :: b :: rest) pos) (tOrT K ta tb) := hK ▸ pe_orT ha hb
theorem kAndT (hK : X.K = K) (ha : PE X a ta) (hb : PE X (.BoolOp .And (b :: rest) pos) tb) : PE X (.BoolOp .And (a :: b :: rest) pos) (tAndT K ta tb) := hK ▸ pe_andT ha hb
theorem kNotT (hK : X.K = K) (ha : PE X a ta) : PE X (.UnaryOp .Not a pos) (tNotT K ta) := hK ▸ pe_notT ha
theorem kTru (hK : X.K = K) (ha : PE X a ta) (he : ∀ whole, isTrue a X.env whole = (do let v ← whole; standAt a.pos; holding [v] (truthy v)) := by intro _; rfl) : PT X a (tTru K ta) := hK ▸ pt_truth ha he
end
/-! runs -/
section
variable {ρ : List Sl} {Q : Po Sl} {QB : Po Bool}
theorem run_fOrU {fa fb : M Sl} : Run (fOrU fa fb) ρ Q = Run (mB (vl fa) (orU fb)) ρ Q := rfl
theorem run_fAndU {fa fb : M Sl} : Run (fAndU fa fb) ρ Q = Run (mB (vl fa) (andU fb)) ρ Q := rfl
theorem run_fNotU {fa : M Sl} : Run (fNotU fa) ρ Q = Run (mB (vl fa) fun d => mO ((truD d).map fun k => .val (.bl (!k)))) ρ Q := rfl
theorem run_fTru {fa : M Sl} : Run (fTru fa) ρ QB = Run (mB (vl fa) fun d => mO (truD d)) ρ QB := rfl
def orK (fb : M Sl) (d : Dt) (o : Option Bool) (ρ : List Sl) (Q : Po Sl) : Prop := match o with
  | some k => ifQ k (Q (.ok (.val d)) ρ) (Run fb ρ Q)
  | none => False
def andK (fb : M Sl) (d : Dt) (o : Option Bool) (ρ : List Sl) (Q : Po Sl) : Prop := match o with
  | some k => ifQ k (Run fb ρ Q) (Q (.ok (.val d)) ρ)
  | none => False
theorem orK_some {fb : M Sl} {d : Dt} {k : Bool} : orK fb d (some k) ρ Q = ifQ k (Q (.ok (.val d)) ρ) (Run fb ρ Q) := rfl
theorem andK_some {fb : M Sl} {d : Dt} {k : Bool} : andK fb d (some k) ρ Q = ifQ k (Run fb ρ Q) (Q (.ok (.val d)) ρ) := rfl
theorem run_orU {fb : M Sl} {d : Dt} : Run (orU fb d) ρ Q = orK fb d (truD d) ρ Q := by
  unfold orU orK
  cases truD d with
  | none => exact Run.no rfl
  | some k => cases k with
    | true => dsimp only; rw [ifQ_true]; exact run_mP
    | false => dsimp only; rw [ifQ_false]
theorem run_andU {fb : M Sl} {d : Dt} : Run (andU fb d) ρ Q = andK fb d (truD d) ρ Q := by
  unfold andU andK
  cases truD d with
  | none => exact Run.no rfl
  | some k => cases k with
    | true => dsimp only; rw [ifQ_true]
    | false => dsimp only; rw [ifQ_false]; exact run_mP
theorem truD_bl {b : Bool} : truD (.bl b) = some b := rfl
theorem truD_non : truD .non = some false := rfl
theorem truD_int {i : Int} : truD (.int i) = some (!decide (i = 0)) := by
  show some (i != 0) = _
  by_cases h : i = 0 <;> simp [h]
theorem truD_lst {ds : List Dt} : truD (.lst ds) = some (!ds.isEmpty) := rfl
theorem truD_rol {ds : List Dt} : truD (.rol ds) = some (!ds.isEmpty) := rfl
theorem truD_tup {ds : List Dt} : truD (.tup ds) = some (!ds.isEmpty) := rfl
theorem truD_dct {ks : List Key} {ds : List Dt} : truD (.dct ks ds) = some (!ks.isEmpty) := rfl
end
end DL

end
section
set_option Elab.async false
set_option linter.all false
set_option maxRecDepth 100000
set_option maxHeartbeats 4000000
/-! T2: a, b, .. = a tuple or a list. -/
namespace DL
open PySem PySem.Spec L2
def gSqT (K : Fg) (n : Nat) (t : TGs) : TG := fun v σ H Q => gTup K n t v σ H Q ∨ gUnl K n t v σ H Q
section
variable {X : Cx} {K : Fg}
theorem kgSq {es : List Expr} {k : Nat} {t : TGs} {n : Nat} {pos : Pos} (h : X.K = K) (hc : X.calm = true) (h1 : PGs X es t)
    (hn : (assignEach es X.env).length = n := by rfl) (hst : (assignEach es X.env).findIdx? (·.1) = none := by rfl) : PG X (.Tuple es k pos) (gSqT K n t) := by
  subst h
  refine ⟨fun pins s σ H v u Q I r hw => ?_⟩
  rcases hw with hw | hw
  · exact (pg_tup hc h1 hn hst).run pins s σ H v u Q I r hw
  · exact (pg_unl hc h1 hn hst).run pins s σ H v u Q I r hw
end
section
variable {K : Fg} {pin : Nat → Bool}
def gS (n : Nat) (U : List Dt → Up) : Dt → Up
  | .tup ds => if ds.length = n then U ds else fun _ => none
  | .lst ds => if ds.length = n then U ds else fun _ => none
  | .rol ds => if ds.length = n then U ds else fun _ => none
  | _ => fun _ => none
instance sGSq {n : Nat} {t : TGs} {U : List Dt → Up} [B : SimGs K pin t U] : SimG K pin (gSqT K n t) (gS n U) where
  run := fun F σ H0 H ρ ρ' d v Q R rd e h => by
    cases d <;> try cases e
    case tup ds =>
      obtain ⟨a, xs, rfl, h1, h2⟩ := rd.tup_inv
      have e' : (if ds.length = n then U ds else fun _ => none) ρ = some ρ' := e
      by_cases hl : ds.length = n
      · rw [if_pos hl] at e'
        exact .inl ⟨a, xs, rfl, sqT_mono R.s2 h1, by rw [h2.length, hl], B.run F σ H0 H ρ ρ' ds xs Q R h2 e' h⟩
      · rw [if_neg hl] at e'; cases e'
    case lst ds =>
      obtain ⟨a, xs, rfl, h1, h2⟩ := rd.lst_inv
      have e' : (if ds.length = n then U ds else fun _ => none) ρ = some ρ' := e
      by_cases hl : ds.length = n
      · rw [if_pos hl] at e'
        exact .inr ⟨a, xs, rfl, .inl (.inl (R.s2 _ _ h1)), by rw [h2.length, hl], B.run F σ H0 H ρ ρ' ds xs Q R h2 e' h⟩
      · rw [if_neg hl] at e'; cases e'
    case rol ds =>
      obtain ⟨a, xs, rfl, h1, h2⟩ := rd.rol_inv
      have e' : (if ds.length = n then U ds else fun _ => none) ρ = some ρ' := e
      by_cases hl : ds.length = n
      · rw [if_pos hl] at e'
        exact .inr ⟨a, xs, rfl, R.s2.seq h1, by rw [h2.length, hl], B.run F σ H0 H ρ ρ' ds xs Q R h2 e' h⟩
      · rw [if_neg hl] at e'; cases e'
end
end DL

end
section
set_option Elab.async false
set_option linter.all false
set_option maxRecDepth 100000
set_option maxHeartbeats 4000000
/-! H3: own classes with methods, as a Bool of the frozen part; methods known. -/
namespace DL
open PySem PySem.Spec L2 PyProof.Rows
def kitP (K : Fg) (C : Addr) (n : String) : Bool := decide (PySem.W.kitOne K (.type n) (.ref C) = some false)
/-- all that is asked of an own class at C besides its methods -/
def clsxB (K : Fg) (C : Addr) : Bool := decide (PySem.W.findIn K (.ref C) "__class__" = some (some (.builtin "object.__class__"))) && (decide (PySem.W.specialIn K (.builtin "object.__class__") "__get__" = some (some (.builtin "getset_descriptor.__get__"))) &&
  (decide (PySem.W.takesIn K (.builtin "object.__class__") = some true) && (decide (PySem.W.mroIn K C (.type "object") = some true) && (decide (PySem.W.findIn K (.ref C) "__ne__" = some (some (.builtin "object.__ne__"))) &&
  (decide (PySem.W.subIn K (.ref C) (.type "int") = some false) && (decide (PySem.W.kitOne K (.ref C) (.ref C) = some true) && (kitP K C "int" && (kitP K C "str" && (kitP K C "tuple" && (kitP K C "list" && kitP K C "NoneType"))))))))))
structure ClsX (K : Fg) (C : Addr) : Prop where
  ob : Cls K C → ObjCls K C
  ne : NeOk K C
  si : PySem.W.subIn K (.ref C) (.type "int") = some false
  ki : PySem.W.kitOne K (.ref C) (.ref C) = some true
  pi : PySem.W.kitOne K (.type "int") (.ref C) = some false
  ps : PySem.W.kitOne K (.type "str") (.ref C) = some false
  pt : PySem.W.kitOne K (.type "tuple") (.ref C) = some false
  pl : PySem.W.kitOne K (.type "list") (.ref C) = some false
  pn : PySem.W.kitOne K (.type "NoneType") (.ref C) = some false
theorem clsxB_ok {K : Fg} {C : Addr} (h : clsxB K C = true) : ClsX K C := by
  obtain ⟨h1, h⟩ := He.ba h
  obtain ⟨h2, h⟩ := He.ba h
  obtain ⟨h3, h⟩ := He.ba h
  obtain ⟨h4, h⟩ := He.ba h
  obtain ⟨h5, h⟩ := He.ba h
  obtain ⟨h6, h⟩ := He.ba h
  obtain ⟨h7, h⟩ := He.ba h
  obtain ⟨h8, h⟩ := He.ba h
  obtain ⟨h9, h⟩ := He.ba h
  obtain ⟨h10, h⟩ := He.ba h
  obtain ⟨h11, h12⟩ := He.ba h
  exact ⟨fun c => ⟨c, of_decide_eq_true h1, of_decide_eq_true h2, of_decide_eq_true h3, of_decide_eq_true h4⟩, ⟨of_decide_eq_true h4, of_decide_eq_true h5⟩, of_decide_eq_true h6, of_decide_eq_true h7,
    of_decide_eq_true h8, of_decide_eq_true h9, of_decide_eq_true h10, of_decide_eq_true h11, of_decide_eq_true h12⟩
section
variable {P : Program} {w : World} {K : Fg} {mg : Str → Option Value} {base : Heap} {CX : CXT} {k n : Nat} {m : Str} {f C : Addr} {fd : FuncData} {ps : List Str} {sp : Sp}
theorem mkDq (c : Cls K C) (M : Meth K C m f) (F : GFn P w K mg base CX k f fd ps sp) (b : L2.Binds K fd ps []) (hl : ps.length = n + 1) : Dq P w K mg base CX k C m n [] gPos sp :=
  ⟨f, fd, ps, _, _, c, M, F, kbn_pos b hl, fun _ _ _ _ _ _ _ _ a _ => a⟩
theorem mkDm0 {x : Str} (M : Mk K C f) (F : GFn P w K mg base CX k f fd ps sp) (hm : mg x = some (.ref C)) (b : L2.Binds K fd ps []) (hl : ps.length = n + 1) : Dm P w K mg base CX k C x n [] gPos sp :=
  ⟨f, fd, ps, _, _, M, F, hm, kbn_pos b hl, fun _ _ _ _ _ _ _ _ a _ => a⟩
end
/-- facts in a list -/
theorem fxb {l : List Bool} (h : l.all id = true) (i : Nat) {b : Bool} (hb : l[i]? = some b) : b = true := List.all_eq_true.mp h b (List.mem_of_getElem? hb)
end DL

end
section
set_option Elab.async false
set_option linter.all false
set_option maxRecDepth 100000
set_option maxHeartbeats 4000000
set_option synthInstance.maxHeartbeats 4000000
set_option synthInstance.maxSize 100000
namespace CROWDSAY_K30_SHARES
open PySem PySem.Spec PyProof.Rows L2 DL
def topS (i : Nat) : Stmt := PySem.Challenge.pw_crowdsay_k30_shares.main.body.getD i (.Pass ⟨0, 0, 0, 0⟩)
structure Tx (K : Fg) (mg : Str → Option Value) : Prop where
  b_gcd : mg "gcd" = some (.builtin "math.gcd")
  n_ZeroDivisionError : mg "ZeroDivisionError" = none
  n_abs : mg "abs" = none
  n_int : mg "int" = none
  n_isinstance : mg "isinstance" = none
  n_len : mg "len" = none
  n_max : mg "max" = none
  n_min : mg "min" = none
  n_range : mg "range" = none
  n_repr : mg "repr" = none
  n_str : mg "str" = none
abbrev s_l_cell_at : Stmt := topS 17
theorem sc_l_cell_at : FnScope ["script", "k"] ["script", "k"] (defScope s_l_cell_at) := ⟨rfl, rfl, rfl, by decide +kernel, rfl, by decide +kernel, by decide +kernel⟩
noncomputable def ex_l_cell_at (K : Fg)  : { G : M So // ∀ {P : Program} {w : World} {mg : Str → Option Value} {base : Heap} {f : Addr} {fd : FuncData} {dvs : List V} {kws : List (Str × V)}, FunD K "_law_cell_at" "_law_cell_at" (defArgs s_l_cell_at) (defBody s_l_cell_at) (defScope s_l_cell_at) dvs kws f fd → Tx K mg →  GFn P w K mg base CX0 1 f fd ["script", "k"] (spP K 2 (mDef (pinL [true, true]) 2 G)) } := by
  apply Subtype.mk
  intro P w mg base f fd dvs kws F T 
  refine FunD.gfn0 F sc_l_cell_at (fun vs H Q E h => h.1) (fun cdv A outer s H vs Q E hr h => ?_)
  have sc := sc_l_cell_at
  have hu64 := hr.r.units
  have hu0 := hr.r.units0
  have hu := hu_of hr.r
  refine ⟨_, (pss_cons (ps_if (pt_cmpR (kLt (K := K) rfl hu0) (pv 1) (pe_callB (kLen (K := K) rfl) (by rfl) T.n_len (by decide +kernel) (pa_cons (pv 0) pa_nil)) (by rfl))
  (pss_one (ps_ret (pe_ix (kIx (K := K) rfl) (pv 0) (pv 1) (fun _ _ => rfl))))
  pss_nil)
  (pss_one (ps_ret pe_int))), ?_⟩
  exact body_okP (N := ["script", "k"]) (n := 2) (pin := (pinL [true, true])) (by decide) h
noncomputable def m_l_cell_at (K : Fg) : M Sl := mDef (pinL [true, true]) 2 (ex_l_cell_at K ).1
abbrev s_l_tape : Stmt := topS 18
theorem sc_l_tape : FnScope ["script", "k", "cell", "p", "one", "found", "turn"] ["script", "k"] (defScope s_l_tape) := ⟨rfl, rfl, rfl, by decide +kernel, rfl, by decide +kernel, by decide +kernel⟩
noncomputable def ex_l_tape (K : Fg) {g__law_cell_at : M Sl} {p_D__law_cell_at_2 : List Ar → List Ar → List Ar} : { G : M So // ∀ {P : Program} {w : World} {mg : Str → Option Value} {base : Heap} {f : Addr} {fd : FuncData} {dvs : List V} {kws : List (Str × V)}, FunD K "_law_tape" "_law_tape" (defArgs s_l_tape) (defBody s_l_tape) (defScope s_l_tape) dvs kws f fd → Tx K mg → ∀ (D__law_cell_at_2 : Dk P w K mg base CX0 1 "_law_cell_at" 2 [] p_D__law_cell_at_2 (spP K 2 g__law_cell_at)),  GFn P w K mg base CX0 2 f fd ["script", "k"] (spP K 2 (mDef (pinL [true, true]) 7 G)) } := by
  apply Subtype.mk
  intro P w mg base f fd dvs kws F T D__law_cell_at_2
  refine FunD.gfn0 F sc_l_tape (fun vs H Q E h => h.1) (fun cdv A outer s H vs Q E hr h => ?_)
  have sc := sc_l_tape
  have hu64 := hr.r.units
  have hu0 := hr.r.units0
  have hu := hu_of hr.r
  refine ⟨_, (pss_cons (ps_set (i := 2) sc.nd rfl (.inl rfl) (gk_call D__law_cell_at_2 rfl rfl rfl rfl rfl (hr.mono (by decide)) pa0 rfl (pa_cons (pv 0) (pa_cons (pv 1) pa_nil)) pk_nil))
  (pss_cons (ps_if (pt_cmpR (kEq (K := K) rfl hu64) (pv 2) pe_int (by rfl))
  (pss_one (ps_ret (pe_lst (pa_cons pe_int pa_nil))))
  pss_nil)
  (pss_cons (ps_if (pt_cmpR opGeU (pv 2) (pe_op op_pow pe_int pe_int) (by rfl))
  (pss_one (ps_ret (pe_lst (pa_cons (pe_op op_sub (pv 2) (pe_op op_pow pe_int pe_int)) pa_nil))))
  pss_nil)
  (pss_cons (ps_set (i := 3) sc.nd rfl (.inl rfl) pe_int)
  (pss_cons (ps_set (i := 4) sc.nd rfl (.inl rfl) (pe_op op_modN (pe_op (kAdd (K := K) rfl) (pe_op (kAdd (K := K) rfl) (pe_op (kMul2 (K := K) rfl) (pv 2) pe_int) (pe_op (kMul2 (K := K) rfl) pe_int (pv 1))) pe_int) (pv 3)))
  (pss_cons (ps_set (i := 5) sc.nd rfl (.inl rfl) (pv 4))
  (pss_cons (ps_for PassesOwn.never rfl (pi_range1 rfl T.n_range (pa_cons pe_int pa_nil)) (pg_name (i := 6) sc.nd rfl (by first | exact .inl rfl | exact .inr rfl))
  (pss_cons (ps_set (i := 4) sc.nd rfl (.inl rfl) (pe_op op_modN (pe_op (kAdd (K := K) rfl) (pe_op (kAdd (K := K) rfl) (pe_op (kMul2 (K := K) rfl) (pv 4) (pv 4)) (pe_op (kMul2 (K := K) rfl) (pe_op (kMul2 (K := K) rfl) pe_int (pe_op (kAdd (K := K) rfl) (pv 6) pe_int)) (pe_op (kAdd (K := K) rfl) (pv 1) pe_int))) (pv 2)) (pv 3)))
  (pss_one (ps_set (i := 5) sc.nd rfl (.inl rfl) (pe_op (kAdd (K := K) rfl) (pe_op (kMul2 (K := K) rfl) (pv 5) (pv 3)) (pv 4))))))
  (pss_one (ps_ret (pe_lst (pa_cons (pv 5) pa_nil))))))))))), ?_⟩
  exact body_okP (N := ["script", "k", "cell", "p", "one", "found", "turn"]) (n := 2) (pin := (pinL [true, true])) (by decide) h
noncomputable def m_l_tape (K : Fg) : M Sl := mDef (pinL [true, true]) 7 (ex_l_tape K (g__law_cell_at := m_l_cell_at K) (p_D__law_cell_at_2 := gPos)).1
abbrev s_l_digit : Stmt := topS 19
theorem sc_l_digit : FnScope ["tape", "total", "found"] ["tape", "total"] (defScope s_l_digit) := ⟨rfl, rfl, rfl, by decide +kernel, rfl, by decide +kernel, by decide +kernel⟩
noncomputable def ex_l_digit (K : Fg)  : { G : M So // ∀ {P : Program} {w : World} {mg : Str → Option Value} {base : Heap} {f : Addr} {fd : FuncData} {dvs : List V} {kws : List (Str × V)}, FunD K "_law_digit" "_law_digit" (defArgs s_l_digit) (defBody s_l_digit) (defScope s_l_digit) dvs kws f fd → Tx K mg →  GFn P w K mg base CX0 1 f fd ["tape", "total"] (spP K 2 (mDef (pinL [true, true]) 3 G)) } := by
  apply Subtype.mk
  intro P w mg base f fd dvs kws F T 
  refine FunD.gfn0 F sc_l_digit (fun vs H Q E h => h.1) (fun cdv A outer s H vs Q E hr h => ?_)
  have sc := sc_l_digit
  have hu64 := hr.r.units
  have hu0 := hr.r.units0
  have hu := hu_of hr.r
  refine ⟨_, (pss_cons (ps_set (i := 2) sc.nd rfl (.inl rfl) (pe_op op_modN (pe_ix (kIx (K := K) rfl) (pv 0) pe_int (fun _ _ => rfl)) (pv 1)))
  (pss_cons (ps_asg (pe_op opDivA (pe_ix (kIx (K := K) rfl) (pv 0) pe_int (fun _ _ => rfl)) (pv 1)) (pg_sub (pv 0) pe_int set_list))
  (pss_one (ps_ret (pv 2))))), ?_⟩
  exact body_okP (N := ["tape", "total", "found"]) (n := 2) (pin := (pinL [true, true])) (by decide) h
noncomputable def m_l_digit (K : Fg) : M Sl := mDef (pinL [true, true]) 3 (ex_l_digit K ).1
abbrev s_l_common : Stmt := topS 20
theorem sc_l_common : FnScope ["numbers", "found", "number", "one", "other"] ["numbers"] (defScope s_l_common) := ⟨rfl, rfl, rfl, by decide +kernel, rfl, by decide +kernel, by decide +kernel⟩
noncomputable def ex_l_common (K : Fg)  : { G : M So // ∀ {P : Program} {w : World} {mg : Str → Option Value} {base : Heap} {f : Addr} {fd : FuncData} {dvs : List V} {kws : List (Str × V)}, FunD K "_law_common" "_law_common" (defArgs s_l_common) (defBody s_l_common) (defScope s_l_common) dvs kws f fd → Tx K mg →  GFn P w K mg base CX0 1 f fd ["numbers"] (spP K 1 (mDef (pinL [true]) 5 G)) } := by
  apply Subtype.mk
  intro P w mg base f fd dvs kws F T 
  refine FunD.gfn0 F sc_l_common (fun vs H Q E h => h.1) (fun cdv A outer s H vs Q E hr h => ?_)
  have sc := sc_l_common
  have hu64 := hr.r.units
  have hu0 := hr.r.units0
  have hu := hu_of hr.r
  refine ⟨_, (pss_cons (ps_set (i := 1) sc.nd rfl (.inl rfl) pe_int)
  (pss_cons (ps_for PassesOwn.never rfl (kiSeq (K := K) rfl (pv 0)) (pg_name (i := 2) sc.nd rfl (by first | exact .inl rfl | exact .inr rfl))
  (pss_cons (ps_par (i := 3) (j := 4) rfl sc.nd rfl rfl (by decide) rfl rfl (pa_cons (pv 1) (pa_cons (pe_callB call_abs (by rfl) T.n_abs (by decide +kernel) (pa_cons (pv 2) pa_nil)) pa_nil)) (by rfl))
  (pss_cons (ps_while PassesOwn.never (pt_cmpR (kNe (K := K) rfl hu64) (pv 4) pe_int (by rfl))
  (pss_one (ps_par (i := 3) (j := 4) rfl sc.nd rfl rfl (by decide) rfl rfl (pa_cons (pv 4) (pa_cons (pe_op op_modN (pv 3) (pv 4)) pa_nil)) (by rfl))))
  (pss_one (ps_set (i := 1) sc.nd rfl (.inl rfl) (pv 3))))))
  (pss_one (ps_ret (pv 1))))), ?_⟩
  exact body_okP (N := ["numbers", "found", "number", "one", "other"]) (n := 1) (pin := (pinL [true])) (by decide) h
noncomputable def m_l_common (K : Fg) : M Sl := mDef (pinL [true]) 5 (ex_l_common K ).1
abbrev s_l_share : Stmt := topS 21
theorem sc_l_share : FnScope ["top", "bottom", "part"] ["top", "bottom"] (defScope s_l_share) := ⟨rfl, rfl, rfl, by decide +kernel, rfl, by decide +kernel, by decide +kernel⟩
noncomputable def ex_l_share (K : Fg) {g__law_common : M Sl} {p_D__law_common_1 : List Ar → List Ar → List Ar} : { G : M So // ∀ {P : Program} {w : World} {mg : Str → Option Value} {base : Heap} {f : Addr} {fd : FuncData} {dvs : List V} {kws : List (Str × V)}, FunD K "_law_share" "_law_share" (defArgs s_l_share) (defBody s_l_share) (defScope s_l_share) dvs kws f fd → Tx K mg → ∀ (D__law_common_1 : Dk P w K mg base CX0 1 "_law_common" 1 [] p_D__law_common_1 (spP K 1 g__law_common)),  GFn P w K mg base CX0 2 f fd ["top", "bottom"] (spP K 2 (mDef (pinL [true, true]) 3 G)) } := by
  apply Subtype.mk
  intro P w mg base f fd dvs kws F T D__law_common_1
  refine FunD.gfn0 F sc_l_share (fun vs H Q E h => h.1) (fun cdv A outer s H vs Q E hr h => ?_)
  have sc := sc_l_share
  have hu64 := hr.r.units
  have hu0 := hr.r.units0
  have hu := hu_of hr.r
  refine ⟨_, (pss_cons (ps_set (i := 2) sc.nd rfl (.inl rfl) (pe_op (kMul2 (K := K) rfl) (gk_call D__law_common_1 rfl rfl rfl rfl rfl (hr.mono (by decide)) pa0 rfl (pa_cons (pe_lst (pa_cons (pv 0) (pa_cons (pv 1) pa_nil))) pa_nil) pk_nil) (pe_ix (kIx (K := K) rfl) (pe_lst (pa_cons pe_int (pa_cons (pe_un un_neg pe_int) pa_nil))) (pe_callTy call_int1 (by rfl) T.n_int (by decide +kernel) (pa_cons (pe_cmpR (kLt (K := K) rfl hu0) (pv 1) pe_int (by rfl)) pa_nil)) (fun _ _ => rfl))))
  (pss_one (ps_ret (pe_tup (pa_cons (pe_op opDivA (pv 0) (pv 2)) (pa_cons (pe_op opDivA (pv 1) (pv 2)) pa_nil)))))), ?_⟩
  exact body_okP (N := ["top", "bottom", "part"]) (n := 2) (pin := (pinL [true, true])) (by decide) h
noncomputable def m_l_share (K : Fg) : M Sl := mDef (pinL [true, true]) 3 (ex_l_share K (g__law_common := m_l_common K) (p_D__law_common_1 := gPos)).1
abbrev s_l_whole_number : Stmt := topS 22
theorem sc_l_whole_number : FnScope ["tape", "option", "number"] ["tape"] (defScope s_l_whole_number) := ⟨rfl, rfl, rfl, by decide +kernel, rfl, by decide +kernel, by decide +kernel⟩
noncomputable def ex_l_whole_number (K : Fg) {g__law_digit : M Sl} {p_D__law_digit_2 : List Ar → List Ar → List Ar} : { G : M So // ∀ {P : Program} {w : World} {mg : Str → Option Value} {base : Heap} {f : Addr} {fd : FuncData} {dvs : List V} {kws : List (Str × V)}, FunD K "_law_whole_number" "_law_whole_number" (defArgs s_l_whole_number) (defBody s_l_whole_number) (defScope s_l_whole_number) dvs kws f fd → Tx K mg → ∀ (D__law_digit_2 : Dk P w K mg base CX0 1 "_law_digit" 2 [] p_D__law_digit_2 (spP K 2 g__law_digit)),  GFn P w K mg base CX0 2 f fd ["tape"] (spP K 1 (mDef (pinL [true]) 3 G)) } := by
  apply Subtype.mk
  intro P w mg base f fd dvs kws F T D__law_digit_2
  refine FunD.gfn0 F sc_l_whole_number (fun vs H Q E h => h.1) (fun cdv A outer s H vs Q E hr h => ?_)
  have sc := sc_l_whole_number
  have hu64 := hr.r.units
  have hu0 := hr.r.units0
  have hu := hu_of hr.r
  refine ⟨_, (pss_cons (ps_set (i := 1) sc.nd rfl (.inl rfl) (gk_call D__law_digit_2 rfl rfl rfl rfl rfl (hr.mono (by decide)) pa0 rfl (pa_cons (pv 0) (pa_cons pe_int pa_nil)) pk_nil))
  (pss_cons (ps_set (i := 2) sc.nd rfl (.inl rfl) (gk_call D__law_digit_2 rfl rfl rfl rfl rfl (hr.mono (by decide)) pa0 rfl (pa_cons (pv 0) (pa_cons (pe_ix (kIx (K := K) rfl) (pe_lst (pa_cons pe_int (pa_cons pe_int (pa_cons pe_int (pa_cons (pe_op op_pow pe_int pe_int) (pa_cons (pe_op op_pow pe_int pe_int) (pa_cons pe_int pa_nil))))))) (pv 1) (fun _ _ => rfl)) pa_nil)) pk_nil))
  (pss_one (ps_ret (pe_op (kMul2 (K := K) rfl) (pv 2) (pe_ix (kIx (K := K) rfl) (pe_lst (pa_cons pe_int (pa_cons (pe_un un_neg pe_int) pa_nil))) (gk_call D__law_digit_2 rfl rfl rfl rfl rfl (hr.mono (by decide)) pa0 rfl (pa_cons (pv 0) (pa_cons pe_int pa_nil)) pk_nil) (fun _ _ => rfl))))))), ?_⟩
  exact body_okP (N := ["tape", "option", "number"]) (n := 1) (pin := (pinL [true])) (by decide) h
noncomputable def m_l_whole_number (K : Fg) : M Sl := mDef (pinL [true]) 3 (ex_l_whole_number K (g__law_digit := m_l_digit K) (p_D__law_digit_2 := gPos)).1
abbrev s_share___init : Stmt := (inClass (topS 15) 0)
theorem sc_share___init : FnScope ["self", "top", "bottom", "part"] ["self", "top", "bottom"] (defScope s_share___init) := ⟨rfl, rfl, rfl, by decide +kernel, rfl, by decide +kernel, by decide +kernel⟩
noncomputable def ex_share___init (K : Fg) {C_NoShare : Addr} : { G : M So // ∀ {P : Program} {w : World} {mg : Str → Option Value} {base : Heap} {f : Addr} {fd : FuncData} {dvs : List V} {kws : List (Str × V)}, FunD K "__init__" "Share.__init__" (defArgs s_share___init) (defBody s_share___init) (defScope s_share___init) dvs kws f fd → Tx K mg → ∀ (D_NoShare : Dx P w K mg base 1 "NoShare" C_NoShare "top"),  GFn P w K mg base (L2.CX P w) 3 f fd ["self", "top", "bottom"] (spD K 3 (mDef (pinL [true, true, true]) 4 G)) } := by
  apply Subtype.mk
  intro P w mg base f fd dvs kws F T D_NoShare
  refine FunD.gfn F sc_share___init (fun vs H Q E h => h.1) (fun cdv A outer s H vs Q E hr h => ?_)
  have sc := sc_share___init
  have hu64 := hr.r.units
  have hu0 := hr.r.units0
  have hu := hu_of hr.r
  have tk := takesX (P := P) (w := w) (K := K) (mg := mg) (base := base) (N := ["self", "top", "bottom", "part"]) (qual := "Share.__init__") (sc := defScope s_share___init) (f := f) (cdv := cdv) (A := A) (outer := outer) (s := s) (H := H) (E := E)
  refine ⟨_, (pss_cons (ps_if (pt_cmpR (kEq (K := K) rfl hu64) (pv 2) pe_int (by rfl))
  (pss_one (ps_rs rfl tk (kMkX D_NoShare rfl rfl rfl rfl rfl (hr.r.mono (by decide)) rfl (pv 1))))
  pss_nil)
  (pss_cons (ps_set (i := 3) sc.nd rfl (.inl rfl) (pe_callMB cr_gcd (by rfl) T.b_gcd (pa_cons (pv 1) (pa_cons (pv 2) pa_nil))))
  (pss_cons (ps_if (pt_cmpR (kLt (K := K) rfl hu0) (pv 2) pe_int (by rfl))
  (pss_one (ps_set (i := 3) sc.nd rfl (.inl rfl) (pe_un un_neg (pv 3))))
  pss_nil)
  (pss_cons (kSetF (K := K) rfl (pv 0) (pe_op opDivA (pv 1) (pv 3)) rfl)
  (pss_one (kSetF (K := K) rfl (pv 0) (pe_op opDivA (pv 2) (pv 3)) rfl)))))), ?_⟩
  exact body_ok (N := ["self", "top", "bottom", "part"]) (n := 3) (pin := (pinL [true, true, true])) (by decide) h
noncomputable def m_share___init (K : Fg) : M Sl := mDef (pinL [true, true, true]) 4 (ex_share___init K (C_NoShare := He.ga K "NoShare")).1
abbrev s_share___eq : Stmt := (inClass (topS 15) 1)
theorem sc_share___eq : FnScope ["self", "other"] ["self", "other"] (defScope s_share___eq) := ⟨rfl, rfl, rfl, by decide +kernel, rfl, by decide +kernel, by decide +kernel⟩
noncomputable def ex_share___eq (K : Fg) {C_Share : Addr} : { G : M So // ∀ {P : Program} {w : World} {mg : Str → Option Value} {base : Heap} {f : Addr} {fd : FuncData} {dvs : List V} {kws : List (Str × V)}, FunD K "__eq__" "Share.__eq__" (defArgs s_share___eq) (defBody s_share___eq) (defScope s_share___eq) dvs kws f fd → Tx K mg → ∀ (g_Share : mg "Share" = some (.ref C_Share)),  GFn P w K mg base CX0 1 f fd ["self", "other"] (spP K 2 (mDef (pinL [true, true]) 2 G)) } := by
  apply Subtype.mk
  intro P w mg base f fd dvs kws F T g_Share
  refine FunD.gfn0 F sc_share___eq (fun vs H Q E h => h.1) (fun cdv A outer s H vs Q E hr h => ?_)
  have sc := sc_share___eq
  have hu64 := hr.r.units
  have hu0 := hr.r.units0
  have hu := hu_of hr.r
  refine ⟨_, (pss_one (ps_ret (kAndT (K := K) rfl (pe_callB (kIsiU (K := K) rfl) (by rfl) T.n_isinstance (by decide +kernel) (pa_cons (pv 1) (pa_cons (pe_glob (v := .ref C_Share) rfl g_Share rfl) pa_nil))) (kAndT (K := K) rfl (pe_cmpR (kEq (K := K) rfl hu64) (kFldU (K := K) rfl (pv 0) rfl) (kFldU (K := K) rfl (pv 1) rfl) (by rfl)) (pe_one (pe_cmpR (kEq (K := K) rfl hu64) (kFldU (K := K) rfl (pv 0) rfl) (kFldU (K := K) rfl (pv 1) rfl) (by rfl))))))), ?_⟩
  exact body_okP (N := ["self", "other"]) (n := 2) (pin := (pinL [true, true])) (by decide) h
noncomputable def m_share___eq (K : Fg) : M Sl := mDef (pinL [true, true]) 2 (ex_share___eq K (C_Share := He.ga K "Share")).1
abbrev s_share___str : Stmt := (inClass (topS 15) 2)
theorem sc_share___str : FnScope ["self"] ["self"] (defScope s_share___str) := ⟨rfl, rfl, rfl, by decide +kernel, rfl, by decide +kernel, by decide +kernel⟩
noncomputable def ex_share___str (K : Fg)  : { G : M So // ∀ {P : Program} {w : World} {mg : Str → Option Value} {base : Heap} {f : Addr} {fd : FuncData} {dvs : List V} {kws : List (Str × V)}, FunD K "__str__" "Share.__str__" (defArgs s_share___str) (defBody s_share___str) (defScope s_share___str) dvs kws f fd → Tx K mg →  GFn P w K mg base CX0 1 f fd ["self"] (spP K 1 (mDef (pinL [true]) 1 G)) } := by
  apply Subtype.mk
  intro P w mg base f fd dvs kws F T 
  refine FunD.gfn0 F sc_share___str (fun vs H Q E h => h.1) (fun cdv A outer s H vs Q E hr h => ?_)
  have sc := sc_share___str
  have hu64 := hr.r.units
  have hu0 := hr.r.units0
  have hu := hu_of hr.r
  refine ⟨_, (pss_cons (ps_if (pt_cmpR (kEq (K := K) rfl hu64) (kFldU (K := K) rfl (pv 0) rfl) pe_int (by rfl))
  (pss_one (ps_ret (pe_joined1 (pe_fmt (kFldU (K := K) rfl (pv 0) rfl)))))
  pss_nil)
  (pss_one (ps_ret (pe_join (PJ.cons (pe_fmt (kFldU (K := K) rfl (pv 0) rfl)) (PJ.cons pe_str (PJ.cons (pe_fmt (kFldU (K := K) rfl (pv 0) rfl)) PJ.nil))))))), ?_⟩
  exact body_okP (N := ["self"]) (n := 1) (pin := (pinL [true])) (by decide) h
noncomputable def m_share___str (K : Fg) : M Sl := mDef (pinL [true]) 1 (ex_share___str K ).1
abbrev s_share___repr : Stmt := (inClass (topS 15) 3)
theorem sc_share___repr : FnScope ["self"] ["self"] (defScope s_share___repr) := ⟨rfl, rfl, rfl, by decide +kernel, rfl, by decide +kernel, by decide +kernel⟩
noncomputable def ex_share___repr (K : Fg)  : { G : M So // ∀ {P : Program} {w : World} {mg : Str → Option Value} {base : Heap} {f : Addr} {fd : FuncData} {dvs : List V} {kws : List (Str × V)}, FunD K "__repr__" "Share.__repr__" (defArgs s_share___repr) (defBody s_share___repr) (defScope s_share___repr) dvs kws f fd → Tx K mg →  GFn P w K mg base CX0 1 f fd ["self"] (spP K 1 (mDef (pinL [true]) 1 G)) } := by
  apply Subtype.mk
  intro P w mg base f fd dvs kws F T 
  refine FunD.gfn0 F sc_share___repr (fun vs H Q E h => h.1) (fun cdv A outer s H vs Q E hr h => ?_)
  have sc := sc_share___repr
  have hu64 := hr.r.units
  have hu0 := hr.r.units0
  have hu := hu_of hr.r
  refine ⟨_, (pss_one (ps_ret (pe_join (PJ.cons pe_str (PJ.cons (pe_fmt (kFldU (K := K) rfl (pv 0) rfl)) (PJ.cons pe_str (PJ.cons (pe_fmt (kFldU (K := K) rfl (pv 0) rfl)) (PJ.cons pe_str PJ.nil)))))))), ?_⟩
  exact body_okP (N := ["self"]) (n := 1) (pin := (pinL [true])) (by decide) h
noncomputable def m_share___repr (K : Fg) : M Sl := mDef (pinL [true]) 1 (ex_share___repr K ).1
abbrev s_share_plus : Stmt := (inClass (topS 15) 4)
theorem sc_share_plus : FnScope ["self", "other"] ["self", "other"] (defScope s_share_plus) := ⟨rfl, rfl, rfl, by decide +kernel, rfl, by decide +kernel, by decide +kernel⟩
noncomputable def ex_share_plus (K : Fg) {C_Share : Addr} {g_Share : M Sl} {p_D_Share_2 : List Ar → List Ar → List Ar} : { G : M So // ∀ {P : Program} {w : World} {mg : Str → Option Value} {base : Heap} {f : Addr} {fd : FuncData} {dvs : List V} {kws : List (Str × V)}, FunD K "plus" "Share.plus" (defArgs s_share_plus) (defBody s_share_plus) (defScope s_share_plus) dvs kws f fd → Tx K mg → ∀ (D_Share_2 : Dm P w K mg base (L2.CX P w) 3 C_Share "Share" 2 [] p_D_Share_2 (spD K 3 g_Share)),  GFn P w K mg base (L2.CX P w) 5 f fd ["self", "other"] (spD K 2 (mDef (pinL [true, true]) 2 G)) } := by
  apply Subtype.mk
  intro P w mg base f fd dvs kws F T D_Share_2
  refine FunD.gfn F sc_share_plus (fun vs H Q E h => h.1) (fun cdv A outer s H vs Q E hr h => ?_)
  have sc := sc_share_plus
  have hu64 := hr.r.units
  have hu0 := hr.r.units0
  have hu := hu_of hr.r
  have tk := takesX (P := P) (w := w) (K := K) (mg := mg) (base := base) (N := ["self", "other"]) (qual := "Share.plus") (sc := defScope s_share_plus) (f := f) (cdv := cdv) (A := A) (outer := outer) (s := s) (H := H) (E := E)
  refine ⟨_, (pss_one (ps_ret (gk_make D_Share_2 rfl rfl rfl rfl rfl (hr.mono (by decide)) (paP rfl rfl tk) rfl (pa_cons (pe_op (kAdd (K := K) rfl) (pe_op (kMul2 (K := K) rfl) (kFldU (K := K) rfl (pv 0) rfl) (kFldU (K := K) rfl (pv 1) rfl)) (pe_op (kMul2 (K := K) rfl) (kFldU (K := K) rfl (pv 1) rfl) (kFldU (K := K) rfl (pv 0) rfl))) (pa_cons (pe_op (kMul2 (K := K) rfl) (kFldU (K := K) rfl (pv 0) rfl) (kFldU (K := K) rfl (pv 1) rfl)) pa_nil)) pk_nil))), ?_⟩
  exact body_ok (N := ["self", "other"]) (n := 2) (pin := (pinL [true, true])) (by decide) h
noncomputable def m_share_plus (K : Fg) : M Sl := mDef (pinL [true, true]) 2 (ex_share_plus K (g_Share := m_share___init K) (p_D_Share_2 := gKw []) (C_Share := He.ga K "Share")).1
abbrev s_share_less : Stmt := (inClass (topS 15) 5)
theorem sc_share_less : FnScope ["self", "other"] ["self", "other"] (defScope s_share_less) := ⟨rfl, rfl, rfl, by decide +kernel, rfl, by decide +kernel, by decide +kernel⟩
noncomputable def ex_share_less (K : Fg) {C_Share : Addr} {g_Share : M Sl} {p_D_Share_2 : List Ar → List Ar → List Ar} : { G : M So // ∀ {P : Program} {w : World} {mg : Str → Option Value} {base : Heap} {f : Addr} {fd : FuncData} {dvs : List V} {kws : List (Str × V)}, FunD K "less" "Share.less" (defArgs s_share_less) (defBody s_share_less) (defScope s_share_less) dvs kws f fd → Tx K mg → ∀ (D_Share_2 : Dm P w K mg base (L2.CX P w) 3 C_Share "Share" 2 [] p_D_Share_2 (spD K 3 g_Share)),  GFn P w K mg base (L2.CX P w) 5 f fd ["self", "other"] (spD K 2 (mDef (pinL [true, true]) 2 G)) } := by
  apply Subtype.mk
  intro P w mg base f fd dvs kws F T D_Share_2
  refine FunD.gfn F sc_share_less (fun vs H Q E h => h.1) (fun cdv A outer s H vs Q E hr h => ?_)
  have sc := sc_share_less
  have hu64 := hr.r.units
  have hu0 := hr.r.units0
  have hu := hu_of hr.r
  have tk := takesX (P := P) (w := w) (K := K) (mg := mg) (base := base) (N := ["self", "other"]) (qual := "Share.less") (sc := defScope s_share_less) (f := f) (cdv := cdv) (A := A) (outer := outer) (s := s) (H := H) (E := E)
  refine ⟨_, (pss_one (ps_ret (gk_make D_Share_2 rfl rfl rfl rfl rfl (hr.mono (by decide)) (paP rfl rfl tk) rfl (pa_cons (pe_op op_sub (pe_op (kMul2 (K := K) rfl) (kFldU (K := K) rfl (pv 0) rfl) (kFldU (K := K) rfl (pv 1) rfl)) (pe_op (kMul2 (K := K) rfl) (kFldU (K := K) rfl (pv 1) rfl) (kFldU (K := K) rfl (pv 0) rfl))) (pa_cons (pe_op (kMul2 (K := K) rfl) (kFldU (K := K) rfl (pv 0) rfl) (kFldU (K := K) rfl (pv 1) rfl)) pa_nil)) pk_nil))), ?_⟩
  exact body_ok (N := ["self", "other"]) (n := 2) (pin := (pinL [true, true])) (by decide) h
noncomputable def m_share_less (K : Fg) : M Sl := mDef (pinL [true, true]) 2 (ex_share_less K (g_Share := m_share___init K) (p_D_Share_2 := gKw []) (C_Share := He.ga K "Share")).1
abbrev s_share_times : Stmt := (inClass (topS 15) 6)
theorem sc_share_times : FnScope ["self", "other"] ["self", "other"] (defScope s_share_times) := ⟨rfl, rfl, rfl, by decide +kernel, rfl, by decide +kernel, by decide +kernel⟩
noncomputable def ex_share_times (K : Fg) {C_Share : Addr} {g_Share : M Sl} {p_D_Share_2 : List Ar → List Ar → List Ar} : { G : M So // ∀ {P : Program} {w : World} {mg : Str → Option Value} {base : Heap} {f : Addr} {fd : FuncData} {dvs : List V} {kws : List (Str × V)}, FunD K "times" "Share.times" (defArgs s_share_times) (defBody s_share_times) (defScope s_share_times) dvs kws f fd → Tx K mg → ∀ (D_Share_2 : Dm P w K mg base (L2.CX P w) 3 C_Share "Share" 2 [] p_D_Share_2 (spD K 3 g_Share)),  GFn P w K mg base (L2.CX P w) 5 f fd ["self", "other"] (spD K 2 (mDef (pinL [true, true]) 2 G)) } := by
  apply Subtype.mk
  intro P w mg base f fd dvs kws F T D_Share_2
  refine FunD.gfn F sc_share_times (fun vs H Q E h => h.1) (fun cdv A outer s H vs Q E hr h => ?_)
  have sc := sc_share_times
  have hu64 := hr.r.units
  have hu0 := hr.r.units0
  have hu := hu_of hr.r
  have tk := takesX (P := P) (w := w) (K := K) (mg := mg) (base := base) (N := ["self", "other"]) (qual := "Share.times") (sc := defScope s_share_times) (f := f) (cdv := cdv) (A := A) (outer := outer) (s := s) (H := H) (E := E)
  refine ⟨_, (pss_one (ps_ret (gk_make D_Share_2 rfl rfl rfl rfl rfl (hr.mono (by decide)) (paP rfl rfl tk) rfl (pa_cons (pe_op (kMul2 (K := K) rfl) (kFldU (K := K) rfl (pv 0) rfl) (kFldU (K := K) rfl (pv 1) rfl)) (pa_cons (pe_op (kMul2 (K := K) rfl) (kFldU (K := K) rfl (pv 0) rfl) (kFldU (K := K) rfl (pv 1) rfl)) pa_nil)) pk_nil))), ?_⟩
  exact body_ok (N := ["self", "other"]) (n := 2) (pin := (pinL [true, true])) (by decide) h
noncomputable def m_share_times (K : Fg) : M Sl := mDef (pinL [true, true]) 2 (ex_share_times K (g_Share := m_share___init K) (p_D_Share_2 := gKw []) (C_Share := He.ga K "Share")).1
abbrev s_share_by : Stmt := (inClass (topS 15) 7)
theorem sc_share_by : FnScope ["self", "other"] ["self", "other"] (defScope s_share_by) := ⟨rfl, rfl, rfl, by decide +kernel, rfl, by decide +kernel, by decide +kernel⟩
noncomputable def ex_share_by (K : Fg) {C_NoShare : Addr} {C_Share : Addr} {g_Share : M Sl} {p_D_Share_2 : List Ar → List Ar → List Ar} : { G : M So // ∀ {P : Program} {w : World} {mg : Str → Option Value} {base : Heap} {f : Addr} {fd : FuncData} {dvs : List V} {kws : List (Str × V)}, FunD K "by" "Share.by" (defArgs s_share_by) (defBody s_share_by) (defScope s_share_by) dvs kws f fd → Tx K mg → ∀ (D_NoShare : Dx P w K mg base 1 "NoShare" C_NoShare "top"), ∀ (D_Share_2 : Dm P w K mg base (L2.CX P w) 3 C_Share "Share" 2 [] p_D_Share_2 (spD K 3 g_Share)),  GFn P w K mg base (L2.CX P w) 5 f fd ["self", "other"] (spD K 2 (mDef (pinL [true, true]) 2 G)) } := by
  apply Subtype.mk
  intro P w mg base f fd dvs kws F T D_NoShare D_Share_2
  refine FunD.gfn F sc_share_by (fun vs H Q E h => h.1) (fun cdv A outer s H vs Q E hr h => ?_)
  have sc := sc_share_by
  have hu64 := hr.r.units
  have hu0 := hr.r.units0
  have hu := hu_of hr.r
  have tk := takesX (P := P) (w := w) (K := K) (mg := mg) (base := base) (N := ["self", "other"]) (qual := "Share.by") (sc := defScope s_share_by) (f := f) (cdv := cdv) (A := A) (outer := outer) (s := s) (H := H) (E := E)
  refine ⟨_, (pss_cons (ps_if (pt_cmpR (kEq (K := K) rfl hu64) (kFldU (K := K) rfl (pv 1) rfl) pe_int (by rfl))
  (pss_one (ps_rs rfl tk (kMkX D_NoShare rfl rfl rfl rfl rfl (hr.r.mono (by decide)) rfl (kFldU (K := K) rfl (pv 0) rfl))))
  pss_nil)
  (pss_one (ps_ret (gk_make D_Share_2 rfl rfl rfl rfl rfl (hr.mono (by decide)) (paP rfl rfl tk) rfl (pa_cons (pe_op (kMul2 (K := K) rfl) (kFldU (K := K) rfl (pv 0) rfl) (kFldU (K := K) rfl (pv 1) rfl)) (pa_cons (pe_op (kMul2 (K := K) rfl) (kFldU (K := K) rfl (pv 0) rfl) (kFldU (K := K) rfl (pv 1) rfl)) pa_nil)) pk_nil)))), ?_⟩
  exact body_ok (N := ["self", "other"]) (n := 2) (pin := (pinL [true, true])) (by decide) h
noncomputable def m_share_by (K : Fg) : M Sl := mDef (pinL [true, true]) 2 (ex_share_by K (C_NoShare := He.ga K "NoShare") (g_Share := m_share___init K) (p_D_Share_2 := gKw []) (C_Share := He.ga K "Share")).1
abbrev s_l_is_share : Stmt := topS 23
theorem sc_l_is_share : FnScope ["found", "due", "text"] ["found", "due"] (defScope s_l_is_share) := ⟨rfl, rfl, rfl, by decide +kernel, rfl, by decide +kernel, by decide +kernel⟩
noncomputable def ex_l_is_share (K : Fg) {C_Share : Addr} {g_share___repr : M Sl} {g_share___str : M Sl} : { G : M So // ∀ {P : Program} {w : World} {mg : Str → Option Value} {base : Heap} {f : Addr} {fd : FuncData} {dvs : List V} {kws : List (Str × V)}, FunD K "_law_is_share" "_law_is_share" (defArgs s_l_is_share) (defBody s_l_is_share) (defScope s_l_is_share) dvs kws f fd → Tx K mg → ∀ (g_Share : mg "Share" = some (.ref C_Share)), ∀ (D_Share_repr_0 : Dq P w K mg base CX0 1 C_Share "__repr__" 0 [] gPos (spP K 1 g_share___repr)), ∀ (D_Share_str_0 : Dq P w K mg base CX0 1 C_Share "__str__" 0 [] gPos (spP K 1 g_share___str)),  GFn P w K mg base CX0 4 f fd ["found", "due"] (spP K 2 (mDef (pinL [true, true]) 3 G)) } := by
  apply Subtype.mk
  intro P w mg base f fd dvs kws F T g_Share D_Share_repr_0 D_Share_str_0
  refine FunD.gfn0 F sc_l_is_share (fun vs H Q E h => h.1) (fun cdv A outer s H vs Q E hr h => ?_)
  have sc := sc_l_is_share
  have hu64 := hr.r.units
  have hu0 := hr.r.units0
  have hu := hu_of hr.r
  refine ⟨_, (pss_cons (ps_if (PW.pt (pw_or (pt_not (kTru (K := K) rfl (pe_callB (kIsiU (K := K) rfl) (by rfl) T.n_isinstance (by decide +kernel) (pa_cons (pv 0) (pa_cons (pe_glob (v := .ref C_Share) rfl g_Share rfl) pa_nil))))) (pw_or1 (pt_cmpR (kNe (K := K) rfl hu64) (pe_callB (kRepr (K := K) rfl hu64 hr.g) (by rfl) T.n_repr (by decide +kernel) (pa_cons (pe_tup (pa_cons (kFldU (K := K) rfl (pv 0) rfl) (pa_cons (kFldU (K := K) rfl (pv 0) rfl) pa_nil))) pa_nil)) (pe_callB (kRepr (K := K) rfl hu64 hr.g) (by rfl) T.n_repr (by decide +kernel) (pa_cons (pv 1) pa_nil)) (by rfl)))))
  (pss_one (ps_ret pe_bl))
  pss_nil)
  (pss_cons (ps_set (i := 2) sc.nd rfl (.inl rfl) (pe_callTy kStrI (by rfl) T.n_str (by decide +kernel) (pa_cons (pe_ix (kIx (K := K) rfl) (pv 1) pe_int (fun _ _ => rfl)) pa_nil)))
  (pss_cons (ps_if (pt_cmpR (kNe (K := K) rfl hu64) (pe_ix (kIx (K := K) rfl) (pv 1) pe_int (fun _ _ => rfl)) pe_int (by rfl))
  (pss_one (ps_set (i := 2) sc.nd rfl (.inl rfl) (pe_op (kAdd (K := K) rfl) (pe_op (kAdd (K := K) rfl) (pv 2) pe_str) (pe_callTy kStrI (by rfl) T.n_str (by decide +kernel) (pa_cons (pe_ix (kIx (K := K) rfl) (pv 1) pe_int (fun _ _ => rfl)) pa_nil)))))
  pss_nil)
  (pss_one (ps_ret (kAndT (K := K) rfl (pe_cmpR (kEq (K := K) rfl hu64) (pe_callTy (kStrOwn D_Share_str_0 rfl rfl rfl rfl rfl (hr.mono (by decide))) (by rfl) T.n_str (by decide +kernel) (pa_cons (pv 0) pa_nil)) (pv 2) (by rfl)) (pe_one (pe_cmpR (kEq (K := K) rfl hu64) (pe_callB (kReprOwn D_Share_repr_0 rfl rfl rfl rfl rfl (hr.mono (by decide))) (by rfl) T.n_repr (by decide +kernel) (pa_cons (pv 0) pa_nil)) (pe_op (kAdd (K := K) rfl) (pe_op (kAdd (K := K) rfl) (pe_op (kAdd (K := K) rfl) (pe_op (kAdd (K := K) rfl) pe_str (pe_callTy kStrI (by rfl) T.n_str (by decide +kernel) (pa_cons (pe_ix (kIx (K := K) rfl) (pv 1) pe_int (fun _ _ => rfl)) pa_nil))) pe_str) (pe_callTy kStrI (by rfl) T.n_str (by decide +kernel) (pa_cons (pe_ix (kIx (K := K) rfl) (pv 1) pe_int (fun _ _ => rfl)) pa_nil))) pe_str) (by rfl))))))))), ?_⟩
  exact body_okP (N := ["found", "due", "text"]) (n := 2) (pin := (pinL [true, true])) (by decide) h
noncomputable def m_l_is_share (K : Fg) : M Sl := mDef (pinL [true, true]) 3 (ex_l_is_share K (C_Share := He.ga K "Share") (g_share___repr := m_share___repr K) (g_share___str := m_share___str K)).1
abbrev s_l_refused : Stmt := topS 24
theorem sc_l_refused : FnScope ["divided", "one", "other", "caught", "e"] ["divided", "one", "other"] (defScope s_l_refused) := ⟨rfl, rfl, rfl, by decide +kernel, rfl, by decide +kernel, by decide +kernel⟩
noncomputable def ex_l_refused (K : Fg) {C_Share : Addr} {g_share_by : M Sl} {g_Share : M Sl} {p_D_Share_2 : List Ar → List Ar → List Ar} {C_NoShare : Addr} {C_NoStand : Addr} {C_NoSay : Addr} {C_NoRow : Addr} {C_NoMeeting : Addr} {C_NoMark : Addr} {C_NoGate : Addr} {C_NoCustom : Addr} {C_NoBody : Addr} {C_TooMany : Addr} {C_NoTurn : Addr} {C_NoText : Addr} : { G : M So // ∀ {P : Program} {w : World} {mg : Str → Option Value} {base : Heap} {f : Addr} {fd : FuncData} {dvs : List V} {kws : List (Str × V)}, FunD K "_law_refused" "_law_refused" (defArgs s_l_refused) (defBody s_l_refused) (defScope s_l_refused) dvs kws f fd → Tx K mg → ∀ (D_Share_by_1 : Dq P w K mg base (L2.CX P w) 5 C_Share "by" 1 [] gPos (spD K 2 g_share_by)), ∀ (D_Share_2 : Dm P w K mg base (L2.CX P w) 3 C_Share "Share" 2 [] p_D_Share_2 (spD K 3 g_Share)), ∀ (g_NoShare : mg "NoShare" = some (.ref C_NoShare)), ∀ (g_NoStand : mg "NoStand" = some (.ref C_NoStand)), ∀ (g_NoSay : mg "NoSay" = some (.ref C_NoSay)), ∀ (g_NoRow : mg "NoRow" = some (.ref C_NoRow)), ∀ (g_NoMeeting : mg "NoMeeting" = some (.ref C_NoMeeting)), ∀ (g_NoMark : mg "NoMark" = some (.ref C_NoMark)), ∀ (g_NoGate : mg "NoGate" = some (.ref C_NoGate)), ∀ (g_NoCustom : mg "NoCustom" = some (.ref C_NoCustom)), ∀ (g_NoBody : mg "NoBody" = some (.ref C_NoBody)), ∀ (g_TooMany : mg "TooMany" = some (.ref C_TooMany)), ∀ (g_NoTurn : mg "NoTurn" = some (.ref C_NoTurn)), ∀ (g_NoText : mg "NoText" = some (.ref C_NoText)),  GFn P w K mg base CX0 7 f fd ["divided", "one", "other"] (spP K 3 (mDef (pinL [true, true, true]) 5 G)) } := by
  apply Subtype.mk
  intro P w mg base f fd dvs kws F T D_Share_by_1 D_Share_2 g_NoShare g_NoStand g_NoSay g_NoRow g_NoMeeting g_NoMark g_NoGate g_NoCustom g_NoBody g_TooMany g_NoTurn g_NoText
  refine FunD.gfn0 F sc_l_refused (fun vs H Q E h => h.1) (fun cdv A outer s H vs Q E hr h => ?_)
  have sc := sc_l_refused
  have hu64 := hr.r.units
  have hu0 := hr.r.units0
  have hu := hu_of hr.r
  refine ⟨_, (pss_cons (ps_set (i := 3) sc.nd rfl (.inl rfl) pe_non)
  (pss_cons (kKeep (K := K) (i := 4) (j := 3) (c := .ref C_NoShare) rfl rfl rfl rfl sc.nd rfl rfl rfl rfl ⟨rfl, by decide, .inl g_NoShare⟩ tk0 (fun W pn xe tkT ownT => (pss_one (ps_if (kTru (K := K) rfl (pv 0))
  (pss_one (ps_expr (gk_meth D_Share_by_1 rfl rfl rfl rfl rfl (hr.mono (by decide)) (paP rfl rfl tkT) (pv 1) (pa_cons (pv 2) pa_nil) pk_nil)))
  (pss_one (ps_expr (gk_make D_Share_2 rfl rfl rfl rfl rfl (hr.mono (by decide)) (paP rfl rfl tkT) rfl (pa_cons (pv 1) (pa_cons (pv 2) pa_nil)) pk_nil)))))))
  (pss_cons (ps_if (PW.pt (pw_or (pt_cmp (pc_isN (pv 3)) rfl) (pw_or1 (pt_not (kTru (K := K) rfl (pe_callB (kIsiU (K := K) rfl) (by rfl) T.n_isinstance (by decide +kernel) (pa_cons (pv 3) (pa_cons (pe_bltn (v := .ty "ZeroDivisionError") (u := .type "ZeroDivisionError") rfl T.n_ZeroDivisionError (by decide +kernel) rfl) pa_nil))))))))
  (pss_one (ps_ret pe_non))
  pss_nil)
  (pss_cons (ps_if (kTru (K := K) rfl (pe_callB (kIsTup (K := K) rfl) (by rfl) T.n_isinstance (by decide +kernel) (pa_cons (pv 3) (pa_cons (pe_tup (pa_cons (pe_glob (v := .ref C_NoBody) rfl g_NoBody rfl) (pa_cons (pe_glob (v := .ref C_NoCustom) rfl g_NoCustom rfl) (pa_cons (pe_glob (v := .ref C_NoGate) rfl g_NoGate rfl) (pa_cons (pe_glob (v := .ref C_NoMark) rfl g_NoMark rfl) (pa_cons (pe_glob (v := .ref C_NoMeeting) rfl g_NoMeeting rfl) (pa_cons (pe_glob (v := .ref C_NoRow) rfl g_NoRow rfl) (pa_cons (pe_glob (v := .ref C_NoSay) rfl g_NoSay rfl) (pa_cons (pe_glob (v := .ref C_NoStand) rfl g_NoStand rfl) pa_nil))))))))) pa_nil))))
  (pss_one (ps_ret pe_non))
  pss_nil)
  (pss_cons (ps_if (kTru (K := K) rfl (pe_callB (kIsTup (K := K) rfl) (by rfl) T.n_isinstance (by decide +kernel) (pa_cons (pv 3) (pa_cons (pe_tup (pa_cons (pe_glob (v := .ref C_NoText) rfl g_NoText rfl) (pa_cons (pe_glob (v := .ref C_NoTurn) rfl g_NoTurn rfl) (pa_cons (pe_glob (v := .ref C_TooMany) rfl g_TooMany rfl) pa_nil)))) pa_nil))))
  (pss_one (ps_ret pe_non))
  pss_nil)
  (pss_one (ps_ret (kFldU (K := K) rfl (pv 3) rfl)))))))), ?_⟩
  exact body_okP (N := ["divided", "one", "other", "caught", "e"]) (n := 3) (pin := (pinL [true, true, true])) (by decide) h
noncomputable def m_l_refused (K : Fg) : M Sl := mDef (pinL [true, true, true]) 5 (ex_l_refused K (C_Share := He.ga K "Share") (g_share_by := m_share_by K) (g_Share := m_share___init K) (p_D_Share_2 := gKw []) (C_NoShare := He.ga K "NoShare") (C_NoStand := He.ga K "NoStand") (C_NoSay := He.ga K "NoSay") (C_NoRow := He.ga K "NoRow") (C_NoMeeting := He.ga K "NoMeeting") (C_NoMark := He.ga K "NoMark") (C_NoGate := He.ga K "NoGate") (C_NoCustom := He.ga K "NoCustom") (C_NoBody := He.ga K "NoBody") (C_TooMany := He.ga K "TooMany") (C_NoTurn := He.ga K "NoTurn") (C_NoText := He.ga K "NoText")).1
abbrev s_l_four_right : Stmt := topS 25
theorem sc_l_four_right : FnScope ["one", "other", "due", "more", "a", "b", "c", "d"] ["one", "other", "due", "more"] (defScope s_l_four_right) := ⟨rfl, rfl, rfl, by decide +kernel, rfl, by decide +kernel, by decide +kernel⟩
noncomputable def ex_l_four_right (K : Fg) {g__law_is_share : M Sl} {p_D__law_is_share_2 : List Ar → List Ar → List Ar} {g__law_share : M Sl} {p_D__law_share_2 : List Ar → List Ar → List Ar} {C_Share : Addr} {g_share_plus : M Sl} {g_share_less : M Sl} {g_share_times : M Sl} {g__law_refused : M Sl} {p_D__law_refused_3 : List Ar → List Ar → List Ar} {g_share_by : M Sl} : { G : M So // ∀ {P : Program} {w : World} {mg : Str → Option Value} {base : Heap} {f : Addr} {fd : FuncData} {dvs : List V} {kws : List (Str × V)}, FunD K "_law_four_right" "_law_four_right" (defArgs s_l_four_right) (defBody s_l_four_right) (defScope s_l_four_right) dvs kws f fd → Tx K mg → ∀ (D__law_is_share_2 : Dk P w K mg base CX0 4 "_law_is_share" 2 [] p_D__law_is_share_2 (spP K 2 g__law_is_share)), ∀ (D__law_share_2 : Dk P w K mg base CX0 2 "_law_share" 2 [] p_D__law_share_2 (spP K 2 g__law_share)), ∀ (D_Share_plus_1 : Dq P w K mg base (L2.CX P w) 5 C_Share "plus" 1 [] gPos (spD K 2 g_share_plus)), ∀ (D_Share_less_1 : Dq P w K mg base (L2.CX P w) 5 C_Share "less" 1 [] gPos (spD K 2 g_share_less)), ∀ (D_Share_times_1 : Dq P w K mg base (L2.CX P w) 5 C_Share "times" 1 [] gPos (spD K 2 g_share_times)), ∀ (D__law_refused_3 : Dk P w K mg base CX0 7 "_law_refused" 3 [] p_D__law_refused_3 (spP K 3 g__law_refused)), ∀ (D_Share_by_1 : Dq P w K mg base (L2.CX P w) 5 C_Share "by" 1 [] gPos (spD K 2 g_share_by)),  GFn P w K mg base CX0 8 f fd ["one", "other", "due", "more"] (spP K 4 (mDef (pinL [true, true, true, true]) 8 G)) } := by
  apply Subtype.mk
  intro P w mg base f fd dvs kws F T D__law_is_share_2 D__law_share_2 D_Share_plus_1 D_Share_less_1 D_Share_times_1 D__law_refused_3 D_Share_by_1
  refine FunD.gfn0 F sc_l_four_right (fun vs H Q E h => h.1) (fun cdv A outer s H vs Q E hr h => ?_)
  have sc := sc_l_four_right
  have hu64 := hr.r.units
  have hu0 := hr.r.units0
  have hu := hu_of hr.r
  refine ⟨_, (pss_cons (ps_asg (pv 2) (kgSq (K := K) (n := 2) rfl rfl (pgs_cons (pg_name (i := 4) sc.nd rfl (by first | exact .inl rfl | exact .inr rfl)) (pgs_cons (pg_name (i := 5) sc.nd rfl (by first | exact .inl rfl | exact .inr rfl)) pgs_nil))))
  (pss_cons (ps_asg (pv 3) (kgSq (K := K) (n := 2) rfl rfl (pgs_cons (pg_name (i := 6) sc.nd rfl (by first | exact .inl rfl | exact .inr rfl)) (pgs_cons (pg_name (i := 7) sc.nd rfl (by first | exact .inl rfl | exact .inr rfl)) pgs_nil))))
  (pss_cons (ps_if (pt_not (kTru (K := K) rfl (gk_call D__law_is_share_2 rfl rfl rfl rfl rfl (hr.mono (by decide)) pa0 rfl (pa_cons (gk_meth D_Share_plus_1 rfl rfl rfl rfl rfl (hr.mono (by decide)) (paQ rfl rfl) (pv 0) (pa_cons (pv 1) pa_nil) pk_nil) (pa_cons (gk_call D__law_share_2 rfl rfl rfl rfl rfl (hr.mono (by decide)) pa0 rfl (pa_cons (pe_op (kAdd (K := K) rfl) (pe_op (kMul2 (K := K) rfl) (pv 4) (pv 7)) (pe_op (kMul2 (K := K) rfl) (pv 6) (pv 5))) (pa_cons (pe_op (kMul2 (K := K) rfl) (pv 5) (pv 7)) pa_nil)) pk_nil) pa_nil)) pk_nil)))
  (pss_one (ps_ret pe_bl))
  pss_nil)
  (pss_cons (ps_if (pt_not (kTru (K := K) rfl (gk_call D__law_is_share_2 rfl rfl rfl rfl rfl (hr.mono (by decide)) pa0 rfl (pa_cons (gk_meth D_Share_less_1 rfl rfl rfl rfl rfl (hr.mono (by decide)) (paQ rfl rfl) (pv 0) (pa_cons (pv 1) pa_nil) pk_nil) (pa_cons (gk_call D__law_share_2 rfl rfl rfl rfl rfl (hr.mono (by decide)) pa0 rfl (pa_cons (pe_op op_sub (pe_op (kMul2 (K := K) rfl) (pv 4) (pv 7)) (pe_op (kMul2 (K := K) rfl) (pv 6) (pv 5))) (pa_cons (pe_op (kMul2 (K := K) rfl) (pv 5) (pv 7)) pa_nil)) pk_nil) pa_nil)) pk_nil)))
  (pss_one (ps_ret pe_bl))
  pss_nil)
  (pss_cons (ps_if (pt_not (kTru (K := K) rfl (gk_call D__law_is_share_2 rfl rfl rfl rfl rfl (hr.mono (by decide)) pa0 rfl (pa_cons (gk_meth D_Share_times_1 rfl rfl rfl rfl rfl (hr.mono (by decide)) (paQ rfl rfl) (pv 0) (pa_cons (pv 1) pa_nil) pk_nil) (pa_cons (gk_call D__law_share_2 rfl rfl rfl rfl rfl (hr.mono (by decide)) pa0 rfl (pa_cons (pe_op (kMul2 (K := K) rfl) (pv 4) (pv 6)) (pa_cons (pe_op (kMul2 (K := K) rfl) (pv 5) (pv 7)) pa_nil)) pk_nil) pa_nil)) pk_nil)))
  (pss_one (ps_ret pe_bl))
  pss_nil)
  (pss_cons (ps_if (pt_cmpR (kEq (K := K) rfl hu64) (pv 6) pe_int (by rfl))
  (pss_one (ps_ret (pe_cmpR (kEq (K := K) rfl hu64) (gk_call D__law_refused_3 rfl rfl rfl rfl rfl (hr.mono (by decide)) pa0 rfl (pa_cons pe_bl (pa_cons (pv 0) (pa_cons (pv 1) pa_nil))) pk_nil) (pv 4) (by rfl))))
  pss_nil)
  (pss_one (ps_ret (gk_call D__law_is_share_2 rfl rfl rfl rfl rfl (hr.mono (by decide)) pa0 rfl (pa_cons (gk_meth D_Share_by_1 rfl rfl rfl rfl rfl (hr.mono (by decide)) (paQ rfl rfl) (pv 0) (pa_cons (pv 1) pa_nil) pk_nil) (pa_cons (gk_call D__law_share_2 rfl rfl rfl rfl rfl (hr.mono (by decide)) pa0 rfl (pa_cons (pe_op (kMul2 (K := K) rfl) (pv 4) (pv 7)) (pa_cons (pe_op (kMul2 (K := K) rfl) (pv 5) (pv 6)) pa_nil)) pk_nil) pa_nil)) pk_nil))))))))), ?_⟩
  exact body_okP (N := ["one", "other", "due", "more", "a", "b", "c", "d"]) (n := 4) (pin := (pinL [true, true, true, true])) (by decide) h
noncomputable def m_l_four_right (K : Fg) : M Sl := mDef (pinL [true, true, true, true]) 8 (ex_l_four_right K (g__law_is_share := m_l_is_share K) (p_D__law_is_share_2 := gPos) (g__law_share := m_l_share K) (p_D__law_share_2 := gPos) (C_Share := He.ga K "Share") (g_share_plus := m_share_plus K) (g_share_less := m_share_less K) (g_share_times := m_share_times K) (g__law_refused := m_l_refused K) (p_D__law_refused_3 := gPos) (g_share_by := m_share_by K)).1
abbrev s_l_equal_right : Stmt := topS 26
theorem sc_l_equal_right : FnScope ["one", "other", "due", "more"] ["one", "other", "due", "more"] (defScope s_l_equal_right) := ⟨rfl, rfl, rfl, by decide +kernel, rfl, by decide +kernel, by decide +kernel⟩
noncomputable def ex_l_equal_right (K : Fg) {C_Share : Addr} {g_share___eq : M Sl} {g_Share : M Sl} {p_D_Share_2 : List Ar → List Ar → List Ar} {g_share___str : M Sl} : { G : M So // ∀ {P : Program} {w : World} {mg : Str → Option Value} {base : Heap} {f : Addr} {fd : FuncData} {dvs : List V} {kws : List (Str × V)}, FunD K "_law_equal_right" "_law_equal_right" (defArgs s_l_equal_right) (defBody s_l_equal_right) (defScope s_l_equal_right) dvs kws f fd → Tx K mg → ∀ (D_Share_eq_1 : Dq P w K mg base CX0 1 C_Share "__eq__" 1 [] gPos (spP K 2 g_share___eq)), ∀ (N_Share : NeOk K C_Share), ∀ (D_Share_2 : Dm P w K mg base (L2.CX P w) 3 C_Share "Share" 2 [] p_D_Share_2 (spD K 3 g_Share)), ∀ (S_Share : PySem.W.subIn K (.ref C_Share) (.type "int") = some false), ∀ (D_Share_str_0 : Dq P w K mg base CX0 1 C_Share "__str__" 0 [] gPos (spP K 1 g_share___str)),  GFn P w K mg base CX0 5 f fd ["one", "other", "due", "more"] (spP K 4 (mDef (pinL [true, true, true, true]) 4 G)) } := by
  apply Subtype.mk
  intro P w mg base f fd dvs kws F T D_Share_eq_1 N_Share D_Share_2 S_Share D_Share_str_0
  refine FunD.gfn0 F sc_l_equal_right (fun vs H Q E h => h.1) (fun cdv A outer s H vs Q E hr h => ?_)
  have sc := sc_l_equal_right
  have hu64 := hr.r.units
  have hu0 := hr.r.units0
  have hu := hu_of hr.r
  refine ⟨_, (pss_cons (ps_if (PW.pt (pw_or (pt_cmpR (kNe (K := K) rfl hu64) (pe_cmpR (kOwn D_Share_eq_1 rfl rfl rfl rfl rfl (hr.mono (by decide))) (pv 0) (pv 1) (by rfl)) (pe_cmpR (kEq (K := K) rfl hu64) (pv 2) (pv 3) (by rfl)) (by rfl)) (pw_or1 (pt_cmpR (kNe (K := K) rfl hu64) (pe_cmpR (kOwnN D_Share_eq_1 N_Share rfl rfl rfl rfl rfl (hr.mono (by decide))) (pv 0) (pv 1) (by rfl)) (pe_cmpR (kNe (K := K) rfl hu64) (pv 2) (pv 3) (by rfl)) (by rfl)))))
  (pss_one (ps_ret pe_bl))
  pss_nil)
  (pss_cons (ps_if (pt_cmpR (kNe (K := K) rfl hu64) (pe_cmpR (kInOwn D_Share_eq_1 rfl rfl rfl rfl rfl (hr.mono (by decide))) (pv 1) (pe_lst (pa_cons (gk_make D_Share_2 rfl rfl rfl rfl rfl (hr.mono (by decide)) (paQ rfl rfl) rfl (pa_cons pe_int (pa_cons pe_int pa_nil)) pk_nil) (pa_cons (pv 0) pa_nil))) (by rfl)) (kOrT (K := K) rfl (pe_cmpR (kEq (K := K) rfl hu64) (pv 2) (pv 3) (by rfl)) (pe_one (pe_cmpR (kEq (K := K) rfl hu64) (pv 3) (pe_tup (pa_cons pe_int (pa_cons pe_int pa_nil))) (by rfl)))) (by rfl))
  (pss_one (ps_ret pe_bl))
  pss_nil)
  (pss_one (ps_ret (kNotT (K := K) rfl (kOrT (K := K) rfl (pe_cmpR (kOwnP D_Share_eq_1 rfl rfl rfl rfl rfl (hr.mono (by decide))) (pv 0) (pe_ix (kIx (K := K) rfl) (pv 2) pe_int (fun _ _ => rfl)) (by rfl)) (kOrT (K := K) rfl (pe_cmpR (kOwnP D_Share_eq_1 rfl rfl rfl rfl rfl (hr.mono (by decide))) (pv 0) (pv 2) (by rfl)) (kOrT (K := K) rfl (pe_cmpR (kOwnP D_Share_eq_1 rfl rfl rfl rfl rfl (hr.mono (by decide))) (pv 0) (pe_callTy (kStrOwn D_Share_str_0 rfl rfl rfl rfl rfl (hr.mono (by decide))) (by rfl) T.n_str (by decide +kernel) (pa_cons (pv 0) pa_nil)) (by rfl)) (kOrT (K := K) rfl (pe_cmpR (kOwnP D_Share_eq_1 rfl rfl rfl rfl rfl (hr.mono (by decide))) (pv 0) (pe_lst (pa_cons (pv 0) pa_nil)) (by rfl)) (pe_one (pe_cmpR (kOwnI D_Share_eq_1 S_Share rfl rfl rfl rfl rfl (hr.mono (by decide))) (pe_ix (kIx (K := K) rfl) (pv 2) pe_int (fun _ _ => rfl)) (pv 0) (by rfl)))))))))))), ?_⟩
  exact body_okP (N := ["one", "other", "due", "more"]) (n := 4) (pin := (pinL [true, true, true, true])) (by decide) h
noncomputable def m_l_equal_right (K : Fg) : M Sl := mDef (pinL [true, true, true, true]) 4 (ex_l_equal_right K (C_Share := He.ga K "Share") (g_share___eq := m_share___eq K) (g_Share := m_share___init K) (p_D_Share_2 := gKw []) (g_share___str := m_share___str K)).1
abbrev s_law : Stmt := topS 27
theorem sc_law : FnScope ["script", "k", "tape", "a", "b", "c", "d", "one", "other", "due", "more", "turn"] ["script"] (defScope s_law) := ⟨rfl, rfl, rfl, by decide +kernel, rfl, by decide +kernel, by decide +kernel⟩
noncomputable def ex_law (K : Fg) {g__law_tape : M Sl} {p_D__law_tape_2 : List Ar → List Ar → List Ar} {g__law_whole_number : M Sl} {p_D__law_whole_number_1 : List Ar → List Ar → List Ar} {C_Share : Addr} {g_Share : M Sl} {p_D_Share_2 : List Ar → List Ar → List Ar} {g__law_share : M Sl} {p_D__law_share_2 : List Ar → List Ar → List Ar} {g__law_is_share : M Sl} {p_D__law_is_share_2 : List Ar → List Ar → List Ar} {p_D_Share_1 : List Ar → List Ar → List Ar} {g__law_four_right : M Sl} {p_D__law_four_right_4 : List Ar → List Ar → List Ar} {g__law_equal_right : M Sl} {p_D__law_equal_right_4 : List Ar → List Ar → List Ar} {g__law_refused : M Sl} {p_D__law_refused_3 : List Ar → List Ar → List Ar} : { G : M So // ∀ {P : Program} {w : World} {mg : Str → Option Value} {base : Heap} {f : Addr} {fd : FuncData} {dvs : List V} {kws : List (Str × V)}, FunD K "law" "law" (defArgs s_law) (defBody s_law) (defScope s_law) dvs kws f fd → Tx K mg → ∀ (D__law_tape_2 : Dk P w K mg base CX0 2 "_law_tape" 2 [] p_D__law_tape_2 (spP K 2 g__law_tape)), ∀ (D__law_whole_number_1 : Dk P w K mg base CX0 2 "_law_whole_number" 1 [] p_D__law_whole_number_1 (spP K 1 g__law_whole_number)), ∀ (D_Share_2 : Dm P w K mg base (L2.CX P w) 3 C_Share "Share" 2 [] p_D_Share_2 (spD K 3 g_Share)), ∀ (D__law_share_2 : Dk P w K mg base CX0 2 "_law_share" 2 [] p_D__law_share_2 (spP K 2 g__law_share)), ∀ (D__law_is_share_2 : Dk P w K mg base CX0 4 "_law_is_share" 2 [] p_D__law_is_share_2 (spP K 2 g__law_is_share)), ∀ (D_Share_1 : Dm P w K mg base (L2.CX P w) 3 C_Share "Share" 1 [] p_D_Share_1 (spD K 3 g_Share)), ∀ (D__law_four_right_4 : Dk P w K mg base CX0 8 "_law_four_right" 4 [] p_D__law_four_right_4 (spP K 4 g__law_four_right)), ∀ (D__law_equal_right_4 : Dk P w K mg base CX0 5 "_law_equal_right" 4 [] p_D__law_equal_right_4 (spP K 4 g__law_equal_right)), ∀ (D__law_refused_3 : Dk P w K mg base CX0 7 "_law_refused" 3 [] p_D__law_refused_3 (spP K 3 g__law_refused)),  GFn P w K mg base CX0 9 f fd ["script"] (spP K 1 (mDef (pinL [true]) 12 G)) } := by
  apply Subtype.mk
  intro P w mg base f fd dvs kws F T D__law_tape_2 D__law_whole_number_1 D_Share_2 D__law_share_2 D__law_is_share_2 D_Share_1 D__law_four_right_4 D__law_equal_right_4 D__law_refused_3
  refine FunD.gfn0 F sc_law (fun vs H Q E h => h.1) (fun cdv A outer s H vs Q E hr h => ?_)
  have sc := sc_law
  have hu64 := hr.r.units
  have hu0 := hr.r.units0
  have hu := hu_of hr.r
  refine ⟨_, (pss_cons (ps_for PassesOwn.never rfl (pi_range2 rfl T.n_range (pa_cons pe_int (pa_cons (pe_callB (call_max2 rfl) (by rfl) T.n_max (by decide +kernel) (pa_cons pe_int (pa_cons (pe_callB (call_min2 rfl) (by rfl) T.n_min (by decide +kernel) (pa_cons pe_int (pa_cons (pe_callB (kLen (K := K) rfl) (by rfl) T.n_len (by decide +kernel) (pa_cons (pv 0) pa_nil)) pa_nil))) pa_nil))) pa_nil))) (pg_name (i := 1) sc.nd rfl (by first | exact .inl rfl | exact .inr rfl))
  (pss_cons (ps_set (i := 2) sc.nd rfl (.inr rfl) (gk_call D__law_tape_2 rfl rfl rfl rfl rfl (hr.mono (by decide)) pa0 rfl (pa_cons (pv 0) (pa_cons (pv 1) pa_nil)) pk_nil))
  (pss_cons (ps_asg (pe_lc (own := [("turn", 11)]) rfl sc.nd (pi_range1 rfl T.n_range (pa_cons pe_int pa_nil)) (blkOk_by (N := ["script", "k", "tape", "a", "b", "c", "d", "one", "other", "due", "more", "turn"]) (sc := defScope s_law) (by decide +kernel)) (fun _ _ _ _ _ => (pg_name (i := 11) sc.nd rfl (by first | exact .inl rfl | exact .inr rfl))) (fun _ _ _ _ _ => pts_nil) (fun _ _ _ _ _ => (gk_call D__law_whole_number_1 rfl rfl rfl rfl rfl (hr.mono (by decide)) pa0 rfl (pa_cons (pv 2) pa_nil) pk_nil))) (kgSq (K := K) (n := 4) rfl rfl (pgs_cons (pg_name (i := 3) sc.nd rfl (by first | exact .inl rfl | exact .inr rfl)) (pgs_cons (pg_name (i := 4) sc.nd rfl (by first | exact .inl rfl | exact .inr rfl)) (pgs_cons (pg_name (i := 5) sc.nd rfl (by first | exact .inl rfl | exact .inr rfl)) (pgs_cons (pg_name (i := 6) sc.nd rfl (by first | exact .inl rfl | exact .inr rfl)) pgs_nil))))))
  (pss_cons (ps_par (i := 4) (j := 6) rfl sc.nd rfl rfl (by decide) rfl rfl (pa_cons (kOrT (K := K) rfl (pv 4) (pe_one pe_int)) (pa_cons (kOrT (K := K) rfl (pv 6) (pe_one pe_int)) pa_nil)) (by rfl))
  (pss_cons (ps_par (i := 7) (j := 8) rfl sc.nd rfl rfl (by decide) rfl rfl (pa_cons (gk_make D_Share_2 rfl rfl rfl rfl rfl (hr.mono (by decide)) (paQ rfl rfl) rfl (pa_cons (pv 3) (pa_cons (pv 4) pa_nil)) pk_nil) (pa_cons (gk_make D_Share_2 rfl rfl rfl rfl rfl (hr.mono (by decide)) (paQ rfl rfl) rfl (pa_cons (pv 5) (pa_cons (pv 6) pa_nil)) pk_nil) pa_nil)) (by rfl))
  (pss_cons (ps_par (i := 9) (j := 10) rfl sc.nd rfl rfl (by decide) rfl rfl (pa_cons (gk_call D__law_share_2 rfl rfl rfl rfl rfl (hr.mono (by decide)) pa0 rfl (pa_cons (pv 3) (pa_cons (pv 4) pa_nil)) pk_nil) (pa_cons (gk_call D__law_share_2 rfl rfl rfl rfl rfl (hr.mono (by decide)) pa0 rfl (pa_cons (pv 5) (pa_cons (pv 6) pa_nil)) pk_nil) pa_nil)) (by rfl))
  (pss_cons (ps_if (PW.pt (pw_or (pt_not (kTru (K := K) rfl (gk_call D__law_is_share_2 rfl rfl rfl rfl rfl (hr.mono (by decide)) pa0 rfl (pa_cons (pv 7) (pa_cons (pv 9) pa_nil)) pk_nil))) (pw_or (pt_not (kTru (K := K) rfl (gk_call D__law_is_share_2 rfl rfl rfl rfl rfl (hr.mono (by decide)) pa0 rfl (pa_cons (pv 8) (pa_cons (pv 10) pa_nil)) pk_nil))) (pw_or1 (pt_not (kTru (K := K) rfl (gk_call D__law_is_share_2 rfl rfl rfl rfl rfl (hr.mono (by decide)) pa0 rfl (pa_cons (gk_make D_Share_1 rfl rfl rfl rfl rfl (hr.mono (by decide)) (paQ rfl rfl) rfl (pa_cons (pv 3) pa_nil) pk_nil) (pa_cons (pe_tup (pa_cons (pv 3) (pa_cons pe_int pa_nil))) pa_nil)) pk_nil)))))))
  (pss_one (ps_ret pe_bl))
  pss_nil)
  (pss_cons (ps_if (pt_not (kTru (K := K) rfl (gk_call D__law_is_share_2 rfl rfl rfl rfl rfl (hr.mono (by decide)) pa0 rfl (pa_cons (gk_make D_Share_2 rfl rfl rfl rfl rfl (hr.mono (by decide)) (paQ rfl rfl) rfl (pa_cons pe_int (pa_cons (pv 4) pa_nil)) pk_nil) (pa_cons (pe_tup (pa_cons pe_int (pa_cons pe_int pa_nil))) pa_nil)) pk_nil)))
  (pss_one (ps_ret pe_bl))
  pss_nil)
  (pss_cons (ps_if (PW.pt (pw_or (pt_not (kTru (K := K) rfl (gk_call D__law_four_right_4 rfl rfl rfl rfl rfl (hr.mono (by decide)) pa0 rfl (pa_cons (pv 7) (pa_cons (pv 8) (pa_cons (pv 9) (pa_cons (pv 10) pa_nil)))) pk_nil))) (pw_or1 (pt_not (kTru (K := K) rfl (gk_call D__law_four_right_4 rfl rfl rfl rfl rfl (hr.mono (by decide)) pa0 rfl (pa_cons (pv 8) (pa_cons (pv 7) (pa_cons (pv 10) (pa_cons (pv 9) pa_nil)))) pk_nil))))))
  (pss_one (ps_ret pe_bl))
  pss_nil)
  (pss_cons (ps_if (PW.pt (pw_or (pt_not (kTru (K := K) rfl (gk_call D__law_four_right_4 rfl rfl rfl rfl rfl (hr.mono (by decide)) pa0 rfl (pa_cons (pv 7) (pa_cons (pv 7) (pa_cons (pv 9) (pa_cons (pv 9) pa_nil)))) pk_nil))) (pw_or1 (pt_not (kTru (K := K) rfl (gk_call D__law_four_right_4 rfl rfl rfl rfl rfl (hr.mono (by decide)) pa0 rfl (pa_cons (pv 8) (pa_cons (pv 8) (pa_cons (pv 10) (pa_cons (pv 10) pa_nil)))) pk_nil))))))
  (pss_one (ps_ret pe_bl))
  pss_nil)
  (pss_cons (ps_if (PW.pt (pw_or (pt_not (kTru (K := K) rfl (gk_call D__law_equal_right_4 rfl rfl rfl rfl rfl (hr.mono (by decide)) pa0 rfl (pa_cons (pv 7) (pa_cons (pv 8) (pa_cons (pv 9) (pa_cons (pv 10) pa_nil)))) pk_nil))) (pw_or1 (pt_not (kTru (K := K) rfl (gk_call D__law_equal_right_4 rfl rfl rfl rfl rfl (hr.mono (by decide)) pa0 rfl (pa_cons (pv 7) (pa_cons (gk_make D_Share_2 rfl rfl rfl rfl rfl (hr.mono (by decide)) (paQ rfl rfl) rfl (pa_cons (pe_op (kMul2 (K := K) rfl) (pv 3) pe_int) (pa_cons (pe_op (kMul2 (K := K) rfl) (pv 4) pe_int) pa_nil)) pk_nil) (pa_cons (pv 9) (pa_cons (pv 9) pa_nil)))) pk_nil))))))
  (pss_one (ps_ret pe_bl))
  pss_nil)
  (pss_cons (ps_if (PW.pt (pw_or (pt_cmpR (kNe (K := K) rfl hu64) (gk_call D__law_refused_3 rfl rfl rfl rfl rfl (hr.mono (by decide)) pa0 rfl (pa_cons pe_bl (pa_cons (pv 3) (pa_cons pe_int pa_nil))) pk_nil) (pv 3) (by rfl)) (pw_or1 (pt_cmpR (kNe (K := K) rfl hu64) (gk_call D__law_refused_3 rfl rfl rfl rfl rfl (hr.mono (by decide)) pa0 rfl (pa_cons pe_bl (pa_cons (pv 5) (pa_cons pe_int pa_nil))) pk_nil) (pv 5) (by rfl)))))
  (pss_one (ps_ret pe_bl))
  pss_nil)
  (pss_one (ps_if (PW.pt (pw_or (pt_not (kTru (K := K) rfl (gk_call D__law_is_share_2 rfl rfl rfl rfl rfl (hr.mono (by decide)) pa0 rfl (pa_cons (pv 7) (pa_cons (pv 9) pa_nil)) pk_nil))) (pw_or1 (pt_not (kTru (K := K) rfl (gk_call D__law_is_share_2 rfl rfl rfl rfl rfl (hr.mono (by decide)) pa0 rfl (pa_cons (pv 8) (pa_cons (pv 10) pa_nil)) pk_nil))))))
  (pss_one (ps_ret pe_bl))
  pss_nil))))))))))))))
  (pss_one (ps_ret pe_bl))), ?_⟩
  exact body_okP (N := ["script", "k", "tape", "a", "b", "c", "d", "one", "other", "due", "more", "turn"]) (n := 1) (pin := (pinL [true])) (by decide) h
noncomputable def m_law (K : Fg) : M Sl := mDef (pinL [true]) 12 (ex_law K (g__law_tape := m_l_tape K) (p_D__law_tape_2 := gPos) (g__law_whole_number := m_l_whole_number K) (p_D__law_whole_number_1 := gPos) (g_Share := m_share___init K) (p_D_Share_2 := gKw []) (C_Share := He.ga K "Share") (g__law_share := m_l_share K) (p_D__law_share_2 := gPos) (g__law_is_share := m_l_is_share K) (p_D__law_is_share_2 := gPos) (p_D_Share_1 := gKw [.int 1]) (g__law_four_right := m_l_four_right K) (p_D__law_four_right_4 := gPos) (g__law_equal_right := m_l_equal_right K) (p_D__law_equal_right_4 := gPos) (g__law_refused := m_l_refused K) (p_D__law_refused_3 := gPos)).1
end CROWDSAY_K30_SHARES

end
section
set_option Elab.async false
set_option linter.all false
set_option maxRecDepth 100000
set_option maxHeartbeats 0
namespace CROWDSAY_K30_SHARES
open PySem PySem.Spec PyProof.Rows L2 DL
def d_l_cell_at : He.DefD := ⟨("_law_cell_at", none), "_law_cell_at", "_law_cell_at", defArgs s_l_cell_at, defBody s_l_cell_at, defScope s_l_cell_at, [], []⟩
def d_l_tape : He.DefD := ⟨("_law_tape", none), "_law_tape", "_law_tape", defArgs s_l_tape, defBody s_l_tape, defScope s_l_tape, [], []⟩
def d_l_digit : He.DefD := ⟨("_law_digit", none), "_law_digit", "_law_digit", defArgs s_l_digit, defBody s_l_digit, defScope s_l_digit, [], []⟩
def d_l_common : He.DefD := ⟨("_law_common", none), "_law_common", "_law_common", defArgs s_l_common, defBody s_l_common, defScope s_l_common, [], []⟩
def d_l_share : He.DefD := ⟨("_law_share", none), "_law_share", "_law_share", defArgs s_l_share, defBody s_l_share, defScope s_l_share, [], []⟩
def d_l_whole_number : He.DefD := ⟨("_law_whole_number", none), "_law_whole_number", "_law_whole_number", defArgs s_l_whole_number, defBody s_l_whole_number, defScope s_l_whole_number, [], []⟩
def d_share___init : He.DefD := ⟨("Share", some "__init__"), "__init__", "Share.__init__", defArgs s_share___init, defBody s_share___init, defScope s_share___init, [.int (1)], []⟩
def d_share___eq : He.DefD := ⟨("Share", some "__eq__"), "__eq__", "Share.__eq__", defArgs s_share___eq, defBody s_share___eq, defScope s_share___eq, [], []⟩
def d_share___str : He.DefD := ⟨("Share", some "__str__"), "__str__", "Share.__str__", defArgs s_share___str, defBody s_share___str, defScope s_share___str, [], []⟩
def d_share___repr : He.DefD := ⟨("Share", some "__repr__"), "__repr__", "Share.__repr__", defArgs s_share___repr, defBody s_share___repr, defScope s_share___repr, [], []⟩
def d_share_plus : He.DefD := ⟨("Share", some "plus"), "plus", "Share.plus", defArgs s_share_plus, defBody s_share_plus, defScope s_share_plus, [], []⟩
def d_share_less : He.DefD := ⟨("Share", some "less"), "less", "Share.less", defArgs s_share_less, defBody s_share_less, defScope s_share_less, [], []⟩
def d_share_times : He.DefD := ⟨("Share", some "times"), "times", "Share.times", defArgs s_share_times, defBody s_share_times, defScope s_share_times, [], []⟩
def d_share_by : He.DefD := ⟨("Share", some "by"), "by", "Share.by", defArgs s_share_by, defBody s_share_by, defScope s_share_by, [], []⟩
def d_l_is_share : He.DefD := ⟨("_law_is_share", none), "_law_is_share", "_law_is_share", defArgs s_l_is_share, defBody s_l_is_share, defScope s_l_is_share, [], []⟩
def d_l_refused : He.DefD := ⟨("_law_refused", none), "_law_refused", "_law_refused", defArgs s_l_refused, defBody s_l_refused, defScope s_l_refused, [], []⟩
def d_l_four_right : He.DefD := ⟨("_law_four_right", none), "_law_four_right", "_law_four_right", defArgs s_l_four_right, defBody s_l_four_right, defScope s_l_four_right, [], []⟩
def d_l_equal_right : He.DefD := ⟨("_law_equal_right", none), "_law_equal_right", "_law_equal_right", defArgs s_l_equal_right, defBody s_l_equal_right, defScope s_l_equal_right, [], []⟩
def d_law : He.DefD := ⟨("law", none), "law", "law", defArgs s_law, defBody s_law, defScope s_law, [], []⟩
abbrev s_x_noshare : Stmt := inClass (topS 5) 0
def d_x_noshare : He.DefD := ⟨("NoShare", some "__init__"), "__init__", "NoShare.__init__", defArgs s_x_noshare, defBody s_x_noshare, defScope s_x_noshare, [], []⟩
def fn : List He.DefD := [d_l_cell_at, d_l_tape, d_l_digit, d_l_common, d_l_share, d_l_whole_number, d_share___init, d_share___eq, d_share___str, d_share___repr, d_share_plus, d_share_less, d_share_times, d_share_by, d_l_is_share, d_l_refused, d_l_four_right, d_l_equal_right, d_law, d_x_noshare]
def fa1 : List He.Fa := [.glo "_law_cell_at", .glo "_law_tape", .glo "_law_digit", .glo "_law_common", .glo "_law_share", .glo "_law_whole_number", .glo "_law_is_share", .glo "_law_refused", .glo "_law_four_right", .glo "_law_equal_right", .glo "law", .glo "NoCustom", .glo "NoMeeting", .glo "TooMany", .glo "NoShare", .glo "NoText", .glo "NoGate", .glo "NoMark", .glo "NoSay", .glo "NoTurn", .glo "NoStand", .glo "NoBody", .glo "NoRow", .glo "Share", .free "ZeroDivisionError", .free "abs", .free "int", .free "isinstance", .free "len", .free "max", .free "min", .free "range", .free "repr", .free "str", .free "ValueError"]
def fa2 : List He.Fa := [.free "IndexError", .free "OverflowError", .cls "Share", .mkr "Share", .noat "Share" "top", .noat "Share" "bottom", .meth "Share" "__eq__", .meth "Share" "__str__", .meth "Share" "__repr__", .meth "Share" "plus", .meth "Share" "less", .meth "Share" "times", .meth "Share" "by"]
def fa3 : List He.Fa := []
def fa : List He.Fa := fa1 ++ fa2 ++ fa3
def exA (K : Fg) : Bool := (xclsB K (He.ga K "NoShare") bmZero "ZeroDivisionError.__new__" "top")
def exL (K : Fg) : List Bool := [clsxB K (He.ga K "Share"), decide (PySem.W.exmOne K (.ref (He.ga K "NoShare")) (.ref (He.ga K "NoShare")) = some true), decide (PySem.W.kitOne K (.ref (He.ga K "NoShare")) (.ref (He.ga K "NoCustom")) = some false), decide (PySem.W.kitOne K (.ref (He.ga K "NoShare")) (.ref (He.ga K "NoMeeting")) = some false), decide (PySem.W.kitOne K (.ref (He.ga K "NoShare")) (.ref (He.ga K "TooMany")) = some false), decide (PySem.W.kitOne K (.ref (He.ga K "NoShare")) (.ref (He.ga K "NoShare")) = some true), decide (PySem.W.kitOne K (.ref (He.ga K "NoShare")) (.ref (He.ga K "NoText")) = some false), decide (PySem.W.kitOne K (.ref (He.ga K "NoShare")) (.ref (He.ga K "NoGate")) = some false), decide (PySem.W.kitOne K (.ref (He.ga K "NoShare")) (.ref (He.ga K "NoMark")) = some false), decide (PySem.W.kitOne K (.ref (He.ga K "NoShare")) (.ref (He.ga K "NoSay")) = some false), decide (PySem.W.kitOne K (.ref (He.ga K "NoShare")) (.ref (He.ga K "NoTurn")) = some false), decide (PySem.W.kitOne K (.ref (He.ga K "NoShare")) (.ref (He.ga K "NoStand")) = some false), decide (PySem.W.kitOne K (.ref (He.ga K "NoShare")) (.ref (He.ga K "NoBody")) = some false), decide (PySem.W.kitOne K (.ref (He.ga K "NoShare")) (.ref (He.ga K "NoRow")) = some false), decide (PySem.W.kitOne K (.ref (He.ga K "NoShare")) (.type "ValueError") = some false), decide (PySem.W.kitOne K (.ref (He.ga K "NoShare")) (.type "IndexError") = some false), decide (PySem.W.kitOne K (.ref (He.ga K "NoShare")) (.type "KeyError") = some false), decide (PySem.W.kitOne K (.ref (He.ga K "NoShare")) (.type "LookupError") = some false), decide (PySem.W.kitOne K (.ref (He.ga K "NoShare")) (.type "RuntimeError") = some false), decide (PySem.W.kitOne K (.ref (He.ga K "NoShare")) (.type "OverflowError") = some false), decide (PySem.W.kitOne K (.ref (He.ga K "NoShare")) (.type "ZeroDivisionError") = some true), decide (PySem.W.kitOne K (.ref (He.ga K "NoShare")) (.type "TypeError") = some false), decide (PySem.W.kitAny K (.ref (He.ga K "NoShare")) [.ref (He.ga K "NoBody"), .ref (He.ga K "NoCustom"), .ref (He.ga K "NoGate"), .ref (He.ga K "NoMark"), .ref (He.ga K "NoMeeting"), .ref (He.ga K "NoRow"), .ref (He.ga K "NoSay"), .ref (He.ga K "NoStand")] = some false), decide (PySem.W.kitAny K (.ref (He.ga K "NoShare")) [.ref (He.ga K "NoText"), .ref (He.ga K "NoTurn"), .ref (He.ga K "TooMany")] = some false), decide (PySem.W.nsIn K mainGlobals "gcd" = some (some (.builtin "math.gcd")))]
def ex (K : Fg) : Bool := exA K && (exL K).all id
abbrev R : PySem.W.OpenRow := PySem.W.OpenLaw.row PySem.Challenge.rw_crowdsay_k30_shares
abbrev hk : PySem.W.Hook := He.hookX 6 fa fn [] [] ex
def ob (s : PySem.W.SharedT) : He.AlX := He.obsX 6 fa fn [] [] ex (HandSHeadRun.getT s)
theorem ob_eq (s : PySem.W.SharedT) : ob s = hk.obs s.abs := He.obsX_eq (HandSHeadRun.getT_eq s)
def l1 : List PySem.Str := ["gcd", "NoCustom", "NoMeeting", "TooMany", "NoShare", "NoText", "NoGate", "NoMark", "NoSay", "NoTurn", "NoStand", "NoBody"]
def l2 : List PySem.Str := ["NoRow", "Share", "_law_cell_at", "_law_tape", "_law_digit", "_law_common", "_law_share", "_law_whole_number", "_law_is_share", "_law_refused", "_law_four_right", "_law_equal_right"]
def loose : List PySem.Str := l1 ++ l2
theorem run (w : World) : HandSHeadRun.RunEqI R (PySem.W.view R.prog [0, 27]) hk ob 20000 loose w := by
  unfold HandSHeadRun.RunEqI
  kernel_rfl
end CROWDSAY_K30_SHARES

end
section
set_option Elab.async false
set_option linter.all false
set_option maxRecDepth 100000
set_option maxHeartbeats 8000000
namespace CROWDSAY_K30_SHARES
open PySem PySem.Spec PyProof.Rows L2 DL
theorem ty_ZeroDivisionError : typeOf (.type "ZeroDivisionError") = pure (.type "type") := by kernel_rfl
theorem look_ZeroDivisionError (K : Fg) : PySem.W.findCls K (.type "ZeroDivisionError") (.type "type") "__init__" = some (.val (.builtin "ZeroDivisionError.__init__")) := by kernel_rfl
theorem sc_x_noshare : FnScope ["self", "top"] ["self", "top"] (defScope s_x_noshare) := ⟨rfl, rfl, rfl, by decide +kernel, rfl, by decide +kernel, by decide +kernel⟩
theorem ini_noshare {P : Program} {w : World} {K : Fg} {mg : Str → Option Value} {base : Heap} {f C : Addr} {fd : FuncData} {dvs : List V} {kws : List (Str × V)}
    (F : FunD K "__init__" "NoShare.__init__" (defArgs s_x_noshare) (defBody s_x_noshare) (defScope s_x_noshare) dvs kws f fd) (hB : mg "ZeroDivisionError" = none) (x : XCls K C bmZero "ZeroDivisionError.__new__" "top") :
    FnOk P w K mg base CX0 1 f fd ["self", "top"] (spX C "top" okX) := by
  refine F.ok sc_x_noshare (fun vs H Q E h => by obtain ⟨a, v, rfl, _⟩ := h; rfl) (fun cdv A outer s H vs Q E hr h => ⟨_, PSs.nox (pss_cons (ps_expr (pe_binit (B := "ZeroDivisionError") (N := "ZeroDivisionError.__new__") (I := "ZeroDivisionError.__init__") (bm := bmZero) rfl hB (by decide +kernel) ty_ZeroDivisionError (by decide +kernel) (look_ZeroDivisionError K) (by decide +kernel)
    (pa_cons (pv 0) (pa_cons (pe_join (PJ.cons pe_str (PJ.cons (pe_fmt (pv 1)) (PJ.cons pe_str PJ.nil)))) pa_nil)))) (pss_one (ps_sf (B := "ZeroDivisionError") (N := "ZeroDivisionError.__new__") (I := "ZeroDivisionError.__init__") (bm := bmZero) (pv 0) (pv 1)))), ?_⟩)
  refine initX_reads (K := K) (own_zero x) x.no (fun a v ok t ht => ?_) (by decide) h
  simp only [List.mem_cons, List.not_mem_nil, or_false] at ht
  rcases ht with rfl | rfl | rfl
  · exact partC (by decide)
  · exact partF (i := 1) rfl ok
  · exact partC (by decide)
theorem facts {P : Program} {w : World} {K : Fg} {h : Heap} {mg : Str → Option Value} {f0 : Addr} (X : K.In h) (G : h.Ns mainGlobals mg) (hfa : mg "law" = some (.ref f0)) (c : He.SaysX fa fn [] [] ex w h K) :
    ∃ fd : FuncData, (∀ (s : Shared) (v : Value), BindsTo s fd ⟨[v], []⟩ [("script", v)]) ∧ ∀ base : Heap, GFn P w K mg base CX0 9 f0 fd ["script"] (spP K 1 (m_law K)) := by
  have cd := c.t.d
  obtain ⟨fd_l_cell_at, F_l_cell_at⟩ := cd.def_ 0 (d := d_l_cell_at) rfl
  obtain ⟨fd_l_tape, F_l_tape⟩ := cd.def_ 1 (d := d_l_tape) rfl
  obtain ⟨fd_l_digit, F_l_digit⟩ := cd.def_ 2 (d := d_l_digit) rfl
  obtain ⟨fd_l_common, F_l_common⟩ := cd.def_ 3 (d := d_l_common) rfl
  obtain ⟨fd_l_share, F_l_share⟩ := cd.def_ 4 (d := d_l_share) rfl
  obtain ⟨fd_l_whole_number, F_l_whole_number⟩ := cd.def_ 5 (d := d_l_whole_number) rfl
  obtain ⟨fd_share___init, F_share___init⟩ := cd.def_ 6 (d := d_share___init) rfl
  obtain ⟨fd_share___eq, F_share___eq⟩ := cd.def_ 7 (d := d_share___eq) rfl
  obtain ⟨fd_share___str, F_share___str⟩ := cd.def_ 8 (d := d_share___str) rfl
  obtain ⟨fd_share___repr, F_share___repr⟩ := cd.def_ 9 (d := d_share___repr) rfl
  obtain ⟨fd_share_plus, F_share_plus⟩ := cd.def_ 10 (d := d_share_plus) rfl
  obtain ⟨fd_share_less, F_share_less⟩ := cd.def_ 11 (d := d_share_less) rfl
  obtain ⟨fd_share_times, F_share_times⟩ := cd.def_ 12 (d := d_share_times) rfl
  obtain ⟨fd_share_by, F_share_by⟩ := cd.def_ 13 (d := d_share_by) rfl
  obtain ⟨fd_l_is_share, F_l_is_share⟩ := cd.def_ 14 (d := d_l_is_share) rfl
  obtain ⟨fd_l_refused, F_l_refused⟩ := cd.def_ 15 (d := d_l_refused) rfl
  obtain ⟨fd_l_four_right, F_l_four_right⟩ := cd.def_ 16 (d := d_l_four_right) rfl
  obtain ⟨fd_l_equal_right, F_l_equal_right⟩ := cd.def_ 17 (d := d_l_equal_right) rfl
  obtain ⟨fd_law, F_law⟩ := cd.def_ 18 (d := d_law) rfl
  obtain ⟨fd_x_noshare, F_x_noshare⟩ := cd.def_ 19 (d := d_x_noshare) rfl
  have g__law_cell_at : mg "_law_cell_at" = some (.ref (He.ga K "_law_cell_at")) := He.glo_ok X G (cd.fact 0 (f := .glo "_law_cell_at") rfl)
  have g__law_tape : mg "_law_tape" = some (.ref (He.ga K "_law_tape")) := He.glo_ok X G (cd.fact 1 (f := .glo "_law_tape") rfl)
  have g__law_digit : mg "_law_digit" = some (.ref (He.ga K "_law_digit")) := He.glo_ok X G (cd.fact 2 (f := .glo "_law_digit") rfl)
  have g__law_common : mg "_law_common" = some (.ref (He.ga K "_law_common")) := He.glo_ok X G (cd.fact 3 (f := .glo "_law_common") rfl)
  have g__law_share : mg "_law_share" = some (.ref (He.ga K "_law_share")) := He.glo_ok X G (cd.fact 4 (f := .glo "_law_share") rfl)
  have g__law_whole_number : mg "_law_whole_number" = some (.ref (He.ga K "_law_whole_number")) := He.glo_ok X G (cd.fact 5 (f := .glo "_law_whole_number") rfl)
  have g__law_is_share : mg "_law_is_share" = some (.ref (He.ga K "_law_is_share")) := He.glo_ok X G (cd.fact 6 (f := .glo "_law_is_share") rfl)
  have g__law_refused : mg "_law_refused" = some (.ref (He.ga K "_law_refused")) := He.glo_ok X G (cd.fact 7 (f := .glo "_law_refused") rfl)
  have g__law_four_right : mg "_law_four_right" = some (.ref (He.ga K "_law_four_right")) := He.glo_ok X G (cd.fact 8 (f := .glo "_law_four_right") rfl)
  have g__law_equal_right : mg "_law_equal_right" = some (.ref (He.ga K "_law_equal_right")) := He.glo_ok X G (cd.fact 9 (f := .glo "_law_equal_right") rfl)
  have g_law : mg "law" = some (.ref (He.ga K "law")) := He.glo_ok X G (cd.fact 10 (f := .glo "law") rfl)
  have g_NoCustom : mg "NoCustom" = some (.ref (He.ga K "NoCustom")) := He.glo_ok X G (cd.fact 11 (f := .glo "NoCustom") rfl)
  have g_NoMeeting : mg "NoMeeting" = some (.ref (He.ga K "NoMeeting")) := He.glo_ok X G (cd.fact 12 (f := .glo "NoMeeting") rfl)
  have g_TooMany : mg "TooMany" = some (.ref (He.ga K "TooMany")) := He.glo_ok X G (cd.fact 13 (f := .glo "TooMany") rfl)
  have g_NoShare : mg "NoShare" = some (.ref (He.ga K "NoShare")) := He.glo_ok X G (cd.fact 14 (f := .glo "NoShare") rfl)
  have g_NoText : mg "NoText" = some (.ref (He.ga K "NoText")) := He.glo_ok X G (cd.fact 15 (f := .glo "NoText") rfl)
  have g_NoGate : mg "NoGate" = some (.ref (He.ga K "NoGate")) := He.glo_ok X G (cd.fact 16 (f := .glo "NoGate") rfl)
  have g_NoMark : mg "NoMark" = some (.ref (He.ga K "NoMark")) := He.glo_ok X G (cd.fact 17 (f := .glo "NoMark") rfl)
  have g_NoSay : mg "NoSay" = some (.ref (He.ga K "NoSay")) := He.glo_ok X G (cd.fact 18 (f := .glo "NoSay") rfl)
  have g_NoTurn : mg "NoTurn" = some (.ref (He.ga K "NoTurn")) := He.glo_ok X G (cd.fact 19 (f := .glo "NoTurn") rfl)
  have g_NoStand : mg "NoStand" = some (.ref (He.ga K "NoStand")) := He.glo_ok X G (cd.fact 20 (f := .glo "NoStand") rfl)
  have g_NoBody : mg "NoBody" = some (.ref (He.ga K "NoBody")) := He.glo_ok X G (cd.fact 21 (f := .glo "NoBody") rfl)
  have g_NoRow : mg "NoRow" = some (.ref (He.ga K "NoRow")) := He.glo_ok X G (cd.fact 22 (f := .glo "NoRow") rfl)
  have g_Share : mg "Share" = some (.ref (He.ga K "Share")) := He.glo_ok X G (cd.fact 23 (f := .glo "Share") rfl)
  have n_ZeroDivisionError : mg "ZeroDivisionError" = none := He.free_ok X G (cd.fact 24 (f := .free "ZeroDivisionError") rfl)
  have n_abs : mg "abs" = none := He.free_ok X G (cd.fact 25 (f := .free "abs") rfl)
  have n_int : mg "int" = none := He.free_ok X G (cd.fact 26 (f := .free "int") rfl)
  have n_isinstance : mg "isinstance" = none := He.free_ok X G (cd.fact 27 (f := .free "isinstance") rfl)
  have n_len : mg "len" = none := He.free_ok X G (cd.fact 28 (f := .free "len") rfl)
  have n_max : mg "max" = none := He.free_ok X G (cd.fact 29 (f := .free "max") rfl)
  have n_min : mg "min" = none := He.free_ok X G (cd.fact 30 (f := .free "min") rfl)
  have n_range : mg "range" = none := He.free_ok X G (cd.fact 31 (f := .free "range") rfl)
  have n_repr : mg "repr" = none := He.free_ok X G (cd.fact 32 (f := .free "repr") rfl)
  have n_str : mg "str" = none := He.free_ok X G (cd.fact 33 (f := .free "str") rfl)
  have n_ValueError : mg "ValueError" = none := He.free_ok X G (cd.fact 34 (f := .free "ValueError") rfl)
  have n_IndexError : mg "IndexError" = none := He.free_ok X G (cd.fact 35 (f := .free "IndexError") rfl)
  have n_OverflowError : mg "OverflowError" = none := He.free_ok X G (cd.fact 36 (f := .free "OverflowError") rfl)
  have K_Share := He.cls_ok (cd.fact 37 (f := .cls "Share") rfl)
  have M_Share := He.mkr_ok (cd.fact 38 (f := .mkr "Share") rfl)
  have M_Share___eq__ := He.meth_ok (cd.fact 41 (f := .meth "Share" "__eq__") rfl)
  have M_Share___str__ := He.meth_ok (cd.fact 42 (f := .meth "Share" "__str__") rfl)
  have M_Share___repr__ := He.meth_ok (cd.fact 43 (f := .meth "Share" "__repr__") rfl)
  have M_Share_plus := He.meth_ok (cd.fact 44 (f := .meth "Share" "plus") rfl)
  have M_Share_less := He.meth_ok (cd.fact 45 (f := .meth "Share" "less") rfl)
  have M_Share_times := He.meth_ok (cd.fact 46 (f := .meth "Share" "times") rfl)
  have M_Share_by := He.meth_ok (cd.fact 47 (f := .meth "Share" "by") rfl)
  have mo : ex K = true := c.more
  unfold ex at mo
  obtain ⟨mo, mb⟩ := (Bool.and_eq_true _ _ ▸ mo : exA K = true ∧ (exL K).all id = true)
  unfold exA at mo
  have O_Share := clsxB_ok (fxb mb 0 rfl)
  have b_gcd : mg "gcd" = some (.builtin "math.gcd") := PySem.W.mg_of X G (of_decide_eq_true (fxb mb 24 rfl))
  have T : Tx K mg := { b_gcd := b_gcd, n_ZeroDivisionError := n_ZeroDivisionError, n_abs := n_abs, n_int := n_int, n_isinstance := n_isinstance, n_len := n_len, n_max := n_max, n_min := n_min, n_range := n_range, n_repr := n_repr, n_str := n_str }
  have x0 := mo
  have X_NoShare := xclsB_ok x0
  have e0 : f0 = He.ga K "law" := by
    have e := hfa.symm.trans g_law
    exact Value.ref.inj (Option.some.inj e)
  subst e0
  refine ⟨fd_law, fun s v => FunD.bindsA (ps := ["script"]) F_law (fun _ _ _ _ _ _ us hl => match us, hl with | [_], _ => rfl) s [v] rfl, fun base => ?_⟩
  have D_NoShare : Dx P w K mg base 1 "NoShare" (He.ga K "NoShare") "top" := mkDx (own_zero X_NoShare) X_NoShare (ini_noshare F_x_noshare n_ZeroDivisionError X_NoShare) (F_x_noshare.bindsN (fun _ _ _ _ _ _ us hl => match us, hl with | [_, _], _ => rfl)) g_NoShare
  have G_l_cell_at := (ex_l_cell_at K ).2 (P := P) (w := w) (base := base) F_l_cell_at T 
  have D__law_cell_at_2 := mkDk (x := "_law_cell_at") (n := 2) G_l_cell_at g__law_cell_at F_l_cell_at.kp (F_l_cell_at.bindsN (fun _ _ _ _ _ _ us hl => match us, hl with | [_, _], _ => rfl)) rfl
  have G_l_tape := (ex_l_tape K (g__law_cell_at := m_l_cell_at K) (p_D__law_cell_at_2 := gPos)).2 (P := P) (w := w) (base := base) F_l_tape T D__law_cell_at_2
  have D__law_tape_2 := mkDk (x := "_law_tape") (n := 2) G_l_tape g__law_tape F_l_tape.kp (F_l_tape.bindsN (fun _ _ _ _ _ _ us hl => match us, hl with | [_, _], _ => rfl)) rfl
  have G_l_digit := (ex_l_digit K ).2 (P := P) (w := w) (base := base) F_l_digit T 
  have D__law_digit_2 := mkDk (x := "_law_digit") (n := 2) G_l_digit g__law_digit F_l_digit.kp (F_l_digit.bindsN (fun _ _ _ _ _ _ us hl => match us, hl with | [_, _], _ => rfl)) rfl
  have G_l_common := (ex_l_common K ).2 (P := P) (w := w) (base := base) F_l_common T 
  have D__law_common_1 := mkDk (x := "_law_common") (n := 1) G_l_common g__law_common F_l_common.kp (F_l_common.bindsN (fun _ _ _ _ _ _ us hl => match us, hl with | [_], _ => rfl)) rfl
  have G_l_share := (ex_l_share K (g__law_common := m_l_common K) (p_D__law_common_1 := gPos)).2 (P := P) (w := w) (base := base) F_l_share T D__law_common_1
  have D__law_share_2 := mkDk (x := "_law_share") (n := 2) G_l_share g__law_share F_l_share.kp (F_l_share.bindsN (fun _ _ _ _ _ _ us hl => match us, hl with | [_, _], _ => rfl)) rfl
  have G_l_whole_number := (ex_l_whole_number K (g__law_digit := m_l_digit K) (p_D__law_digit_2 := gPos)).2 (P := P) (w := w) (base := base) F_l_whole_number T D__law_digit_2
  have D__law_whole_number_1 := mkDk (x := "_law_whole_number") (n := 1) G_l_whole_number g__law_whole_number F_l_whole_number.kp (F_l_whole_number.bindsN (fun _ _ _ _ _ _ us hl => match us, hl with | [_], _ => rfl)) rfl
  have G_share___init := (ex_share___init K (C_NoShare := He.ga K "NoShare")).2 (P := P) (w := w) (base := base) F_share___init T D_NoShare
  obtain ⟨mv_share___init_1, kb_share___init_1⟩ := F_share___init.kbindsD (ps := ["self", "top", "bottom"]) 2 [] (fun us its ws => us ++ (ws ++ its)) (List.cons_ne_nil _ _) (fun r1 r2 r3 => r1.append (r3.append r2)) (fun T kV doc pm an cdv ct us its ws l1 l2 l3 => match us, its, ws, l1, l2, l3 with | [_, _], [_], [], _, _, _ => ⟨_, rfl, rfl⟩)
  have D_Share_1 := mkDmK (x := "Share") (n := 1) M_Share G_share___init g_Share kb_share___init_1 (fun H => RDs.cons RD.int (RDs.nil))
  obtain ⟨mv_share___init_2, kb_share___init_2⟩ := F_share___init.kbindsD (ps := ["self", "top", "bottom"]) 3 [] (fun us its ws => us ++ (ws ++ [])) (List.cons_ne_nil _ _) (fun r1 r2 r3 => r1.append (r3.append .nil)) (fun T kV doc pm an cdv ct us its ws l1 l2 l3 => match us, its, ws, l1, l2, l3 with | [_, _, _], [_], [], _, _, _ => ⟨_, rfl, rfl⟩)
  have D_Share_2 := mkDmK (x := "Share") (n := 2) M_Share G_share___init g_Share kb_share___init_2 (fun H => RDs.nil)
  have G_share___eq := (ex_share___eq K (C_Share := He.ga K "Share")).2 (P := P) (w := w) (base := base) F_share___eq T g_Share
  have D_Share_eq_1 := mkDq (m := "__eq__") (n := 1) K_Share M_Share___eq__ G_share___eq (F_share___eq.bindsN (fun _ _ _ _ _ _ us hl => match us, hl with | [_, _], _ => rfl)) rfl
  have G_share___str := (ex_share___str K ).2 (P := P) (w := w) (base := base) F_share___str T 
  have D_Share_str_0 := mkDq (m := "__str__") (n := 0) K_Share M_Share___str__ G_share___str (F_share___str.bindsN (fun _ _ _ _ _ _ us hl => match us, hl with | [_], _ => rfl)) rfl
  have G_share___repr := (ex_share___repr K ).2 (P := P) (w := w) (base := base) F_share___repr T 
  have D_Share_repr_0 := mkDq (m := "__repr__") (n := 0) K_Share M_Share___repr__ G_share___repr (F_share___repr.bindsN (fun _ _ _ _ _ _ us hl => match us, hl with | [_], _ => rfl)) rfl
  have G_share_plus := (ex_share_plus K (g_Share := m_share___init K) (p_D_Share_2 := gKw []) (C_Share := He.ga K "Share")).2 (P := P) (w := w) (base := base) F_share_plus T D_Share_2
  have D_Share_plus_1 := mkDq (m := "plus") (n := 1) K_Share M_Share_plus G_share_plus (F_share_plus.bindsN (fun _ _ _ _ _ _ us hl => match us, hl with | [_, _], _ => rfl)) rfl
  have G_share_less := (ex_share_less K (g_Share := m_share___init K) (p_D_Share_2 := gKw []) (C_Share := He.ga K "Share")).2 (P := P) (w := w) (base := base) F_share_less T D_Share_2
  have D_Share_less_1 := mkDq (m := "less") (n := 1) K_Share M_Share_less G_share_less (F_share_less.bindsN (fun _ _ _ _ _ _ us hl => match us, hl with | [_, _], _ => rfl)) rfl
  have G_share_times := (ex_share_times K (g_Share := m_share___init K) (p_D_Share_2 := gKw []) (C_Share := He.ga K "Share")).2 (P := P) (w := w) (base := base) F_share_times T D_Share_2
  have D_Share_times_1 := mkDq (m := "times") (n := 1) K_Share M_Share_times G_share_times (F_share_times.bindsN (fun _ _ _ _ _ _ us hl => match us, hl with | [_, _], _ => rfl)) rfl
  have G_share_by := (ex_share_by K (C_NoShare := He.ga K "NoShare") (g_Share := m_share___init K) (p_D_Share_2 := gKw []) (C_Share := He.ga K "Share")).2 (P := P) (w := w) (base := base) F_share_by T D_NoShare D_Share_2
  have D_Share_by_1 := mkDq (m := "by") (n := 1) K_Share M_Share_by G_share_by (F_share_by.bindsN (fun _ _ _ _ _ _ us hl => match us, hl with | [_, _], _ => rfl)) rfl
  have G_l_is_share := (ex_l_is_share K (C_Share := He.ga K "Share") (g_share___repr := m_share___repr K) (g_share___str := m_share___str K)).2 (P := P) (w := w) (base := base) F_l_is_share T g_Share D_Share_repr_0 D_Share_str_0
  have D__law_is_share_2 := mkDk (x := "_law_is_share") (n := 2) G_l_is_share g__law_is_share F_l_is_share.kp (F_l_is_share.bindsN (fun _ _ _ _ _ _ us hl => match us, hl with | [_, _], _ => rfl)) rfl
  have G_l_refused := (ex_l_refused K (C_Share := He.ga K "Share") (g_share_by := m_share_by K) (g_Share := m_share___init K) (p_D_Share_2 := gKw []) (C_NoShare := He.ga K "NoShare") (C_NoStand := He.ga K "NoStand") (C_NoSay := He.ga K "NoSay") (C_NoRow := He.ga K "NoRow") (C_NoMeeting := He.ga K "NoMeeting") (C_NoMark := He.ga K "NoMark") (C_NoGate := He.ga K "NoGate") (C_NoCustom := He.ga K "NoCustom") (C_NoBody := He.ga K "NoBody") (C_TooMany := He.ga K "TooMany") (C_NoTurn := He.ga K "NoTurn") (C_NoText := He.ga K "NoText")).2 (P := P) (w := w) (base := base) F_l_refused T D_Share_by_1 D_Share_2 g_NoShare g_NoStand g_NoSay g_NoRow g_NoMeeting g_NoMark g_NoGate g_NoCustom g_NoBody g_TooMany g_NoTurn g_NoText
  have D__law_refused_3 := mkDk (x := "_law_refused") (n := 3) G_l_refused g__law_refused F_l_refused.kp (F_l_refused.bindsN (fun _ _ _ _ _ _ us hl => match us, hl with | [_, _, _], _ => rfl)) rfl
  have G_l_four_right := (ex_l_four_right K (g__law_is_share := m_l_is_share K) (p_D__law_is_share_2 := gPos) (g__law_share := m_l_share K) (p_D__law_share_2 := gPos) (C_Share := He.ga K "Share") (g_share_plus := m_share_plus K) (g_share_less := m_share_less K) (g_share_times := m_share_times K) (g__law_refused := m_l_refused K) (p_D__law_refused_3 := gPos) (g_share_by := m_share_by K)).2 (P := P) (w := w) (base := base) F_l_four_right T D__law_is_share_2 D__law_share_2 D_Share_plus_1 D_Share_less_1 D_Share_times_1 D__law_refused_3 D_Share_by_1
  have D__law_four_right_4 := mkDk (x := "_law_four_right") (n := 4) G_l_four_right g__law_four_right F_l_four_right.kp (F_l_four_right.bindsN (fun _ _ _ _ _ _ us hl => match us, hl with | [_, _, _, _], _ => rfl)) rfl
  have G_l_equal_right := (ex_l_equal_right K (C_Share := He.ga K "Share") (g_share___eq := m_share___eq K) (g_Share := m_share___init K) (p_D_Share_2 := gKw []) (g_share___str := m_share___str K)).2 (P := P) (w := w) (base := base) F_l_equal_right T D_Share_eq_1 O_Share.ne D_Share_2 O_Share.si D_Share_str_0
  have D__law_equal_right_4 := mkDk (x := "_law_equal_right") (n := 4) G_l_equal_right g__law_equal_right F_l_equal_right.kp (F_l_equal_right.bindsN (fun _ _ _ _ _ _ us hl => match us, hl with | [_, _, _, _], _ => rfl)) rfl
  have G_law := (ex_law K (g__law_tape := m_l_tape K) (p_D__law_tape_2 := gPos) (g__law_whole_number := m_l_whole_number K) (p_D__law_whole_number_1 := gPos) (g_Share := m_share___init K) (p_D_Share_2 := gKw []) (C_Share := He.ga K "Share") (g__law_share := m_l_share K) (p_D__law_share_2 := gPos) (g__law_is_share := m_l_is_share K) (p_D__law_is_share_2 := gPos) (p_D_Share_1 := gKw [.int 1]) (g__law_four_right := m_l_four_right K) (p_D__law_four_right_4 := gPos) (g__law_equal_right := m_l_equal_right K) (p_D__law_equal_right_4 := gPos) (g__law_refused := m_l_refused K) (p_D__law_refused_3 := gPos)).2 (P := P) (w := w) (base := base) F_law T D__law_tape_2 D__law_whole_number_1 D_Share_2 D__law_share_2 D__law_is_share_2 D_Share_1 D__law_four_right_4 D__law_equal_right_4 D__law_refused_3
  exact G_law
end CROWDSAY_K30_SHARES

end
section
set_option Elab.async false
set_option linter.all false
set_option maxRecDepth 100000
set_option maxHeartbeats 0
namespace CROWDSAY_K30_SHARES
open PySem PySem.Spec PyProof.Rows L2 DL
/-- what is left: the mirror says True of every script -/
def Left : Prop := ∀ (K : Fg) (w : World) (h : Heap), K.In h → He.SaysX fa fn [] [] ex w h K → ∀ ns : List Int, ns.length ≤ 63 → ∃ as', m_law K [.val (.rol (ns.map Dt.int))] = some (.ok (.val (.bl true)), as')
end CROWDSAY_K30_SHARES
open PySem PySem.W PySem.Calls PyProof.Rows
theorem k30_holds (left : CROWDSAY_K30_SHARES.Left) : PySem.Challenge.rw_crowdsay_k30_shares.Holds := by
  w_on; o_law
  refine HandSHeadRun.head_imp (r := OpenLaw.row PySem.Challenge.rw_crowdsay_k30_shares) (q := view (OpenLaw.row PySem.Challenge.rw_crowdsay_k30_shares).prog [0, 27]) (H := CROWDSAY_K30_SHARES.hk) (ob := CROWDSAY_K30_SHARES.ob) (M := 20000) (loose := CROWDSAY_K30_SHARES.loose)
    (d := HandSHeadRun.topDef (OpenLaw.row PySem.Challenge.rw_crowdsay_k30_shares).prog 27) (kwd := []) CROWDSAY_K30_SHARES.ob_eq
    CROWDSAY_K30_SHARES.run (by kernel_rfl) (by kernel_rfl) (by kernel_rfl) (by rfl) (by first | assumption | decide +kernel) (by decide +kernel) ⟨rfl, rfl, rfl, rfl, rfl, by decide +kernel⟩ ?hw ?hc
  case hw => w_witness2
  case hc =>
    refine Att.attach_call (l := PySem.Challenge.rw_crowdsay_k30_shares) (n := 63) rfl (by kernel_rfl) fun w s₀ s₁ mg mb f o pm cd doc a vs ns G Y ho hd hcd hmg hobj hints hlen hg => ?_
    obtain ⟨K, KX, c⟩ := Y
    have hmg2 : mg ("law" : PySem.Str) = some (.ref f) := by
      have e : (HandSHeadRun.topDef (OpenLaw.row PySem.Challenge.rw_crowdsay_k30_shares).prog 27).name = ("law" : PySem.Str) := by kernel_rfl
      rw [← e]
      exact hmg
    obtain ⟨fd, hb, hF⟩ := CROWDSAY_K30_SHARES.facts (P := (PySem.Challenge.rw_crowdsay_k30_shares).prog) (w := w) KX G.T.g hmg2 c
    exact DL.law_g (CX := L2.CX0) KX G.T.g G.T.b G.T.builtins G.T.nolimit hg hobj hints (Nat.le_trans hlen (by decide)) (DL.rm_caller ⟨rfl, by decide, by decide⟩) (fun base _ _ => hF base) hb
      (fun H _ hS => DL.law_prom hS (left K w _ KX c ns hlen)) (fun _ _ _ z => z)

end
section
set_option Elab.async false
set_option linter.all false
set_option maxRecDepth 100000
set_option maxHeartbeats 8000000
namespace CROWDSAY_K30_SHARES
open PySem PySem.Spec PyProof.Rows L2 DL
abbrev shA (K : Fg) : Addr := He.ga K (Str.ofString "Share")
def shNs : List Str := [Str.ofString "top", Str.ofString "bottom"]
/-- a share as data, by its two numbers -/
def shD (K : Fg) (a b : Int) : Dt := .obj (shA K) shNs [.int a, .int b]
/-- what is known of the class -/
structure KfS (K : Fg) : Prop where
  cl : Cls K (shA K)
  n1 : NoAttr K (shA K) (Str.ofString "top")
  n2 : NoAttr K (shA K) (Str.ofString "bottom")
theorem fld_top (K : Fg) (kf : KfS K) (a b : Int) : fldO K (Str.ofString "top") (shD K a b) = some (.val (.int a)) := by
  unfold shD
  rw [fldO_obj kf.cl kf.n1]
  simp [lookD, shNs]
theorem fld_bottom (K : Fg) (kf : KfS K) (a b : Int) : fldO K (Str.ofString "bottom") (shD K a b) = some (.val (.int b)) := by
  have e : (Str.ofString "bottom" == Str.ofString "top") = false := by decide +kernel
  unfold shD
  rw [fldO_obj kf.cl kf.n2]
  simp [lookD, shNs, e]
/-- a share's numbers are of at most some hundred figures -/
def Fig (a : Int) : Prop := a.natAbs.log2 < 1800
theorem emp_app (x : Str) : Str.empty ++ x = x := by
  obtain ⟨c⟩ := x
  show Str.mk (#[] ++ c) = _
  rw [Array.empty_append]
/-- a whole number's text -/
theorem num_txt {a : Int} (h : Fig a) : ∃ t : Str, fmtT (.int a) = some t ∧ gStrI [.int a] = some (.val (.str t)) ∧ t.length ≤ 2000 ∧ PyData.strOk t = true := by
  have h1 : a.natAbs.log2 < 1920 := Nat.lt_trans h (by decide)
  have s := (Shw1.int h1).l
  refine ⟨_, fmtT_int h1, ?_, Nat.le_trans s (by decide), (Shw1.int h1).o⟩
  show (if a.natAbs.log2 < 1920 then some (Sl.val (.str (Str.ofString (toString a)))) else none) = _
  rw [if_pos h1]
def shTxt (ta tb : Str) : Str := (((Str.ofString "Share(" ++ ta) ++ Str.ofString ", ") ++ tb) ++ Str.ofString ")"
theorem r_repr (K : Fg) (kf : KfS K) (a b : Int) (ta tb : Str) (ha : fmtT (.int a) = some ta) (hb : fmtT (.int b) = some tb) (la : ta.length ≤ 2000) (lb : tb.length ≤ 2000) (Q : Po Sl) : Run (m_share___repr K) [.val (shD K a b)] Q = Q (.ok (.val (.str (shTxt ta tb)))) [.val (shD K a b)] := by
  have l1 : (Str.ofString "Share(").length = 6 := by decide +kernel
  have l2 : (Str.ofString ", ").length = 2 := by decide +kernel
  have l3 : (Str.ofString ")").length = 1 := by decide +kernel
  have z1 : 6 + ta.length < 1000000 := by omega
  have z2 : 6 + ta.length + 2 < 1000000 := by omega
  have z3 : 6 + ta.length + 2 + tb.length < 1000000 := by omega
  have z4 : 6 + ta.length + 2 + tb.length + 1 < 1000000 := by omega
  refine Run.same ?_ Q
  simp only [m_share___repr, ex_share___repr]
  simp (maxSteps := 4000000) (maxDischargeDepth := 6) [↓run_fMtV, ↓run_fMtVP, ↓run_fKeep, ↓keepK_ok, ↓run_fFmt, ↓run_fFmtD, ↓run_fJoin, ↓run_fJCons, ↓jK_ok, ↓jK_ex, ↓run_fPar, ↓parK_ok, ↓wstepK_nx, ↓wK_true, ↓wK_false, ↓run_fOrU, ↓run_fAndU, ↓run_fNotU, ↓run_fTru, ↓run_orU, ↓run_andU, ↓orK_some, ↓andK_some, ↓run_mP, ↓run_none, ↓run_mB, ↓run_mO, ↓run_vl, ↓run_mU, ↓run_fVar, ↓run_fOp, ↓run_fUn, ↓run_fCons, ↓run_fCB, ↓run_fTup, ↓run_fLst, ↓run_fB, ↓run_fIf, ↓run_fAndT, ↓run_fOrT, ↓run_fNotT, ↓run_fAndV, ↓run_fOrV, ↓run_fNotV, ↓run_fIsN, ↓run_fNotN, ↓run_fChain, ↓run_fSeq, ↓run_fDrop, ↓run_fRet, ↓run_fRetV, ↓run_fSet, ↓run_fAsg, ↓run_fRg, ↓run_fISU, ↓run_fFor, ↓run_fLc, ↓run_fIxV, ↓run_fLenV, ↓run_fReprV, ↓run_fApp, ↓run_gSetL, ↓run_fBVar, ↓run_fBCons, ↓run_callD, ↓run_fCk, ↓run_fCkP, ↓run_mDef, ↓run_fPart, ↓run_fSl, ↓run_fRevL, ↓run_fLM, ↓run_fM1, ↓run_fDGet, ↓run_fDIn, ↓run_fLenSet, ↓run_fFldU, ↓run_fAugL, ↓run_fMk, ↓run_fSFld, ↓run_fXm, ↓run_fRs, ↓run_fXval, ↓run_fGive, ↓run_fDc, ↓run_fLc2, ↓bindK_ok, ↓bindK_ex, ↓optQ_some, ↓optQ_none, ↓upQ_some, ↓upQ_none, ↓vlQ_val, ↓vlQ_own, ↓vlQ_un, ↓vlQ_ex, ↓varQ_val, ↓varQ_own, ↓retQ_val, ↓retQ_own, ↓tupK_ok, ↓tupK_ex, ↓lstK_ok, ↓lstK_ex, ↓ifK_ok, ↓ifK_ex, ↓seqK_nx, ↓seqK_bk, ↓seqK_ct, ↓seqK_rt, ↓seqK_ex, ↓ixK_ok, ↓ixK_ex, ↓lenQ_int, ↓appQ_own, ↓appK_ok, ↓appK_ex, ↓setP_some, ↓setQ_own, ↓setK_ok, ↓barQ_val, ↓barQ_own, ↓ckK2_ok, ↓ckK2_ex, ↓ckK_ok, ↓ckK_ex, ↓ckPK2_ok, ↓ckPK2_ex, ↓ckPK_ok, ↓ckPK_ex, ↓okQ_ok, ↓okQ_ex, ↓backK_eq, ↓dfQ_nx, ↓dfQ_rt, ↓dfQ_ex, ↓forK_ok, ↓forK_ex, ↓fturnK_bk, ↓fturnK_rt, ↓fturnK_nx, ↓fturnK_ct, ↓fturnK_ex, ↓lcK_ok, ↓lcK_ex, ↓lturnK_ok, ↓ltestK_ok, ↓lkeepK_ok, ↓lkeepK_ex, ↓lstepK_ok, ↓lstepK_ex, ↓fstepK_nx, ↓fstepK_ct, ↓fstepK_bk, ↓fstepK_rt, ↓fstepK_ex, ↓bQ_t, ↓bQ_true, ↓bQ_false, ↓ifQ_t, ↓ifQ_f, ↓ifQ_true, ↓ifQ_false, ↓put_eq, ↓revM_l, ↓lmM_l, ↓m1M_s, ↓augK_ok, ↓augQ1_int, ↓augQ2_ok, ↓madeK_ok, ↓madeK_ex, ↓mkK_ok, ↓mkK2_ok, ↓sfQ_some, ↓sfK_ok, ↓xmK_ok, ↓rsK_ok, ↓xvK_ok, ↓giveK_ok, ↓dcK_ok, ↓dvalK_ok, ↓dkeyK_ok, ↓dstepK_ok, ↓lc2K_ok, ↓innK_ok, ↓inn1K_ok, ↓inn2K_ok, gEq_int, gNe_int, gPow_ii, atI_lit, atI_at, ixN_lit, ixN_at, gAdd_ii, gAdd_ss, gAdd_ll, gAdd_tt, gMinus_ii, gMul_ii, okMul_l, okMul_r, gMul_li, gMod_ii, gDiv_ii, gLt_ii, gLt_ss, gLe_ii, gLe_ss, gGt_ii, gGe_ii, gIxS_own, gIxS_val, gIx_l, gIx_r, gIx_t, gIx_s, seqOf_l, seqOf_r, seqOf_t, seqU_l, seqU_r, seqU_t, seqU_s, gLen_l, gLen_r, gLen_t, gLen_s, unOk_val, unOk_own, unOk_none, toB_bl, slB_bl, isOL_own, isOw_own, isSeen_own, isSeen_val, dt_lst, rg1_int, rg2_int, inRg_of, isNonD, DL.seen, norm, norms, pinL, backsD, backs, lent, arSl, gPos, small, wipeR, gMul2_ii, gMul2_s, gNeg_int, toI_int, en2_l, en2_t, gSl_l, gSl_t, gTupleOf_l, gTupleOf_t, gListOf_l, gListOf_t, zp1_ll, zp1_tt, gT, gC, gN, notIn, gKw, Ar.up, -List.map_map, gDivA_ii, truD_bl, truD_non, truD_int, truD_lst, truD_rol, truD_tup, truD_dct, gS, fld_top K kf, fld_bottom K kf, ha, hb, emp_app, len_app, l1, l2, l3, z1, z2, z3, z4]
  rfl
theorem r_str (K : Fg) (kf : KfS K) (a b : Int) (ta tb : Str) (ha : fmtT (.int a) = some ta) (hb : fmtT (.int b) = some tb) (la : ta.length ≤ 2000) (lb : tb.length ≤ 2000) (Q : Po Sl) : Run (m_share___str K) [.val (shD K a b)] Q = Q (.ok (.val (.str (if b = 1 then ta else ((ta ++ Str.ofString "/") ++ tb))))) [.val (shD K a b)] := by
  have l2 : (Str.ofString "/").length = 1 := by decide +kernel
  have z1 : ta.length < 1000000 := by omega
  have z2 : ta.length + 1 < 1000000 := by omega
  have z3 : ta.length + 1 + tb.length < 1000000 := by omega
  refine Run.same ?_ Q
  simp only [m_share___str, ex_share___str]
  by_cases h : b = 1
  · simp (maxSteps := 4000000) (maxDischargeDepth := 6) [↓run_fMtV, ↓run_fMtVP, ↓run_fKeep, ↓keepK_ok, ↓run_fFmt, ↓run_fFmtD, ↓run_fJoin, ↓run_fJCons, ↓jK_ok, ↓jK_ex, ↓run_fPar, ↓parK_ok, ↓wstepK_nx, ↓wK_true, ↓wK_false, ↓run_fOrU, ↓run_fAndU, ↓run_fNotU, ↓run_fTru, ↓run_orU, ↓run_andU, ↓orK_some, ↓andK_some, ↓run_mP, ↓run_none, ↓run_mB, ↓run_mO, ↓run_vl, ↓run_mU, ↓run_fVar, ↓run_fOp, ↓run_fUn, ↓run_fCons, ↓run_fCB, ↓run_fTup, ↓run_fLst, ↓run_fB, ↓run_fIf, ↓run_fAndT, ↓run_fOrT, ↓run_fNotT, ↓run_fAndV, ↓run_fOrV, ↓run_fNotV, ↓run_fIsN, ↓run_fNotN, ↓run_fChain, ↓run_fSeq, ↓run_fDrop, ↓run_fRet, ↓run_fRetV, ↓run_fSet, ↓run_fAsg, ↓run_fRg, ↓run_fISU, ↓run_fFor, ↓run_fLc, ↓run_fIxV, ↓run_fLenV, ↓run_fReprV, ↓run_fApp, ↓run_gSetL, ↓run_fBVar, ↓run_fBCons, ↓run_callD, ↓run_fCk, ↓run_fCkP, ↓run_mDef, ↓run_fPart, ↓run_fSl, ↓run_fRevL, ↓run_fLM, ↓run_fM1, ↓run_fDGet, ↓run_fDIn, ↓run_fLenSet, ↓run_fFldU, ↓run_fAugL, ↓run_fMk, ↓run_fSFld, ↓run_fXm, ↓run_fRs, ↓run_fXval, ↓run_fGive, ↓run_fDc, ↓run_fLc2, ↓bindK_ok, ↓bindK_ex, ↓optQ_some, ↓optQ_none, ↓upQ_some, ↓upQ_none, ↓vlQ_val, ↓vlQ_own, ↓vlQ_un, ↓vlQ_ex, ↓varQ_val, ↓varQ_own, ↓retQ_val, ↓retQ_own, ↓tupK_ok, ↓tupK_ex, ↓lstK_ok, ↓lstK_ex, ↓ifK_ok, ↓ifK_ex, ↓seqK_nx, ↓seqK_bk, ↓seqK_ct, ↓seqK_rt, ↓seqK_ex, ↓ixK_ok, ↓ixK_ex, ↓lenQ_int, ↓appQ_own, ↓appK_ok, ↓appK_ex, ↓setP_some, ↓setQ_own, ↓setK_ok, ↓barQ_val, ↓barQ_own, ↓ckK2_ok, ↓ckK2_ex, ↓ckK_ok, ↓ckK_ex, ↓ckPK2_ok, ↓ckPK2_ex, ↓ckPK_ok, ↓ckPK_ex, ↓okQ_ok, ↓okQ_ex, ↓backK_eq, ↓dfQ_nx, ↓dfQ_rt, ↓dfQ_ex, ↓forK_ok, ↓forK_ex, ↓fturnK_bk, ↓fturnK_rt, ↓fturnK_nx, ↓fturnK_ct, ↓fturnK_ex, ↓lcK_ok, ↓lcK_ex, ↓lturnK_ok, ↓ltestK_ok, ↓lkeepK_ok, ↓lkeepK_ex, ↓lstepK_ok, ↓lstepK_ex, ↓fstepK_nx, ↓fstepK_ct, ↓fstepK_bk, ↓fstepK_rt, ↓fstepK_ex, ↓bQ_t, ↓bQ_true, ↓bQ_false, ↓ifQ_t, ↓ifQ_f, ↓ifQ_true, ↓ifQ_false, ↓put_eq, ↓revM_l, ↓lmM_l, ↓m1M_s, ↓augK_ok, ↓augQ1_int, ↓augQ2_ok, ↓madeK_ok, ↓madeK_ex, ↓mkK_ok, ↓mkK2_ok, ↓sfQ_some, ↓sfK_ok, ↓xmK_ok, ↓rsK_ok, ↓xvK_ok, ↓giveK_ok, ↓dcK_ok, ↓dvalK_ok, ↓dkeyK_ok, ↓dstepK_ok, ↓lc2K_ok, ↓innK_ok, ↓inn1K_ok, ↓inn2K_ok, gEq_int, gNe_int, gPow_ii, atI_lit, atI_at, ixN_lit, ixN_at, gAdd_ii, gAdd_ss, gAdd_ll, gAdd_tt, gMinus_ii, gMul_ii, okMul_l, okMul_r, gMul_li, gMod_ii, gDiv_ii, gLt_ii, gLt_ss, gLe_ii, gLe_ss, gGt_ii, gGe_ii, gIxS_own, gIxS_val, gIx_l, gIx_r, gIx_t, gIx_s, seqOf_l, seqOf_r, seqOf_t, seqU_l, seqU_r, seqU_t, seqU_s, gLen_l, gLen_r, gLen_t, gLen_s, unOk_val, unOk_own, unOk_none, toB_bl, slB_bl, isOL_own, isOw_own, isSeen_own, isSeen_val, dt_lst, rg1_int, rg2_int, inRg_of, isNonD, DL.seen, norm, norms, pinL, backsD, backs, lent, arSl, gPos, small, wipeR, gMul2_ii, gMul2_s, gNeg_int, toI_int, en2_l, en2_t, gSl_l, gSl_t, gTupleOf_l, gTupleOf_t, gListOf_l, gListOf_t, zp1_ll, zp1_tt, gT, gC, gN, notIn, gKw, Ar.up, -List.map_map, gDivA_ii, truD_bl, truD_non, truD_int, truD_lst, truD_rol, truD_tup, truD_dct, gS, fld_top K kf, fld_bottom K kf, ha, hb, emp_app, len_app, h, l2, z1, z2, z3]
  · simp (maxSteps := 4000000) (maxDischargeDepth := 6) [↓run_fMtV, ↓run_fMtVP, ↓run_fKeep, ↓keepK_ok, ↓run_fFmt, ↓run_fFmtD, ↓run_fJoin, ↓run_fJCons, ↓jK_ok, ↓jK_ex, ↓run_fPar, ↓parK_ok, ↓wstepK_nx, ↓wK_true, ↓wK_false, ↓run_fOrU, ↓run_fAndU, ↓run_fNotU, ↓run_fTru, ↓run_orU, ↓run_andU, ↓orK_some, ↓andK_some, ↓run_mP, ↓run_none, ↓run_mB, ↓run_mO, ↓run_vl, ↓run_mU, ↓run_fVar, ↓run_fOp, ↓run_fUn, ↓run_fCons, ↓run_fCB, ↓run_fTup, ↓run_fLst, ↓run_fB, ↓run_fIf, ↓run_fAndT, ↓run_fOrT, ↓run_fNotT, ↓run_fAndV, ↓run_fOrV, ↓run_fNotV, ↓run_fIsN, ↓run_fNotN, ↓run_fChain, ↓run_fSeq, ↓run_fDrop, ↓run_fRet, ↓run_fRetV, ↓run_fSet, ↓run_fAsg, ↓run_fRg, ↓run_fISU, ↓run_fFor, ↓run_fLc, ↓run_fIxV, ↓run_fLenV, ↓run_fReprV, ↓run_fApp, ↓run_gSetL, ↓run_fBVar, ↓run_fBCons, ↓run_callD, ↓run_fCk, ↓run_fCkP, ↓run_mDef, ↓run_fPart, ↓run_fSl, ↓run_fRevL, ↓run_fLM, ↓run_fM1, ↓run_fDGet, ↓run_fDIn, ↓run_fLenSet, ↓run_fFldU, ↓run_fAugL, ↓run_fMk, ↓run_fSFld, ↓run_fXm, ↓run_fRs, ↓run_fXval, ↓run_fGive, ↓run_fDc, ↓run_fLc2, ↓bindK_ok, ↓bindK_ex, ↓optQ_some, ↓optQ_none, ↓upQ_some, ↓upQ_none, ↓vlQ_val, ↓vlQ_own, ↓vlQ_un, ↓vlQ_ex, ↓varQ_val, ↓varQ_own, ↓retQ_val, ↓retQ_own, ↓tupK_ok, ↓tupK_ex, ↓lstK_ok, ↓lstK_ex, ↓ifK_ok, ↓ifK_ex, ↓seqK_nx, ↓seqK_bk, ↓seqK_ct, ↓seqK_rt, ↓seqK_ex, ↓ixK_ok, ↓ixK_ex, ↓lenQ_int, ↓appQ_own, ↓appK_ok, ↓appK_ex, ↓setP_some, ↓setQ_own, ↓setK_ok, ↓barQ_val, ↓barQ_own, ↓ckK2_ok, ↓ckK2_ex, ↓ckK_ok, ↓ckK_ex, ↓ckPK2_ok, ↓ckPK2_ex, ↓ckPK_ok, ↓ckPK_ex, ↓okQ_ok, ↓okQ_ex, ↓backK_eq, ↓dfQ_nx, ↓dfQ_rt, ↓dfQ_ex, ↓forK_ok, ↓forK_ex, ↓fturnK_bk, ↓fturnK_rt, ↓fturnK_nx, ↓fturnK_ct, ↓fturnK_ex, ↓lcK_ok, ↓lcK_ex, ↓lturnK_ok, ↓ltestK_ok, ↓lkeepK_ok, ↓lkeepK_ex, ↓lstepK_ok, ↓lstepK_ex, ↓fstepK_nx, ↓fstepK_ct, ↓fstepK_bk, ↓fstepK_rt, ↓fstepK_ex, ↓bQ_t, ↓bQ_true, ↓bQ_false, ↓ifQ_t, ↓ifQ_f, ↓ifQ_true, ↓ifQ_false, ↓put_eq, ↓revM_l, ↓lmM_l, ↓m1M_s, ↓augK_ok, ↓augQ1_int, ↓augQ2_ok, ↓madeK_ok, ↓madeK_ex, ↓mkK_ok, ↓mkK2_ok, ↓sfQ_some, ↓sfK_ok, ↓xmK_ok, ↓rsK_ok, ↓xvK_ok, ↓giveK_ok, ↓dcK_ok, ↓dvalK_ok, ↓dkeyK_ok, ↓dstepK_ok, ↓lc2K_ok, ↓innK_ok, ↓inn1K_ok, ↓inn2K_ok, gEq_int, gNe_int, gPow_ii, atI_lit, atI_at, ixN_lit, ixN_at, gAdd_ii, gAdd_ss, gAdd_ll, gAdd_tt, gMinus_ii, gMul_ii, okMul_l, okMul_r, gMul_li, gMod_ii, gDiv_ii, gLt_ii, gLt_ss, gLe_ii, gLe_ss, gGt_ii, gGe_ii, gIxS_own, gIxS_val, gIx_l, gIx_r, gIx_t, gIx_s, seqOf_l, seqOf_r, seqOf_t, seqU_l, seqU_r, seqU_t, seqU_s, gLen_l, gLen_r, gLen_t, gLen_s, unOk_val, unOk_own, unOk_none, toB_bl, slB_bl, isOL_own, isOw_own, isSeen_own, isSeen_val, dt_lst, rg1_int, rg2_int, inRg_of, isNonD, DL.seen, norm, norms, pinL, backsD, backs, lent, arSl, gPos, small, wipeR, gMul2_ii, gMul2_s, gNeg_int, toI_int, en2_l, en2_t, gSl_l, gSl_t, gTupleOf_l, gTupleOf_t, gListOf_l, gListOf_t, zp1_ll, zp1_tt, gT, gC, gN, notIn, gKw, Ar.up, -List.map_map, gDivA_ii, truD_bl, truD_non, truD_int, truD_lst, truD_rol, truD_tup, truD_dct, gS, fld_top K kf, fld_bottom K kf, ha, hb, emp_app, len_app, h, l2, z1, z2, z3]
/-- a share's two numbers -/
def prt (a b : Int) : Int := if b < 0 then -((Nat.gcd a.natAbs b.natAbs : Nat) : Int) else ((Nat.gcd a.natAbs b.natAbs : Nat) : Int)
def shT (a b : Int) : Int := a.fdiv (prt a b)
def shB (a b : Int) : Int := b.fdiv (prt a b)
theorem prt_ne {a b : Int} (h : b ≠ 0) : prt a b ≠ 0 := by
  have g : Nat.gcd a.natAbs b.natAbs ≠ 0 := fun z => h (Int.natAbs_eq_zero.mp (Nat.gcd_eq_zero_iff.mp z).2)
  unfold prt
  split <;> omega
theorem r_init (K : Fg) (kf : KfS K) (a b : Int) (h : b ≠ 0) (hl : (prt a b).natAbs.log2 < 9000) (Q : Po Sl) : Run (m_share___init K) [.own (.ins (shA K) [] []), .val (.int a), .val (.int b)] Q = Q (.ok (.val .non)) [.own (.ins (shA K) shNs [.int (shT a b), .int (shB a b)]), .val (.int a), .val (.int b)] := by
  have gg : gGcd [.int a, .int b] = some (.val (.int (Nat.gcd a.natAbs b.natAbs : Nat))) := rfl
  have e : (Str.ofString "top" = Str.ofString "bottom") = False := eq_false (by decide +kernel)
  have i1 : ∀ y, sfO K (Str.ofString "top") (some (.own (.ins (shA K) [] []))) y = some (.own (.ins (shA K) [Str.ofString "top"] [y])) := fun y => sfO_own kf.cl kf.n1 (by simp)
  have i2 : ∀ x y, sfO K (Str.ofString "bottom") (some (.own (.ins (shA K) [Str.ofString "top"] [x]))) y = some (.own (.ins (shA K) shNs [x, y])) := fun x y => by
    rw [sfO_own kf.cl kf.n2 (by simp)]; simp [putN, putD, e, shNs]
  have p0 := prt_ne (a := a) h
  have d1 := gDivA_ii (i := a) p0 hl
  have d2 := gDivA_ii (i := b) p0 hl
  refine Run.same ?_ Q
  simp only [m_share___init, ex_share___init]
  unfold shT shB
  by_cases hb : b < 0
  · have pe : prt a b = -((Nat.gcd a.natAbs b.natAbs : Nat) : Int) := if_pos hb
    rw [pe] at d1 d2 ⊢
    generalize Nat.gcd a.natAbs b.natAbs = g at gg d1 d2
    simp (maxSteps := 4000000) (maxDischargeDepth := 6) [↓run_fMtV, ↓run_fMtVP, ↓run_fKeep, ↓keepK_ok, ↓run_fFmt, ↓run_fFmtD, ↓run_fJoin, ↓run_fJCons, ↓jK_ok, ↓jK_ex, ↓run_fPar, ↓parK_ok, ↓wstepK_nx, ↓wK_true, ↓wK_false, ↓run_fOrU, ↓run_fAndU, ↓run_fNotU, ↓run_fTru, ↓run_orU, ↓run_andU, ↓orK_some, ↓andK_some, ↓run_mP, ↓run_none, ↓run_mB, ↓run_mO, ↓run_vl, ↓run_mU, ↓run_fVar, ↓run_fOp, ↓run_fUn, ↓run_fCons, ↓run_fCB, ↓run_fTup, ↓run_fLst, ↓run_fB, ↓run_fIf, ↓run_fAndT, ↓run_fOrT, ↓run_fNotT, ↓run_fAndV, ↓run_fOrV, ↓run_fNotV, ↓run_fIsN, ↓run_fNotN, ↓run_fChain, ↓run_fSeq, ↓run_fDrop, ↓run_fRet, ↓run_fRetV, ↓run_fSet, ↓run_fAsg, ↓run_fRg, ↓run_fISU, ↓run_fFor, ↓run_fLc, ↓run_fIxV, ↓run_fLenV, ↓run_fReprV, ↓run_fApp, ↓run_gSetL, ↓run_fBVar, ↓run_fBCons, ↓run_callD, ↓run_fCk, ↓run_fCkP, ↓run_mDef, ↓run_fPart, ↓run_fSl, ↓run_fRevL, ↓run_fLM, ↓run_fM1, ↓run_fDGet, ↓run_fDIn, ↓run_fLenSet, ↓run_fFldU, ↓run_fAugL, ↓run_fMk, ↓run_fSFld, ↓run_fXm, ↓run_fRs, ↓run_fXval, ↓run_fGive, ↓run_fDc, ↓run_fLc2, ↓bindK_ok, ↓bindK_ex, ↓optQ_some, ↓optQ_none, ↓upQ_some, ↓upQ_none, ↓vlQ_val, ↓vlQ_own, ↓vlQ_un, ↓vlQ_ex, ↓varQ_val, ↓varQ_own, ↓retQ_val, ↓retQ_own, ↓tupK_ok, ↓tupK_ex, ↓lstK_ok, ↓lstK_ex, ↓ifK_ok, ↓ifK_ex, ↓seqK_nx, ↓seqK_bk, ↓seqK_ct, ↓seqK_rt, ↓seqK_ex, ↓ixK_ok, ↓ixK_ex, ↓lenQ_int, ↓appQ_own, ↓appK_ok, ↓appK_ex, ↓setP_some, ↓setQ_own, ↓setK_ok, ↓barQ_val, ↓barQ_own, ↓ckK2_ok, ↓ckK2_ex, ↓ckK_ok, ↓ckK_ex, ↓ckPK2_ok, ↓ckPK2_ex, ↓ckPK_ok, ↓ckPK_ex, ↓okQ_ok, ↓okQ_ex, ↓backK_eq, ↓dfQ_nx, ↓dfQ_rt, ↓dfQ_ex, ↓forK_ok, ↓forK_ex, ↓fturnK_bk, ↓fturnK_rt, ↓fturnK_nx, ↓fturnK_ct, ↓fturnK_ex, ↓lcK_ok, ↓lcK_ex, ↓lturnK_ok, ↓ltestK_ok, ↓lkeepK_ok, ↓lkeepK_ex, ↓lstepK_ok, ↓lstepK_ex, ↓fstepK_nx, ↓fstepK_ct, ↓fstepK_bk, ↓fstepK_rt, ↓fstepK_ex, ↓bQ_t, ↓bQ_true, ↓bQ_false, ↓ifQ_t, ↓ifQ_f, ↓ifQ_true, ↓ifQ_false, ↓put_eq, ↓revM_l, ↓lmM_l, ↓m1M_s, ↓augK_ok, ↓augQ1_int, ↓augQ2_ok, ↓madeK_ok, ↓madeK_ex, ↓mkK_ok, ↓mkK2_ok, ↓sfQ_some, ↓sfK_ok, ↓xmK_ok, ↓rsK_ok, ↓xvK_ok, ↓giveK_ok, ↓dcK_ok, ↓dvalK_ok, ↓dkeyK_ok, ↓dstepK_ok, ↓lc2K_ok, ↓innK_ok, ↓inn1K_ok, ↓inn2K_ok, gEq_int, gNe_int, gPow_ii, atI_lit, atI_at, ixN_lit, ixN_at, gAdd_ii, gAdd_ss, gAdd_ll, gAdd_tt, gMinus_ii, gMul_ii, okMul_l, okMul_r, gMul_li, gMod_ii, gDiv_ii, gLt_ii, gLt_ss, gLe_ii, gLe_ss, gGt_ii, gGe_ii, gIxS_own, gIxS_val, gIx_l, gIx_r, gIx_t, gIx_s, seqOf_l, seqOf_r, seqOf_t, seqU_l, seqU_r, seqU_t, seqU_s, gLen_l, gLen_r, gLen_t, gLen_s, unOk_val, unOk_own, unOk_none, toB_bl, slB_bl, isOL_own, isOw_own, isSeen_own, isSeen_val, dt_lst, rg1_int, rg2_int, inRg_of, isNonD, DL.seen, norm, norms, pinL, backsD, backs, lent, arSl, gPos, small, wipeR, gMul2_ii, gMul2_s, gNeg_int, toI_int, en2_l, en2_t, gSl_l, gSl_t, gTupleOf_l, gTupleOf_t, gListOf_l, gListOf_t, zp1_ll, zp1_tt, gT, gC, gN, notIn, gKw, Ar.up, -List.map_map, gDivA_ii, truD_bl, truD_non, truD_int, truD_lst, truD_rol, truD_tup, truD_dct, gS, h, hb, gg, d1, d2, i1, i2]
  · have pe : prt a b = ((Nat.gcd a.natAbs b.natAbs : Nat) : Int) := if_neg hb
    rw [pe] at d1 d2 ⊢
    generalize Nat.gcd a.natAbs b.natAbs = g at gg d1 d2
    simp (maxSteps := 4000000) (maxDischargeDepth := 6) [↓run_fMtV, ↓run_fMtVP, ↓run_fKeep, ↓keepK_ok, ↓run_fFmt, ↓run_fFmtD, ↓run_fJoin, ↓run_fJCons, ↓jK_ok, ↓jK_ex, ↓run_fPar, ↓parK_ok, ↓wstepK_nx, ↓wK_true, ↓wK_false, ↓run_fOrU, ↓run_fAndU, ↓run_fNotU, ↓run_fTru, ↓run_orU, ↓run_andU, ↓orK_some, ↓andK_some, ↓run_mP, ↓run_none, ↓run_mB, ↓run_mO, ↓run_vl, ↓run_mU, ↓run_fVar, ↓run_fOp, ↓run_fUn, ↓run_fCons, ↓run_fCB, ↓run_fTup, ↓run_fLst, ↓run_fB, ↓run_fIf, ↓run_fAndT, ↓run_fOrT, ↓run_fNotT, ↓run_fAndV, ↓run_fOrV, ↓run_fNotV, ↓run_fIsN, ↓run_fNotN, ↓run_fChain, ↓run_fSeq, ↓run_fDrop, ↓run_fRet, ↓run_fRetV, ↓run_fSet, ↓run_fAsg, ↓run_fRg, ↓run_fISU, ↓run_fFor, ↓run_fLc, ↓run_fIxV, ↓run_fLenV, ↓run_fReprV, ↓run_fApp, ↓run_gSetL, ↓run_fBVar, ↓run_fBCons, ↓run_callD, ↓run_fCk, ↓run_fCkP, ↓run_mDef, ↓run_fPart, ↓run_fSl, ↓run_fRevL, ↓run_fLM, ↓run_fM1, ↓run_fDGet, ↓run_fDIn, ↓run_fLenSet, ↓run_fFldU, ↓run_fAugL, ↓run_fMk, ↓run_fSFld, ↓run_fXm, ↓run_fRs, ↓run_fXval, ↓run_fGive, ↓run_fDc, ↓run_fLc2, ↓bindK_ok, ↓bindK_ex, ↓optQ_some, ↓optQ_none, ↓upQ_some, ↓upQ_none, ↓vlQ_val, ↓vlQ_own, ↓vlQ_un, ↓vlQ_ex, ↓varQ_val, ↓varQ_own, ↓retQ_val, ↓retQ_own, ↓tupK_ok, ↓tupK_ex, ↓lstK_ok, ↓lstK_ex, ↓ifK_ok, ↓ifK_ex, ↓seqK_nx, ↓seqK_bk, ↓seqK_ct, ↓seqK_rt, ↓seqK_ex, ↓ixK_ok, ↓ixK_ex, ↓lenQ_int, ↓appQ_own, ↓appK_ok, ↓appK_ex, ↓setP_some, ↓setQ_own, ↓setK_ok, ↓barQ_val, ↓barQ_own, ↓ckK2_ok, ↓ckK2_ex, ↓ckK_ok, ↓ckK_ex, ↓ckPK2_ok, ↓ckPK2_ex, ↓ckPK_ok, ↓ckPK_ex, ↓okQ_ok, ↓okQ_ex, ↓backK_eq, ↓dfQ_nx, ↓dfQ_rt, ↓dfQ_ex, ↓forK_ok, ↓forK_ex, ↓fturnK_bk, ↓fturnK_rt, ↓fturnK_nx, ↓fturnK_ct, ↓fturnK_ex, ↓lcK_ok, ↓lcK_ex, ↓lturnK_ok, ↓ltestK_ok, ↓lkeepK_ok, ↓lkeepK_ex, ↓lstepK_ok, ↓lstepK_ex, ↓fstepK_nx, ↓fstepK_ct, ↓fstepK_bk, ↓fstepK_rt, ↓fstepK_ex, ↓bQ_t, ↓bQ_true, ↓bQ_false, ↓ifQ_t, ↓ifQ_f, ↓ifQ_true, ↓ifQ_false, ↓put_eq, ↓revM_l, ↓lmM_l, ↓m1M_s, ↓augK_ok, ↓augQ1_int, ↓augQ2_ok, ↓madeK_ok, ↓madeK_ex, ↓mkK_ok, ↓mkK2_ok, ↓sfQ_some, ↓sfK_ok, ↓xmK_ok, ↓rsK_ok, ↓xvK_ok, ↓giveK_ok, ↓dcK_ok, ↓dvalK_ok, ↓dkeyK_ok, ↓dstepK_ok, ↓lc2K_ok, ↓innK_ok, ↓inn1K_ok, ↓inn2K_ok, gEq_int, gNe_int, gPow_ii, atI_lit, atI_at, ixN_lit, ixN_at, gAdd_ii, gAdd_ss, gAdd_ll, gAdd_tt, gMinus_ii, gMul_ii, okMul_l, okMul_r, gMul_li, gMod_ii, gDiv_ii, gLt_ii, gLt_ss, gLe_ii, gLe_ss, gGt_ii, gGe_ii, gIxS_own, gIxS_val, gIx_l, gIx_r, gIx_t, gIx_s, seqOf_l, seqOf_r, seqOf_t, seqU_l, seqU_r, seqU_t, seqU_s, gLen_l, gLen_r, gLen_t, gLen_s, unOk_val, unOk_own, unOk_none, toB_bl, slB_bl, isOL_own, isOw_own, isSeen_own, isSeen_val, dt_lst, rg1_int, rg2_int, inRg_of, isNonD, DL.seen, norm, norms, pinL, backsD, backs, lent, arSl, gPos, small, wipeR, gMul2_ii, gMul2_s, gNeg_int, toI_int, en2_l, en2_t, gSl_l, gSl_t, gTupleOf_l, gTupleOf_t, gListOf_l, gListOf_t, zp1_ll, zp1_tt, gT, gC, gN, notIn, gKw, Ar.up, -List.map_map, gDivA_ii, truD_bl, truD_non, truD_int, truD_lst, truD_rol, truD_tup, truD_dct, gS, h, hb, gg, d1, d2, i1, i2]
theorem r_eq (K : Fg) (kf : KfS K) (ob : ObjCls K (shA K)) (a b c d : Int) (ki : PySem.W.kitOne K (.ref (shA K)) (.ref (shA K)) = some true) (Q : Po Sl) : Run (m_share___eq K) [.val (shD K a b), .val (shD K c d)] Q = Q (.ok (.val (.bl (decide (a = c) && decide (b = d))))) [.val (shD K a b), .val (shD K c d)] := by
  have io : gIsiU K [shD K c d, .ref (He.ga K (Str.ofString "Share"))] = some (.val (.bl true)) := isi_obj ob ki
  refine Run.same ?_ Q
  simp only [m_share___eq, ex_share___eq]
  by_cases h1 : a = c
  · subst h1
    simp (maxSteps := 4000000) (maxDischargeDepth := 6) [↓run_fMtV, ↓run_fMtVP, ↓run_fKeep, ↓keepK_ok, ↓run_fFmt, ↓run_fFmtD, ↓run_fJoin, ↓run_fJCons, ↓jK_ok, ↓jK_ex, ↓run_fPar, ↓parK_ok, ↓wstepK_nx, ↓wK_true, ↓wK_false, ↓run_fOrU, ↓run_fAndU, ↓run_fNotU, ↓run_fTru, ↓run_orU, ↓run_andU, ↓orK_some, ↓andK_some, ↓run_mP, ↓run_none, ↓run_mB, ↓run_mO, ↓run_vl, ↓run_mU, ↓run_fVar, ↓run_fOp, ↓run_fUn, ↓run_fCons, ↓run_fCB, ↓run_fTup, ↓run_fLst, ↓run_fB, ↓run_fIf, ↓run_fAndT, ↓run_fOrT, ↓run_fNotT, ↓run_fAndV, ↓run_fOrV, ↓run_fNotV, ↓run_fIsN, ↓run_fNotN, ↓run_fChain, ↓run_fSeq, ↓run_fDrop, ↓run_fRet, ↓run_fRetV, ↓run_fSet, ↓run_fAsg, ↓run_fRg, ↓run_fISU, ↓run_fFor, ↓run_fLc, ↓run_fIxV, ↓run_fLenV, ↓run_fReprV, ↓run_fApp, ↓run_gSetL, ↓run_fBVar, ↓run_fBCons, ↓run_callD, ↓run_fCk, ↓run_fCkP, ↓run_mDef, ↓run_fPart, ↓run_fSl, ↓run_fRevL, ↓run_fLM, ↓run_fM1, ↓run_fDGet, ↓run_fDIn, ↓run_fLenSet, ↓run_fFldU, ↓run_fAugL, ↓run_fMk, ↓run_fSFld, ↓run_fXm, ↓run_fRs, ↓run_fXval, ↓run_fGive, ↓run_fDc, ↓run_fLc2, ↓bindK_ok, ↓bindK_ex, ↓optQ_some, ↓optQ_none, ↓upQ_some, ↓upQ_none, ↓vlQ_val, ↓vlQ_own, ↓vlQ_un, ↓vlQ_ex, ↓varQ_val, ↓varQ_own, ↓retQ_val, ↓retQ_own, ↓tupK_ok, ↓tupK_ex, ↓lstK_ok, ↓lstK_ex, ↓ifK_ok, ↓ifK_ex, ↓seqK_nx, ↓seqK_bk, ↓seqK_ct, ↓seqK_rt, ↓seqK_ex, ↓ixK_ok, ↓ixK_ex, ↓lenQ_int, ↓appQ_own, ↓appK_ok, ↓appK_ex, ↓setP_some, ↓setQ_own, ↓setK_ok, ↓barQ_val, ↓barQ_own, ↓ckK2_ok, ↓ckK2_ex, ↓ckK_ok, ↓ckK_ex, ↓ckPK2_ok, ↓ckPK2_ex, ↓ckPK_ok, ↓ckPK_ex, ↓okQ_ok, ↓okQ_ex, ↓backK_eq, ↓dfQ_nx, ↓dfQ_rt, ↓dfQ_ex, ↓forK_ok, ↓forK_ex, ↓fturnK_bk, ↓fturnK_rt, ↓fturnK_nx, ↓fturnK_ct, ↓fturnK_ex, ↓lcK_ok, ↓lcK_ex, ↓lturnK_ok, ↓ltestK_ok, ↓lkeepK_ok, ↓lkeepK_ex, ↓lstepK_ok, ↓lstepK_ex, ↓fstepK_nx, ↓fstepK_ct, ↓fstepK_bk, ↓fstepK_rt, ↓fstepK_ex, ↓bQ_t, ↓bQ_true, ↓bQ_false, ↓ifQ_t, ↓ifQ_f, ↓ifQ_true, ↓ifQ_false, ↓put_eq, ↓revM_l, ↓lmM_l, ↓m1M_s, ↓augK_ok, ↓augQ1_int, ↓augQ2_ok, ↓madeK_ok, ↓madeK_ex, ↓mkK_ok, ↓mkK2_ok, ↓sfQ_some, ↓sfK_ok, ↓xmK_ok, ↓rsK_ok, ↓xvK_ok, ↓giveK_ok, ↓dcK_ok, ↓dvalK_ok, ↓dkeyK_ok, ↓dstepK_ok, ↓lc2K_ok, ↓innK_ok, ↓inn1K_ok, ↓inn2K_ok, gEq_int, gNe_int, gPow_ii, atI_lit, atI_at, ixN_lit, ixN_at, gAdd_ii, gAdd_ss, gAdd_ll, gAdd_tt, gMinus_ii, gMul_ii, okMul_l, okMul_r, gMul_li, gMod_ii, gDiv_ii, gLt_ii, gLt_ss, gLe_ii, gLe_ss, gGt_ii, gGe_ii, gIxS_own, gIxS_val, gIx_l, gIx_r, gIx_t, gIx_s, seqOf_l, seqOf_r, seqOf_t, seqU_l, seqU_r, seqU_t, seqU_s, gLen_l, gLen_r, gLen_t, gLen_s, unOk_val, unOk_own, unOk_none, toB_bl, slB_bl, isOL_own, isOw_own, isSeen_own, isSeen_val, dt_lst, rg1_int, rg2_int, inRg_of, isNonD, DL.seen, norm, norms, pinL, backsD, backs, lent, arSl, gPos, small, wipeR, gMul2_ii, gMul2_s, gNeg_int, toI_int, en2_l, en2_t, gSl_l, gSl_t, gTupleOf_l, gTupleOf_t, gListOf_l, gListOf_t, zp1_ll, zp1_tt, gT, gC, gN, notIn, gKw, Ar.up, -List.map_map, gDivA_ii, truD_bl, truD_non, truD_int, truD_lst, truD_rol, truD_tup, truD_dct, gS, fld_top K kf, fld_bottom K kf, io]
  · simp (maxSteps := 4000000) (maxDischargeDepth := 6) [↓run_fMtV, ↓run_fMtVP, ↓run_fKeep, ↓keepK_ok, ↓run_fFmt, ↓run_fFmtD, ↓run_fJoin, ↓run_fJCons, ↓jK_ok, ↓jK_ex, ↓run_fPar, ↓parK_ok, ↓wstepK_nx, ↓wK_true, ↓wK_false, ↓run_fOrU, ↓run_fAndU, ↓run_fNotU, ↓run_fTru, ↓run_orU, ↓run_andU, ↓orK_some, ↓andK_some, ↓run_mP, ↓run_none, ↓run_mB, ↓run_mO, ↓run_vl, ↓run_mU, ↓run_fVar, ↓run_fOp, ↓run_fUn, ↓run_fCons, ↓run_fCB, ↓run_fTup, ↓run_fLst, ↓run_fB, ↓run_fIf, ↓run_fAndT, ↓run_fOrT, ↓run_fNotT, ↓run_fAndV, ↓run_fOrV, ↓run_fNotV, ↓run_fIsN, ↓run_fNotN, ↓run_fChain, ↓run_fSeq, ↓run_fDrop, ↓run_fRet, ↓run_fRetV, ↓run_fSet, ↓run_fAsg, ↓run_fRg, ↓run_fISU, ↓run_fFor, ↓run_fLc, ↓run_fIxV, ↓run_fLenV, ↓run_fReprV, ↓run_fApp, ↓run_gSetL, ↓run_fBVar, ↓run_fBCons, ↓run_callD, ↓run_fCk, ↓run_fCkP, ↓run_mDef, ↓run_fPart, ↓run_fSl, ↓run_fRevL, ↓run_fLM, ↓run_fM1, ↓run_fDGet, ↓run_fDIn, ↓run_fLenSet, ↓run_fFldU, ↓run_fAugL, ↓run_fMk, ↓run_fSFld, ↓run_fXm, ↓run_fRs, ↓run_fXval, ↓run_fGive, ↓run_fDc, ↓run_fLc2, ↓bindK_ok, ↓bindK_ex, ↓optQ_some, ↓optQ_none, ↓upQ_some, ↓upQ_none, ↓vlQ_val, ↓vlQ_own, ↓vlQ_un, ↓vlQ_ex, ↓varQ_val, ↓varQ_own, ↓retQ_val, ↓retQ_own, ↓tupK_ok, ↓tupK_ex, ↓lstK_ok, ↓lstK_ex, ↓ifK_ok, ↓ifK_ex, ↓seqK_nx, ↓seqK_bk, ↓seqK_ct, ↓seqK_rt, ↓seqK_ex, ↓ixK_ok, ↓ixK_ex, ↓lenQ_int, ↓appQ_own, ↓appK_ok, ↓appK_ex, ↓setP_some, ↓setQ_own, ↓setK_ok, ↓barQ_val, ↓barQ_own, ↓ckK2_ok, ↓ckK2_ex, ↓ckK_ok, ↓ckK_ex, ↓ckPK2_ok, ↓ckPK2_ex, ↓ckPK_ok, ↓ckPK_ex, ↓okQ_ok, ↓okQ_ex, ↓backK_eq, ↓dfQ_nx, ↓dfQ_rt, ↓dfQ_ex, ↓forK_ok, ↓forK_ex, ↓fturnK_bk, ↓fturnK_rt, ↓fturnK_nx, ↓fturnK_ct, ↓fturnK_ex, ↓lcK_ok, ↓lcK_ex, ↓lturnK_ok, ↓ltestK_ok, ↓lkeepK_ok, ↓lkeepK_ex, ↓lstepK_ok, ↓lstepK_ex, ↓fstepK_nx, ↓fstepK_ct, ↓fstepK_bk, ↓fstepK_rt, ↓fstepK_ex, ↓bQ_t, ↓bQ_true, ↓bQ_false, ↓ifQ_t, ↓ifQ_f, ↓ifQ_true, ↓ifQ_false, ↓put_eq, ↓revM_l, ↓lmM_l, ↓m1M_s, ↓augK_ok, ↓augQ1_int, ↓augQ2_ok, ↓madeK_ok, ↓madeK_ex, ↓mkK_ok, ↓mkK2_ok, ↓sfQ_some, ↓sfK_ok, ↓xmK_ok, ↓rsK_ok, ↓xvK_ok, ↓giveK_ok, ↓dcK_ok, ↓dvalK_ok, ↓dkeyK_ok, ↓dstepK_ok, ↓lc2K_ok, ↓innK_ok, ↓inn1K_ok, ↓inn2K_ok, gEq_int, gNe_int, gPow_ii, atI_lit, atI_at, ixN_lit, ixN_at, gAdd_ii, gAdd_ss, gAdd_ll, gAdd_tt, gMinus_ii, gMul_ii, okMul_l, okMul_r, gMul_li, gMod_ii, gDiv_ii, gLt_ii, gLt_ss, gLe_ii, gLe_ss, gGt_ii, gGe_ii, gIxS_own, gIxS_val, gIx_l, gIx_r, gIx_t, gIx_s, seqOf_l, seqOf_r, seqOf_t, seqU_l, seqU_r, seqU_t, seqU_s, gLen_l, gLen_r, gLen_t, gLen_s, unOk_val, unOk_own, unOk_none, toB_bl, slB_bl, isOL_own, isOw_own, isSeen_own, isSeen_val, dt_lst, rg1_int, rg2_int, inRg_of, isNonD, DL.seen, norm, norms, pinL, backsD, backs, lent, arSl, gPos, small, wipeR, gMul2_ii, gMul2_s, gNeg_int, toI_int, en2_l, en2_t, gSl_l, gSl_t, gTupleOf_l, gTupleOf_t, gListOf_l, gListOf_t, zp1_ll, zp1_tt, gT, gC, gN, notIn, gKw, Ar.up, -List.map_map, gDivA_ii, truD_bl, truD_non, truD_int, truD_lst, truD_rol, truD_tup, truD_dct, gS, fld_top K kf, fld_bottom K kf, io, h1]
end CROWDSAY_K30_SHARES

end
section
set_option Elab.async false
set_option linter.all false
set_option maxRecDepth 100000
set_option maxHeartbeats 8000000
namespace CROWDSAY_K30_SHARES
open PySem PySem.Spec PyProof.Rows L2 DL
theorem gMul2_w {x y : Int} (h : x.natAbs.log2 + y.natAbs.log2 < 1000000) : gMul2 (.int x) (.int y) = some (.val (.int (x * y))) := by
  refine gMul2_of ?_
  show (if okMul x y || decide (CMulW x y) then some (Sl.val (.int (x * y))) else none) = _
  have c : CMulW x y := h
  rw [decide_eq_true c, Bool.or_true]
  rfl
/-- a new share -/
def shO (K : Fg) (a b : Int) : Od := .ins (shA K) shNs [.int (shT a b), .int (shB a b)]
theorem shO_dt (K : Fg) (a b : Int) : (shO K a b).dt = shD K (shT a b) (shB a b) := rfl
/-- numbers whose products two by two are small enough for all -/
def Sz (x : Int) : Prop := x.natAbs.log2 < 2000
theorem sz_mul {x y : Int} (h1 : Sz x) (h2 : Sz y) : x.natAbs.log2 + y.natAbs.log2 < 1000000 := by
  unfold Sz at h1 h2
  omega
theorem r_times (K : Fg) (kf : KfS K) (a b c d : Int) (ha : Sz a) (hb : Sz b) (hc : Sz c) (hd : Sz d) (h : b * d ≠ 0) (hl : (prt (a * c) (b * d)).natAbs.log2 < 9000) (Q : Po Sl) :
    Run (m_share_times K) [.val (shD K a b), .val (shD K c d)] Q = Q (.ok (.own (shO K (a * c) (b * d)))) [.val (shD K a b), .val (shD K c d)] := by
  have m1 := gMul2_w (sz_mul ha hc)
  have m2 := gMul2_w (sz_mul hb hd)
  refine Run.same ?_ Q
  simp only [m_share_times, ex_share_times]
  simp (maxSteps := 4000000) (maxDischargeDepth := 6) [↓run_fMtV, ↓run_fMtVP, ↓run_fKeep, ↓keepK_ok, ↓run_fFmt, ↓run_fFmtD, ↓run_fJoin, ↓run_fJCons, ↓jK_ok, ↓jK_ex, ↓run_fPar, ↓parK_ok, ↓wstepK_nx, ↓wK_true, ↓wK_false, ↓run_fOrU, ↓run_fAndU, ↓run_fNotU, ↓run_fTru, ↓run_orU, ↓run_andU, ↓orK_some, ↓andK_some, ↓run_mP, ↓run_none, ↓run_mB, ↓run_mO, ↓run_vl, ↓run_mU, ↓run_fVar, ↓run_fOp, ↓run_fUn, ↓run_fCons, ↓run_fCB, ↓run_fTup, ↓run_fLst, ↓run_fB, ↓run_fIf, ↓run_fAndT, ↓run_fOrT, ↓run_fNotT, ↓run_fAndV, ↓run_fOrV, ↓run_fNotV, ↓run_fIsN, ↓run_fNotN, ↓run_fChain, ↓run_fSeq, ↓run_fDrop, ↓run_fRet, ↓run_fRetV, ↓run_fSet, ↓run_fAsg, ↓run_fRg, ↓run_fISU, ↓run_fFor, ↓run_fLc, ↓run_fIxV, ↓run_fLenV, ↓run_fReprV, ↓run_fApp, ↓run_gSetL, ↓run_fBVar, ↓run_fBCons, ↓run_callD, ↓run_fCk, ↓run_fCkP, ↓run_mDef, ↓run_fPart, ↓run_fSl, ↓run_fRevL, ↓run_fLM, ↓run_fM1, ↓run_fDGet, ↓run_fDIn, ↓run_fLenSet, ↓run_fFldU, ↓run_fAugL, ↓run_fMk, ↓run_fSFld, ↓run_fXm, ↓run_fRs, ↓run_fXval, ↓run_fGive, ↓run_fDc, ↓run_fLc2, ↓bindK_ok, ↓bindK_ex, ↓optQ_some, ↓optQ_none, ↓upQ_some, ↓upQ_none, ↓vlQ_val, ↓vlQ_own, ↓vlQ_un, ↓vlQ_ex, ↓varQ_val, ↓varQ_own, ↓retQ_val, ↓retQ_own, ↓tupK_ok, ↓tupK_ex, ↓lstK_ok, ↓lstK_ex, ↓ifK_ok, ↓ifK_ex, ↓seqK_nx, ↓seqK_bk, ↓seqK_ct, ↓seqK_rt, ↓seqK_ex, ↓ixK_ok, ↓ixK_ex, ↓lenQ_int, ↓appQ_own, ↓appK_ok, ↓appK_ex, ↓setP_some, ↓setQ_own, ↓setK_ok, ↓barQ_val, ↓barQ_own, ↓ckK2_ok, ↓ckK2_ex, ↓ckK_ok, ↓ckK_ex, ↓ckPK2_ok, ↓ckPK2_ex, ↓ckPK_ok, ↓ckPK_ex, ↓okQ_ok, ↓okQ_ex, ↓backK_eq, ↓dfQ_nx, ↓dfQ_rt, ↓dfQ_ex, ↓forK_ok, ↓forK_ex, ↓fturnK_bk, ↓fturnK_rt, ↓fturnK_nx, ↓fturnK_ct, ↓fturnK_ex, ↓lcK_ok, ↓lcK_ex, ↓lturnK_ok, ↓ltestK_ok, ↓lkeepK_ok, ↓lkeepK_ex, ↓lstepK_ok, ↓lstepK_ex, ↓fstepK_nx, ↓fstepK_ct, ↓fstepK_bk, ↓fstepK_rt, ↓fstepK_ex, ↓bQ_t, ↓bQ_true, ↓bQ_false, ↓ifQ_t, ↓ifQ_f, ↓ifQ_true, ↓ifQ_false, ↓put_eq, ↓revM_l, ↓lmM_l, ↓m1M_s, ↓augK_ok, ↓augQ1_int, ↓augQ2_ok, ↓madeK_ok, ↓madeK_ex, ↓mkK_ok, ↓mkK2_ok, ↓sfQ_some, ↓sfK_ok, ↓xmK_ok, ↓rsK_ok, ↓xvK_ok, ↓giveK_ok, ↓dcK_ok, ↓dvalK_ok, ↓dkeyK_ok, ↓dstepK_ok, ↓lc2K_ok, ↓innK_ok, ↓inn1K_ok, ↓inn2K_ok, gEq_int, gNe_int, gPow_ii, atI_lit, atI_at, ixN_lit, ixN_at, gAdd_ii, gAdd_ss, gAdd_ll, gAdd_tt, gMinus_ii, gMul_ii, okMul_l, okMul_r, gMul_li, gMod_ii, gDiv_ii, gLt_ii, gLt_ss, gLe_ii, gLe_ss, gGt_ii, gGe_ii, gIxS_own, gIxS_val, gIx_l, gIx_r, gIx_t, gIx_s, seqOf_l, seqOf_r, seqOf_t, seqU_l, seqU_r, seqU_t, seqU_s, gLen_l, gLen_r, gLen_t, gLen_s, unOk_val, unOk_own, unOk_none, toB_bl, slB_bl, isOL_own, isOw_own, isSeen_own, isSeen_val, dt_lst, rg1_int, rg2_int, inRg_of, isNonD, DL.seen, norm, norms, pinL, backsD, backs, lent, arSl, gPos, small, wipeR, gMul2_ii, gMul2_s, gNeg_int, toI_int, en2_l, en2_t, gSl_l, gSl_t, gTupleOf_l, gTupleOf_t, gListOf_l, gListOf_t, zp1_ll, zp1_tt, gT, gC, gN, notIn, gKw, Ar.up, -List.map_map, gDivA_ii, truD_bl, truD_non, truD_int, truD_lst, truD_rol, truD_tup, truD_dct, gS, fld_top K kf, fld_bottom K kf, m1, m2, r_init K kf (a * c) (b * d) h hl]
  rfl
theorem r_plus (K : Fg) (kf : KfS K) (a b c d : Int) (ha : Sz a) (hb : Sz b) (hc : Sz c) (hd : Sz d) (h : b * d ≠ 0) (hl : (prt (a * d + c * b) (b * d)).natAbs.log2 < 9000) (Q : Po Sl) :
    Run (m_share_plus K) [.val (shD K a b), .val (shD K c d)] Q = Q (.ok (.own (shO K (a * d + c * b) (b * d)))) [.val (shD K a b), .val (shD K c d)] := by
  have m1 := gMul2_w (sz_mul ha hd)
  have m2 := gMul2_w (sz_mul hc hb)
  have m3 := gMul2_w (sz_mul hb hd)
  refine Run.same ?_ Q
  simp only [m_share_plus, ex_share_plus]
  simp (maxSteps := 4000000) (maxDischargeDepth := 6) [↓run_fMtV, ↓run_fMtVP, ↓run_fKeep, ↓keepK_ok, ↓run_fFmt, ↓run_fFmtD, ↓run_fJoin, ↓run_fJCons, ↓jK_ok, ↓jK_ex, ↓run_fPar, ↓parK_ok, ↓wstepK_nx, ↓wK_true, ↓wK_false, ↓run_fOrU, ↓run_fAndU, ↓run_fNotU, ↓run_fTru, ↓run_orU, ↓run_andU, ↓orK_some, ↓andK_some, ↓run_mP, ↓run_none, ↓run_mB, ↓run_mO, ↓run_vl, ↓run_mU, ↓run_fVar, ↓run_fOp, ↓run_fUn, ↓run_fCons, ↓run_fCB, ↓run_fTup, ↓run_fLst, ↓run_fB, ↓run_fIf, ↓run_fAndT, ↓run_fOrT, ↓run_fNotT, ↓run_fAndV, ↓run_fOrV, ↓run_fNotV, ↓run_fIsN, ↓run_fNotN, ↓run_fChain, ↓run_fSeq, ↓run_fDrop, ↓run_fRet, ↓run_fRetV, ↓run_fSet, ↓run_fAsg, ↓run_fRg, ↓run_fISU, ↓run_fFor, ↓run_fLc, ↓run_fIxV, ↓run_fLenV, ↓run_fReprV, ↓run_fApp, ↓run_gSetL, ↓run_fBVar, ↓run_fBCons, ↓run_callD, ↓run_fCk, ↓run_fCkP, ↓run_mDef, ↓run_fPart, ↓run_fSl, ↓run_fRevL, ↓run_fLM, ↓run_fM1, ↓run_fDGet, ↓run_fDIn, ↓run_fLenSet, ↓run_fFldU, ↓run_fAugL, ↓run_fMk, ↓run_fSFld, ↓run_fXm, ↓run_fRs, ↓run_fXval, ↓run_fGive, ↓run_fDc, ↓run_fLc2, ↓bindK_ok, ↓bindK_ex, ↓optQ_some, ↓optQ_none, ↓upQ_some, ↓upQ_none, ↓vlQ_val, ↓vlQ_own, ↓vlQ_un, ↓vlQ_ex, ↓varQ_val, ↓varQ_own, ↓retQ_val, ↓retQ_own, ↓tupK_ok, ↓tupK_ex, ↓lstK_ok, ↓lstK_ex, ↓ifK_ok, ↓ifK_ex, ↓seqK_nx, ↓seqK_bk, ↓seqK_ct, ↓seqK_rt, ↓seqK_ex, ↓ixK_ok, ↓ixK_ex, ↓lenQ_int, ↓appQ_own, ↓appK_ok, ↓appK_ex, ↓setP_some, ↓setQ_own, ↓setK_ok, ↓barQ_val, ↓barQ_own, ↓ckK2_ok, ↓ckK2_ex, ↓ckK_ok, ↓ckK_ex, ↓ckPK2_ok, ↓ckPK2_ex, ↓ckPK_ok, ↓ckPK_ex, ↓okQ_ok, ↓okQ_ex, ↓backK_eq, ↓dfQ_nx, ↓dfQ_rt, ↓dfQ_ex, ↓forK_ok, ↓forK_ex, ↓fturnK_bk, ↓fturnK_rt, ↓fturnK_nx, ↓fturnK_ct, ↓fturnK_ex, ↓lcK_ok, ↓lcK_ex, ↓lturnK_ok, ↓ltestK_ok, ↓lkeepK_ok, ↓lkeepK_ex, ↓lstepK_ok, ↓lstepK_ex, ↓fstepK_nx, ↓fstepK_ct, ↓fstepK_bk, ↓fstepK_rt, ↓fstepK_ex, ↓bQ_t, ↓bQ_true, ↓bQ_false, ↓ifQ_t, ↓ifQ_f, ↓ifQ_true, ↓ifQ_false, ↓put_eq, ↓revM_l, ↓lmM_l, ↓m1M_s, ↓augK_ok, ↓augQ1_int, ↓augQ2_ok, ↓madeK_ok, ↓madeK_ex, ↓mkK_ok, ↓mkK2_ok, ↓sfQ_some, ↓sfK_ok, ↓xmK_ok, ↓rsK_ok, ↓xvK_ok, ↓giveK_ok, ↓dcK_ok, ↓dvalK_ok, ↓dkeyK_ok, ↓dstepK_ok, ↓lc2K_ok, ↓innK_ok, ↓inn1K_ok, ↓inn2K_ok, gEq_int, gNe_int, gPow_ii, atI_lit, atI_at, ixN_lit, ixN_at, gAdd_ii, gAdd_ss, gAdd_ll, gAdd_tt, gMinus_ii, gMul_ii, okMul_l, okMul_r, gMul_li, gMod_ii, gDiv_ii, gLt_ii, gLt_ss, gLe_ii, gLe_ss, gGt_ii, gGe_ii, gIxS_own, gIxS_val, gIx_l, gIx_r, gIx_t, gIx_s, seqOf_l, seqOf_r, seqOf_t, seqU_l, seqU_r, seqU_t, seqU_s, gLen_l, gLen_r, gLen_t, gLen_s, unOk_val, unOk_own, unOk_none, toB_bl, slB_bl, isOL_own, isOw_own, isSeen_own, isSeen_val, dt_lst, rg1_int, rg2_int, inRg_of, isNonD, DL.seen, norm, norms, pinL, backsD, backs, lent, arSl, gPos, small, wipeR, gMul2_ii, gMul2_s, gNeg_int, toI_int, en2_l, en2_t, gSl_l, gSl_t, gTupleOf_l, gTupleOf_t, gListOf_l, gListOf_t, zp1_ll, zp1_tt, gT, gC, gN, notIn, gKw, Ar.up, -List.map_map, gDivA_ii, truD_bl, truD_non, truD_int, truD_lst, truD_rol, truD_tup, truD_dct, gS, fld_top K kf, fld_bottom K kf, m1, m2, m3, r_init K kf (a * d + c * b) (b * d) h hl]
  rfl
theorem r_less (K : Fg) (kf : KfS K) (a b c d : Int) (ha : Sz a) (hb : Sz b) (hc : Sz c) (hd : Sz d) (h : b * d ≠ 0) (hl : (prt (a * d - c * b) (b * d)).natAbs.log2 < 9000) (Q : Po Sl) :
    Run (m_share_less K) [.val (shD K a b), .val (shD K c d)] Q = Q (.ok (.own (shO K (a * d - c * b) (b * d)))) [.val (shD K a b), .val (shD K c d)] := by
  have m1 := gMul2_w (sz_mul ha hd)
  have m2 := gMul2_w (sz_mul hc hb)
  have m3 := gMul2_w (sz_mul hb hd)
  refine Run.same ?_ Q
  simp only [m_share_less, ex_share_less]
  simp (maxSteps := 4000000) (maxDischargeDepth := 6) [↓run_fMtV, ↓run_fMtVP, ↓run_fKeep, ↓keepK_ok, ↓run_fFmt, ↓run_fFmtD, ↓run_fJoin, ↓run_fJCons, ↓jK_ok, ↓jK_ex, ↓run_fPar, ↓parK_ok, ↓wstepK_nx, ↓wK_true, ↓wK_false, ↓run_fOrU, ↓run_fAndU, ↓run_fNotU, ↓run_fTru, ↓run_orU, ↓run_andU, ↓orK_some, ↓andK_some, ↓run_mP, ↓run_none, ↓run_mB, ↓run_mO, ↓run_vl, ↓run_mU, ↓run_fVar, ↓run_fOp, ↓run_fUn, ↓run_fCons, ↓run_fCB, ↓run_fTup, ↓run_fLst, ↓run_fB, ↓run_fIf, ↓run_fAndT, ↓run_fOrT, ↓run_fNotT, ↓run_fAndV, ↓run_fOrV, ↓run_fNotV, ↓run_fIsN, ↓run_fNotN, ↓run_fChain, ↓run_fSeq, ↓run_fDrop, ↓run_fRet, ↓run_fRetV, ↓run_fSet, ↓run_fAsg, ↓run_fRg, ↓run_fISU, ↓run_fFor, ↓run_fLc, ↓run_fIxV, ↓run_fLenV, ↓run_fReprV, ↓run_fApp, ↓run_gSetL, ↓run_fBVar, ↓run_fBCons, ↓run_callD, ↓run_fCk, ↓run_fCkP, ↓run_mDef, ↓run_fPart, ↓run_fSl, ↓run_fRevL, ↓run_fLM, ↓run_fM1, ↓run_fDGet, ↓run_fDIn, ↓run_fLenSet, ↓run_fFldU, ↓run_fAugL, ↓run_fMk, ↓run_fSFld, ↓run_fXm, ↓run_fRs, ↓run_fXval, ↓run_fGive, ↓run_fDc, ↓run_fLc2, ↓bindK_ok, ↓bindK_ex, ↓optQ_some, ↓optQ_none, ↓upQ_some, ↓upQ_none, ↓vlQ_val, ↓vlQ_own, ↓vlQ_un, ↓vlQ_ex, ↓varQ_val, ↓varQ_own, ↓retQ_val, ↓retQ_own, ↓tupK_ok, ↓tupK_ex, ↓lstK_ok, ↓lstK_ex, ↓ifK_ok, ↓ifK_ex, ↓seqK_nx, ↓seqK_bk, ↓seqK_ct, ↓seqK_rt, ↓seqK_ex, ↓ixK_ok, ↓ixK_ex, ↓lenQ_int, ↓appQ_own, ↓appK_ok, ↓appK_ex, ↓setP_some, ↓setQ_own, ↓setK_ok, ↓barQ_val, ↓barQ_own, ↓ckK2_ok, ↓ckK2_ex, ↓ckK_ok, ↓ckK_ex, ↓ckPK2_ok, ↓ckPK2_ex, ↓ckPK_ok, ↓ckPK_ex, ↓okQ_ok, ↓okQ_ex, ↓backK_eq, ↓dfQ_nx, ↓dfQ_rt, ↓dfQ_ex, ↓forK_ok, ↓forK_ex, ↓fturnK_bk, ↓fturnK_rt, ↓fturnK_nx, ↓fturnK_ct, ↓fturnK_ex, ↓lcK_ok, ↓lcK_ex, ↓lturnK_ok, ↓ltestK_ok, ↓lkeepK_ok, ↓lkeepK_ex, ↓lstepK_ok, ↓lstepK_ex, ↓fstepK_nx, ↓fstepK_ct, ↓fstepK_bk, ↓fstepK_rt, ↓fstepK_ex, ↓bQ_t, ↓bQ_true, ↓bQ_false, ↓ifQ_t, ↓ifQ_f, ↓ifQ_true, ↓ifQ_false, ↓put_eq, ↓revM_l, ↓lmM_l, ↓m1M_s, ↓augK_ok, ↓augQ1_int, ↓augQ2_ok, ↓madeK_ok, ↓madeK_ex, ↓mkK_ok, ↓mkK2_ok, ↓sfQ_some, ↓sfK_ok, ↓xmK_ok, ↓rsK_ok, ↓xvK_ok, ↓giveK_ok, ↓dcK_ok, ↓dvalK_ok, ↓dkeyK_ok, ↓dstepK_ok, ↓lc2K_ok, ↓innK_ok, ↓inn1K_ok, ↓inn2K_ok, gEq_int, gNe_int, gPow_ii, atI_lit, atI_at, ixN_lit, ixN_at, gAdd_ii, gAdd_ss, gAdd_ll, gAdd_tt, gMinus_ii, gMul_ii, okMul_l, okMul_r, gMul_li, gMod_ii, gDiv_ii, gLt_ii, gLt_ss, gLe_ii, gLe_ss, gGt_ii, gGe_ii, gIxS_own, gIxS_val, gIx_l, gIx_r, gIx_t, gIx_s, seqOf_l, seqOf_r, seqOf_t, seqU_l, seqU_r, seqU_t, seqU_s, gLen_l, gLen_r, gLen_t, gLen_s, unOk_val, unOk_own, unOk_none, toB_bl, slB_bl, isOL_own, isOw_own, isSeen_own, isSeen_val, dt_lst, rg1_int, rg2_int, inRg_of, isNonD, DL.seen, norm, norms, pinL, backsD, backs, lent, arSl, gPos, small, wipeR, gMul2_ii, gMul2_s, gNeg_int, toI_int, en2_l, en2_t, gSl_l, gSl_t, gTupleOf_l, gTupleOf_t, gListOf_l, gListOf_t, zp1_ll, zp1_tt, gT, gC, gN, notIn, gKw, Ar.up, -List.map_map, gDivA_ii, truD_bl, truD_non, truD_int, truD_lst, truD_rol, truD_tup, truD_dct, gS, fld_top K kf, fld_bottom K kf, m1, m2, m3, r_init K kf (a * d - c * b) (b * d) h hl]
  rfl
theorem r_by (K : Fg) (kf : KfS K) (a b c d : Int) (ha : Sz a) (hb : Sz b) (hc : Sz c) (hd : Sz d) (c0 : c ≠ 0) (h : b * c ≠ 0) (hl : (prt (a * d) (b * c)).natAbs.log2 < 9000) (Q : Po Sl) :
    Run (m_share_by K) [.val (shD K a b), .val (shD K c d)] Q = Q (.ok (.own (shO K (a * d) (b * c)))) [.val (shD K a b), .val (shD K c d)] := by
  have m1 := gMul2_w (sz_mul ha hd)
  have m2 := gMul2_w (sz_mul hb hc)
  refine Run.same ?_ Q
  simp only [m_share_by, ex_share_by]
  simp (maxSteps := 4000000) (maxDischargeDepth := 6) [↓run_fMtV, ↓run_fMtVP, ↓run_fKeep, ↓keepK_ok, ↓run_fFmt, ↓run_fFmtD, ↓run_fJoin, ↓run_fJCons, ↓jK_ok, ↓jK_ex, ↓run_fPar, ↓parK_ok, ↓wstepK_nx, ↓wK_true, ↓wK_false, ↓run_fOrU, ↓run_fAndU, ↓run_fNotU, ↓run_fTru, ↓run_orU, ↓run_andU, ↓orK_some, ↓andK_some, ↓run_mP, ↓run_none, ↓run_mB, ↓run_mO, ↓run_vl, ↓run_mU, ↓run_fVar, ↓run_fOp, ↓run_fUn, ↓run_fCons, ↓run_fCB, ↓run_fTup, ↓run_fLst, ↓run_fB, ↓run_fIf, ↓run_fAndT, ↓run_fOrT, ↓run_fNotT, ↓run_fAndV, ↓run_fOrV, ↓run_fNotV, ↓run_fIsN, ↓run_fNotN, ↓run_fChain, ↓run_fSeq, ↓run_fDrop, ↓run_fRet, ↓run_fRetV, ↓run_fSet, ↓run_fAsg, ↓run_fRg, ↓run_fISU, ↓run_fFor, ↓run_fLc, ↓run_fIxV, ↓run_fLenV, ↓run_fReprV, ↓run_fApp, ↓run_gSetL, ↓run_fBVar, ↓run_fBCons, ↓run_callD, ↓run_fCk, ↓run_fCkP, ↓run_mDef, ↓run_fPart, ↓run_fSl, ↓run_fRevL, ↓run_fLM, ↓run_fM1, ↓run_fDGet, ↓run_fDIn, ↓run_fLenSet, ↓run_fFldU, ↓run_fAugL, ↓run_fMk, ↓run_fSFld, ↓run_fXm, ↓run_fRs, ↓run_fXval, ↓run_fGive, ↓run_fDc, ↓run_fLc2, ↓bindK_ok, ↓bindK_ex, ↓optQ_some, ↓optQ_none, ↓upQ_some, ↓upQ_none, ↓vlQ_val, ↓vlQ_own, ↓vlQ_un, ↓vlQ_ex, ↓varQ_val, ↓varQ_own, ↓retQ_val, ↓retQ_own, ↓tupK_ok, ↓tupK_ex, ↓lstK_ok, ↓lstK_ex, ↓ifK_ok, ↓ifK_ex, ↓seqK_nx, ↓seqK_bk, ↓seqK_ct, ↓seqK_rt, ↓seqK_ex, ↓ixK_ok, ↓ixK_ex, ↓lenQ_int, ↓appQ_own, ↓appK_ok, ↓appK_ex, ↓setP_some, ↓setQ_own, ↓setK_ok, ↓barQ_val, ↓barQ_own, ↓ckK2_ok, ↓ckK2_ex, ↓ckK_ok, ↓ckK_ex, ↓ckPK2_ok, ↓ckPK2_ex, ↓ckPK_ok, ↓ckPK_ex, ↓okQ_ok, ↓okQ_ex, ↓backK_eq, ↓dfQ_nx, ↓dfQ_rt, ↓dfQ_ex, ↓forK_ok, ↓forK_ex, ↓fturnK_bk, ↓fturnK_rt, ↓fturnK_nx, ↓fturnK_ct, ↓fturnK_ex, ↓lcK_ok, ↓lcK_ex, ↓lturnK_ok, ↓ltestK_ok, ↓lkeepK_ok, ↓lkeepK_ex, ↓lstepK_ok, ↓lstepK_ex, ↓fstepK_nx, ↓fstepK_ct, ↓fstepK_bk, ↓fstepK_rt, ↓fstepK_ex, ↓bQ_t, ↓bQ_true, ↓bQ_false, ↓ifQ_t, ↓ifQ_f, ↓ifQ_true, ↓ifQ_false, ↓put_eq, ↓revM_l, ↓lmM_l, ↓m1M_s, ↓augK_ok, ↓augQ1_int, ↓augQ2_ok, ↓madeK_ok, ↓madeK_ex, ↓mkK_ok, ↓mkK2_ok, ↓sfQ_some, ↓sfK_ok, ↓xmK_ok, ↓rsK_ok, ↓xvK_ok, ↓giveK_ok, ↓dcK_ok, ↓dvalK_ok, ↓dkeyK_ok, ↓dstepK_ok, ↓lc2K_ok, ↓innK_ok, ↓inn1K_ok, ↓inn2K_ok, gEq_int, gNe_int, gPow_ii, atI_lit, atI_at, ixN_lit, ixN_at, gAdd_ii, gAdd_ss, gAdd_ll, gAdd_tt, gMinus_ii, gMul_ii, okMul_l, okMul_r, gMul_li, gMod_ii, gDiv_ii, gLt_ii, gLt_ss, gLe_ii, gLe_ss, gGt_ii, gGe_ii, gIxS_own, gIxS_val, gIx_l, gIx_r, gIx_t, gIx_s, seqOf_l, seqOf_r, seqOf_t, seqU_l, seqU_r, seqU_t, seqU_s, gLen_l, gLen_r, gLen_t, gLen_s, unOk_val, unOk_own, unOk_none, toB_bl, slB_bl, isOL_own, isOw_own, isSeen_own, isSeen_val, dt_lst, rg1_int, rg2_int, inRg_of, isNonD, DL.seen, norm, norms, pinL, backsD, backs, lent, arSl, gPos, small, wipeR, gMul2_ii, gMul2_s, gNeg_int, toI_int, en2_l, en2_t, gSl_l, gSl_t, gTupleOf_l, gTupleOf_t, gListOf_l, gListOf_t, zp1_ll, zp1_tt, gT, gC, gN, notIn, gKw, Ar.up, -List.map_map, gDivA_ii, truD_bl, truD_non, truD_int, truD_lst, truD_rol, truD_tup, truD_dct, gS, fld_top K kf, fld_bottom K kf, c0, m1, m2, r_init K kf (a * d) (b * c) h hl]
  rfl
abbrev nsA (K : Fg) : Addr := He.ga K (Str.ofString "NoShare")
theorem r_by0 (K : Fg) (kf : KfS K) (a b d : Int) (ok : okD (.int a) = true) (Q : Po Sl) :
    Run (m_share_by K) [.val (shD K a b), .val (shD K 0 d)] Q = Q (.ex (nsA K) [Str.ofString "top"] [.int a]) [.val (shD K a b), .val (shD K 0 d)] := by
  refine Run.same ?_ Q
  simp only [m_share_by, ex_share_by]
  simp (maxSteps := 4000000) (maxDischargeDepth := 6) [↓run_fMtV, ↓run_fMtVP, ↓run_fKeep, ↓keepK_ok, ↓run_fFmt, ↓run_fFmtD, ↓run_fJoin, ↓run_fJCons, ↓jK_ok, ↓jK_ex, ↓run_fPar, ↓parK_ok, ↓wstepK_nx, ↓wK_true, ↓wK_false, ↓run_fOrU, ↓run_fAndU, ↓run_fNotU, ↓run_fTru, ↓run_orU, ↓run_andU, ↓orK_some, ↓andK_some, ↓run_mP, ↓run_none, ↓run_mB, ↓run_mO, ↓run_vl, ↓run_mU, ↓run_fVar, ↓run_fOp, ↓run_fUn, ↓run_fCons, ↓run_fCB, ↓run_fTup, ↓run_fLst, ↓run_fB, ↓run_fIf, ↓run_fAndT, ↓run_fOrT, ↓run_fNotT, ↓run_fAndV, ↓run_fOrV, ↓run_fNotV, ↓run_fIsN, ↓run_fNotN, ↓run_fChain, ↓run_fSeq, ↓run_fDrop, ↓run_fRet, ↓run_fRetV, ↓run_fSet, ↓run_fAsg, ↓run_fRg, ↓run_fISU, ↓run_fFor, ↓run_fLc, ↓run_fIxV, ↓run_fLenV, ↓run_fReprV, ↓run_fApp, ↓run_gSetL, ↓run_fBVar, ↓run_fBCons, ↓run_callD, ↓run_fCk, ↓run_fCkP, ↓run_mDef, ↓run_fPart, ↓run_fSl, ↓run_fRevL, ↓run_fLM, ↓run_fM1, ↓run_fDGet, ↓run_fDIn, ↓run_fLenSet, ↓run_fFldU, ↓run_fAugL, ↓run_fMk, ↓run_fSFld, ↓run_fXm, ↓run_fRs, ↓run_fXval, ↓run_fGive, ↓run_fDc, ↓run_fLc2, ↓bindK_ok, ↓bindK_ex, ↓optQ_some, ↓optQ_none, ↓upQ_some, ↓upQ_none, ↓vlQ_val, ↓vlQ_own, ↓vlQ_un, ↓vlQ_ex, ↓varQ_val, ↓varQ_own, ↓retQ_val, ↓retQ_own, ↓tupK_ok, ↓tupK_ex, ↓lstK_ok, ↓lstK_ex, ↓ifK_ok, ↓ifK_ex, ↓seqK_nx, ↓seqK_bk, ↓seqK_ct, ↓seqK_rt, ↓seqK_ex, ↓ixK_ok, ↓ixK_ex, ↓lenQ_int, ↓appQ_own, ↓appK_ok, ↓appK_ex, ↓setP_some, ↓setQ_own, ↓setK_ok, ↓barQ_val, ↓barQ_own, ↓ckK2_ok, ↓ckK2_ex, ↓ckK_ok, ↓ckK_ex, ↓ckPK2_ok, ↓ckPK2_ex, ↓ckPK_ok, ↓ckPK_ex, ↓okQ_ok, ↓okQ_ex, ↓backK_eq, ↓dfQ_nx, ↓dfQ_rt, ↓dfQ_ex, ↓forK_ok, ↓forK_ex, ↓fturnK_bk, ↓fturnK_rt, ↓fturnK_nx, ↓fturnK_ct, ↓fturnK_ex, ↓lcK_ok, ↓lcK_ex, ↓lturnK_ok, ↓ltestK_ok, ↓lkeepK_ok, ↓lkeepK_ex, ↓lstepK_ok, ↓lstepK_ex, ↓fstepK_nx, ↓fstepK_ct, ↓fstepK_bk, ↓fstepK_rt, ↓fstepK_ex, ↓bQ_t, ↓bQ_true, ↓bQ_false, ↓ifQ_t, ↓ifQ_f, ↓ifQ_true, ↓ifQ_false, ↓put_eq, ↓revM_l, ↓lmM_l, ↓m1M_s, ↓augK_ok, ↓augQ1_int, ↓augQ2_ok, ↓madeK_ok, ↓madeK_ex, ↓mkK_ok, ↓mkK2_ok, ↓sfQ_some, ↓sfK_ok, ↓xmK_ok, ↓rsK_ok, ↓xvK_ok, ↓giveK_ok, ↓dcK_ok, ↓dvalK_ok, ↓dkeyK_ok, ↓dstepK_ok, ↓lc2K_ok, ↓innK_ok, ↓inn1K_ok, ↓inn2K_ok, gEq_int, gNe_int, gPow_ii, atI_lit, atI_at, ixN_lit, ixN_at, gAdd_ii, gAdd_ss, gAdd_ll, gAdd_tt, gMinus_ii, gMul_ii, okMul_l, okMul_r, gMul_li, gMod_ii, gDiv_ii, gLt_ii, gLt_ss, gLe_ii, gLe_ss, gGt_ii, gGe_ii, gIxS_own, gIxS_val, gIx_l, gIx_r, gIx_t, gIx_s, seqOf_l, seqOf_r, seqOf_t, seqU_l, seqU_r, seqU_t, seqU_s, gLen_l, gLen_r, gLen_t, gLen_s, unOk_val, unOk_own, unOk_none, toB_bl, slB_bl, isOL_own, isOw_own, isSeen_own, isSeen_val, dt_lst, rg1_int, rg2_int, inRg_of, isNonD, DL.seen, norm, norms, pinL, backsD, backs, lent, arSl, gPos, small, wipeR, gMul2_ii, gMul2_s, gNeg_int, toI_int, en2_l, en2_t, gSl_l, gSl_t, gTupleOf_l, gTupleOf_t, gListOf_l, gListOf_t, zp1_ll, zp1_tt, gT, gC, gN, notIn, gKw, Ar.up, -List.map_map, gDivA_ii, truD_bl, truD_non, truD_int, truD_lst, truD_rol, truD_tup, truD_dct, gS, fld_top K kf, fld_bottom K kf, ok]
theorem r_init0 (K : Fg) (kf : KfS K) (a : Int) (ok : okD (.int a) = true) (Q : Po Sl) : Run (m_share___init K) [.own (.ins (shA K) [] []), .val (.int a), .val (.int 0)] Q = Q (.ex (nsA K) [Str.ofString "top"] [.int a]) [.own (.ins (shA K) [] []), .val (.int a), .val (.int 0)] := by
  refine Run.same ?_ Q
  simp only [m_share___init, ex_share___init]
  simp (maxSteps := 4000000) (maxDischargeDepth := 6) [↓run_fMtV, ↓run_fMtVP, ↓run_fKeep, ↓keepK_ok, ↓run_fFmt, ↓run_fFmtD, ↓run_fJoin, ↓run_fJCons, ↓jK_ok, ↓jK_ex, ↓run_fPar, ↓parK_ok, ↓wstepK_nx, ↓wK_true, ↓wK_false, ↓run_fOrU, ↓run_fAndU, ↓run_fNotU, ↓run_fTru, ↓run_orU, ↓run_andU, ↓orK_some, ↓andK_some, ↓run_mP, ↓run_none, ↓run_mB, ↓run_mO, ↓run_vl, ↓run_mU, ↓run_fVar, ↓run_fOp, ↓run_fUn, ↓run_fCons, ↓run_fCB, ↓run_fTup, ↓run_fLst, ↓run_fB, ↓run_fIf, ↓run_fAndT, ↓run_fOrT, ↓run_fNotT, ↓run_fAndV, ↓run_fOrV, ↓run_fNotV, ↓run_fIsN, ↓run_fNotN, ↓run_fChain, ↓run_fSeq, ↓run_fDrop, ↓run_fRet, ↓run_fRetV, ↓run_fSet, ↓run_fAsg, ↓run_fRg, ↓run_fISU, ↓run_fFor, ↓run_fLc, ↓run_fIxV, ↓run_fLenV, ↓run_fReprV, ↓run_fApp, ↓run_gSetL, ↓run_fBVar, ↓run_fBCons, ↓run_callD, ↓run_fCk, ↓run_fCkP, ↓run_mDef, ↓run_fPart, ↓run_fSl, ↓run_fRevL, ↓run_fLM, ↓run_fM1, ↓run_fDGet, ↓run_fDIn, ↓run_fLenSet, ↓run_fFldU, ↓run_fAugL, ↓run_fMk, ↓run_fSFld, ↓run_fXm, ↓run_fRs, ↓run_fXval, ↓run_fGive, ↓run_fDc, ↓run_fLc2, ↓bindK_ok, ↓bindK_ex, ↓optQ_some, ↓optQ_none, ↓upQ_some, ↓upQ_none, ↓vlQ_val, ↓vlQ_own, ↓vlQ_un, ↓vlQ_ex, ↓varQ_val, ↓varQ_own, ↓retQ_val, ↓retQ_own, ↓tupK_ok, ↓tupK_ex, ↓lstK_ok, ↓lstK_ex, ↓ifK_ok, ↓ifK_ex, ↓seqK_nx, ↓seqK_bk, ↓seqK_ct, ↓seqK_rt, ↓seqK_ex, ↓ixK_ok, ↓ixK_ex, ↓lenQ_int, ↓appQ_own, ↓appK_ok, ↓appK_ex, ↓setP_some, ↓setQ_own, ↓setK_ok, ↓barQ_val, ↓barQ_own, ↓ckK2_ok, ↓ckK2_ex, ↓ckK_ok, ↓ckK_ex, ↓ckPK2_ok, ↓ckPK2_ex, ↓ckPK_ok, ↓ckPK_ex, ↓okQ_ok, ↓okQ_ex, ↓backK_eq, ↓dfQ_nx, ↓dfQ_rt, ↓dfQ_ex, ↓forK_ok, ↓forK_ex, ↓fturnK_bk, ↓fturnK_rt, ↓fturnK_nx, ↓fturnK_ct, ↓fturnK_ex, ↓lcK_ok, ↓lcK_ex, ↓lturnK_ok, ↓ltestK_ok, ↓lkeepK_ok, ↓lkeepK_ex, ↓lstepK_ok, ↓lstepK_ex, ↓fstepK_nx, ↓fstepK_ct, ↓fstepK_bk, ↓fstepK_rt, ↓fstepK_ex, ↓bQ_t, ↓bQ_true, ↓bQ_false, ↓ifQ_t, ↓ifQ_f, ↓ifQ_true, ↓ifQ_false, ↓put_eq, ↓revM_l, ↓lmM_l, ↓m1M_s, ↓augK_ok, ↓augQ1_int, ↓augQ2_ok, ↓madeK_ok, ↓madeK_ex, ↓mkK_ok, ↓mkK2_ok, ↓sfQ_some, ↓sfK_ok, ↓xmK_ok, ↓rsK_ok, ↓xvK_ok, ↓giveK_ok, ↓dcK_ok, ↓dvalK_ok, ↓dkeyK_ok, ↓dstepK_ok, ↓lc2K_ok, ↓innK_ok, ↓inn1K_ok, ↓inn2K_ok, gEq_int, gNe_int, gPow_ii, atI_lit, atI_at, ixN_lit, ixN_at, gAdd_ii, gAdd_ss, gAdd_ll, gAdd_tt, gMinus_ii, gMul_ii, okMul_l, okMul_r, gMul_li, gMod_ii, gDiv_ii, gLt_ii, gLt_ss, gLe_ii, gLe_ss, gGt_ii, gGe_ii, gIxS_own, gIxS_val, gIx_l, gIx_r, gIx_t, gIx_s, seqOf_l, seqOf_r, seqOf_t, seqU_l, seqU_r, seqU_t, seqU_s, gLen_l, gLen_r, gLen_t, gLen_s, unOk_val, unOk_own, unOk_none, toB_bl, slB_bl, isOL_own, isOw_own, isSeen_own, isSeen_val, dt_lst, rg1_int, rg2_int, inRg_of, isNonD, DL.seen, norm, norms, pinL, backsD, backs, lent, arSl, gPos, small, wipeR, gMul2_ii, gMul2_s, gNeg_int, toI_int, en2_l, en2_t, gSl_l, gSl_t, gTupleOf_l, gTupleOf_t, gListOf_l, gListOf_t, zp1_ll, zp1_tt, gT, gC, gN, notIn, gKw, Ar.up, -List.map_map, gDivA_ii, truD_bl, truD_non, truD_int, truD_lst, truD_rol, truD_tup, truD_dct, gS, ok]
end CROWDSAY_K30_SHARES

end
section
set_option Elab.async false
set_option linter.all false
set_option maxRecDepth 100000
set_option maxHeartbeats 8000000
namespace CROWDSAY_K30_SHARES
open PySem PySem.Spec PyProof.Rows L2 DL
theorem gShow_of {C : Addr} {m : M Sl} {ns : List Str} {ds : List Dt} {t : Str} (h : ∀ Q, Run m [.val (.obj C ns ds)] Q = Q (.ok (.val (.str t))) [.val (.obj C ns ds)]) : gShow C m [.obj C ns ds] = some (.val (.str t)) := by
  have e : m [.val (.obj C ns ds)] = some (.ok (.val (.str t)), [.val (.obj C ns ds)]) := Run.eq (by rw [h]; exact ⟨rfl, rfl⟩)
  simp [gShow, callD, lent, arSl, e]
theorem gOwn_of {C : Addr} {m : M Sl} {ns ns' : List Str} {ds ds' : List Dt} {b : Bool} (h : ∀ Q, Run m [.val (.obj C ns ds), .val (.obj C ns' ds')] Q = Q (.ok (.val (.bl b))) [.val (.obj C ns ds), .val (.obj C ns' ds')]) : gOwn C m (.obj C ns ds) (.obj C ns' ds') = some (.val (.bl b)) := by
  have e : m [.val (.obj C ns ds), .val (.obj C ns' ds')] = some (.ok (.val (.bl b)), [.val (.obj C ns ds), .val (.obj C ns' ds')]) := Run.eq (by rw [h]; exact ⟨rfl, rfl⟩)
  simp [gOwn, callD, lent, arSl, e]
/-- text of a pair of numbers -/
theorem pair_txt {a b : Int} (ha : Fig a) (hb : Fig b) : ∃ x, textD (.tup [.int a, .int b]) = some x ∧ PyData.strOk x = true := by
  have e : pyD (.tup [.int a, .int b]) = some (.tuple [.int a, .int b]) := by simp [pyD, pyDs]
  have s := Shw1.tuple (ps := [.int a, .int b]) (n := 1921) (k := 0) (fun p hp => by
    simp only [List.mem_cons, List.not_mem_nil, or_false] at hp
    rcases hp with rfl | rfl
    · exact Shw1.int (Nat.lt_trans ha (by decide))
    · exact Shw1.int (Nat.lt_trans hb (by decide)))
  exact ⟨_, textD_of e s (by simp) (by decide), s.o⟩
theorem eq_self {x : Str} (h : PyData.strOk x = true) : gEq (.str x) (.str x) = some (.val (.bl true)) := by
  rw [gEq_str h h]; simp
theorem r_is_share (K : Fg) (kf : KfS K) (ob : ObjCls K (shA K)) (ki : PySem.W.kitOne K (.ref (shA K)) (.ref (shA K)) = some true) (a b : Int) (ha : Fig a) (hb : Fig b) (Q : Po Sl) :
    Run (m_l_is_share K) [.val (shD K a b), .val (.tup [.int a, .int b])] Q = Q (.ok (.val (.bl true))) [.val (shD K a b), .val (.tup [.int a, .int b])] := by
  obtain ⟨ta, fa, ga, la, oa⟩ := num_txt ha
  obtain ⟨tb, fb, gb, lb, obk⟩ := num_txt hb
  obtain ⟨tx, ht, hto⟩ := pair_txt ha hb
  have io : gIsiU K [shD K a b, .ref (He.ga K (Str.ofString "Share"))] = some (.val (.bl true)) := isi_obj ob ki
  have s1 : gShow (He.ga K (Str.ofString "Share")) (m_share___str K) [shD K a b] = some (.val (.str (if b = 1 then ta else ((ta ++ Str.ofString "/") ++ tb)))) := gShow_of (r_str K kf a b ta tb fa fb la lb)
  have s2 : gShow (He.ga K (Str.ofString "Share")) (m_share___repr K) [shD K a b] = some (.val (.str (shTxt ta tb))) := gShow_of (r_repr K kf a b ta tb fa fb la lb)
  have l0 : (Str.ofString "Share(").length = 6 := by decide +kernel
  have l1 : (Str.ofString "/").length = 1 := by decide +kernel
  have l2 : (Str.ofString ", ").length = 2 := by decide +kernel
  have l3 : (Str.ofString ")").length = 1 := by decide +kernel
  have o1 : PyData.strOk (Str.ofString "Share(") = true := by decide +kernel
  have o2 : PyData.strOk (Str.ofString "/") = true := by decide +kernel
  have o3 : PyData.strOk (Str.ofString ", ") = true := by decide +kernel
  have o4 : PyData.strOk (Str.ofString ")") = true := by decide +kernel
  have e1 := eq_self oa
  have e2 := eq_self (x := ta ++ Str.ofString "/" ++ tb) (by rw [strOk_append, strOk_append, oa, o2, obk]; rfl)
  have e3 := eq_self (x := shTxt ta tb) (by unfold shTxt; rw [strOk_append, strOk_append, strOk_append, strOk_append, o1, oa, o3, obk, o4]; rfl)
  unfold shTxt at s2 e3
  have z0 : ta.length + 1 < 1000000 := by omega
  have z00 : ta.length + 1 + tb.length < 1000000 := by omega
  have z1 : 6 + ta.length < 1000000 := by omega
  have z2 : 6 + ta.length + 2 < 1000000 := by omega
  have z3 : 6 + ta.length + 2 + tb.length < 1000000 := by omega
  have z4 : 6 + ta.length + 2 + tb.length + 1 < 1000000 := by omega
  refine Run.same ?_ Q
  simp only [m_l_is_share, ex_l_is_share]
  have gr : gRepr [.tup [.int a, .int b]] = some (.val (.str tx)) := by
    show (textD (.tup [.int a, .int b])).map (fun x => Sl.val (.str x)) = _
    rw [ht]; rfl
  by_cases h : b = 1
  · subst h
    simp (maxSteps := 4000000) (maxDischargeDepth := 6) [↓run_fMtV, ↓run_fMtVP, ↓run_fKeep, ↓keepK_ok, ↓run_fFmt, ↓run_fFmtD, ↓run_fJoin, ↓run_fJCons, ↓jK_ok, ↓jK_ex, ↓run_fPar, ↓parK_ok, ↓wstepK_nx, ↓wK_true, ↓wK_false, ↓run_fOrU, ↓run_fAndU, ↓run_fNotU, ↓run_fTru, ↓run_orU, ↓run_andU, ↓orK_some, ↓andK_some, ↓run_mP, ↓run_none, ↓run_mB, ↓run_mO, ↓run_vl, ↓run_mU, ↓run_fVar, ↓run_fOp, ↓run_fUn, ↓run_fCons, ↓run_fCB, ↓run_fTup, ↓run_fLst, ↓run_fB, ↓run_fIf, ↓run_fAndT, ↓run_fOrT, ↓run_fNotT, ↓run_fAndV, ↓run_fOrV, ↓run_fNotV, ↓run_fIsN, ↓run_fNotN, ↓run_fChain, ↓run_fSeq, ↓run_fDrop, ↓run_fRet, ↓run_fRetV, ↓run_fSet, ↓run_fAsg, ↓run_fRg, ↓run_fISU, ↓run_fFor, ↓run_fLc, ↓run_fIxV, ↓run_fLenV, ↓run_fReprV, ↓run_fApp, ↓run_gSetL, ↓run_fBVar, ↓run_fBCons, ↓run_callD, ↓run_fCk, ↓run_fCkP, ↓run_mDef, ↓run_fPart, ↓run_fSl, ↓run_fRevL, ↓run_fLM, ↓run_fM1, ↓run_fDGet, ↓run_fDIn, ↓run_fLenSet, ↓run_fFldU, ↓run_fAugL, ↓run_fMk, ↓run_fSFld, ↓run_fXm, ↓run_fRs, ↓run_fXval, ↓run_fGive, ↓run_fDc, ↓run_fLc2, ↓bindK_ok, ↓bindK_ex, ↓optQ_some, ↓optQ_none, ↓upQ_some, ↓upQ_none, ↓vlQ_val, ↓vlQ_own, ↓vlQ_un, ↓vlQ_ex, ↓varQ_val, ↓varQ_own, ↓retQ_val, ↓retQ_own, ↓tupK_ok, ↓tupK_ex, ↓lstK_ok, ↓lstK_ex, ↓ifK_ok, ↓ifK_ex, ↓seqK_nx, ↓seqK_bk, ↓seqK_ct, ↓seqK_rt, ↓seqK_ex, ↓ixK_ok, ↓ixK_ex, ↓lenQ_int, ↓appQ_own, ↓appK_ok, ↓appK_ex, ↓setP_some, ↓setQ_own, ↓setK_ok, ↓barQ_val, ↓barQ_own, ↓ckK2_ok, ↓ckK2_ex, ↓ckK_ok, ↓ckK_ex, ↓ckPK2_ok, ↓ckPK2_ex, ↓ckPK_ok, ↓ckPK_ex, ↓okQ_ok, ↓okQ_ex, ↓backK_eq, ↓dfQ_nx, ↓dfQ_rt, ↓dfQ_ex, ↓forK_ok, ↓forK_ex, ↓fturnK_bk, ↓fturnK_rt, ↓fturnK_nx, ↓fturnK_ct, ↓fturnK_ex, ↓lcK_ok, ↓lcK_ex, ↓lturnK_ok, ↓ltestK_ok, ↓lkeepK_ok, ↓lkeepK_ex, ↓lstepK_ok, ↓lstepK_ex, ↓fstepK_nx, ↓fstepK_ct, ↓fstepK_bk, ↓fstepK_rt, ↓fstepK_ex, ↓bQ_t, ↓bQ_true, ↓bQ_false, ↓ifQ_t, ↓ifQ_f, ↓ifQ_true, ↓ifQ_false, ↓put_eq, ↓revM_l, ↓lmM_l, ↓m1M_s, ↓augK_ok, ↓augQ1_int, ↓augQ2_ok, ↓madeK_ok, ↓madeK_ex, ↓mkK_ok, ↓mkK2_ok, ↓sfQ_some, ↓sfK_ok, ↓xmK_ok, ↓rsK_ok, ↓xvK_ok, ↓giveK_ok, ↓dcK_ok, ↓dvalK_ok, ↓dkeyK_ok, ↓dstepK_ok, ↓lc2K_ok, ↓innK_ok, ↓inn1K_ok, ↓inn2K_ok, gEq_int, gNe_int, gPow_ii, atI_lit, atI_at, ixN_lit, ixN_at, gAdd_ii, gAdd_ss, gAdd_ll, gAdd_tt, gMinus_ii, gMul_ii, okMul_l, okMul_r, gMul_li, gMod_ii, gDiv_ii, gLt_ii, gLt_ss, gLe_ii, gLe_ss, gGt_ii, gGe_ii, gIxS_own, gIxS_val, gIx_l, gIx_r, gIx_t, gIx_s, seqOf_l, seqOf_r, seqOf_t, seqU_l, seqU_r, seqU_t, seqU_s, gLen_l, gLen_r, gLen_t, gLen_s, unOk_val, unOk_own, unOk_none, toB_bl, slB_bl, isOL_own, isOw_own, isSeen_own, isSeen_val, dt_lst, rg1_int, rg2_int, inRg_of, isNonD, DL.seen, norm, norms, pinL, backsD, backs, lent, arSl, gPos, small, wipeR, gMul2_ii, gMul2_s, gNeg_int, toI_int, en2_l, en2_t, gSl_l, gSl_t, gTupleOf_l, gTupleOf_t, gListOf_l, gListOf_t, zp1_ll, zp1_tt, gT, gC, gN, notIn, gKw, Ar.up, -List.map_map, gDivA_ii, truD_bl, truD_non, truD_int, truD_lst, truD_rol, truD_tup, truD_dct, gS, io, fld_top K kf, fld_bottom K kf, gr, ht, ne_self hto, ga, gb, s1, s2, len_app, l0, l1, l2, l3, z0, z00, z1, z2, z3, z4, e1, e2, e3]
  · simp (maxSteps := 4000000) (maxDischargeDepth := 6) [↓run_fMtV, ↓run_fMtVP, ↓run_fKeep, ↓keepK_ok, ↓run_fFmt, ↓run_fFmtD, ↓run_fJoin, ↓run_fJCons, ↓jK_ok, ↓jK_ex, ↓run_fPar, ↓parK_ok, ↓wstepK_nx, ↓wK_true, ↓wK_false, ↓run_fOrU, ↓run_fAndU, ↓run_fNotU, ↓run_fTru, ↓run_orU, ↓run_andU, ↓orK_some, ↓andK_some, ↓run_mP, ↓run_none, ↓run_mB, ↓run_mO, ↓run_vl, ↓run_mU, ↓run_fVar, ↓run_fOp, ↓run_fUn, ↓run_fCons, ↓run_fCB, ↓run_fTup, ↓run_fLst, ↓run_fB, ↓run_fIf, ↓run_fAndT, ↓run_fOrT, ↓run_fNotT, ↓run_fAndV, ↓run_fOrV, ↓run_fNotV, ↓run_fIsN, ↓run_fNotN, ↓run_fChain, ↓run_fSeq, ↓run_fDrop, ↓run_fRet, ↓run_fRetV, ↓run_fSet, ↓run_fAsg, ↓run_fRg, ↓run_fISU, ↓run_fFor, ↓run_fLc, ↓run_fIxV, ↓run_fLenV, ↓run_fReprV, ↓run_fApp, ↓run_gSetL, ↓run_fBVar, ↓run_fBCons, ↓run_callD, ↓run_fCk, ↓run_fCkP, ↓run_mDef, ↓run_fPart, ↓run_fSl, ↓run_fRevL, ↓run_fLM, ↓run_fM1, ↓run_fDGet, ↓run_fDIn, ↓run_fLenSet, ↓run_fFldU, ↓run_fAugL, ↓run_fMk, ↓run_fSFld, ↓run_fXm, ↓run_fRs, ↓run_fXval, ↓run_fGive, ↓run_fDc, ↓run_fLc2, ↓bindK_ok, ↓bindK_ex, ↓optQ_some, ↓optQ_none, ↓upQ_some, ↓upQ_none, ↓vlQ_val, ↓vlQ_own, ↓vlQ_un, ↓vlQ_ex, ↓varQ_val, ↓varQ_own, ↓retQ_val, ↓retQ_own, ↓tupK_ok, ↓tupK_ex, ↓lstK_ok, ↓lstK_ex, ↓ifK_ok, ↓ifK_ex, ↓seqK_nx, ↓seqK_bk, ↓seqK_ct, ↓seqK_rt, ↓seqK_ex, ↓ixK_ok, ↓ixK_ex, ↓lenQ_int, ↓appQ_own, ↓appK_ok, ↓appK_ex, ↓setP_some, ↓setQ_own, ↓setK_ok, ↓barQ_val, ↓barQ_own, ↓ckK2_ok, ↓ckK2_ex, ↓ckK_ok, ↓ckK_ex, ↓ckPK2_ok, ↓ckPK2_ex, ↓ckPK_ok, ↓ckPK_ex, ↓okQ_ok, ↓okQ_ex, ↓backK_eq, ↓dfQ_nx, ↓dfQ_rt, ↓dfQ_ex, ↓forK_ok, ↓forK_ex, ↓fturnK_bk, ↓fturnK_rt, ↓fturnK_nx, ↓fturnK_ct, ↓fturnK_ex, ↓lcK_ok, ↓lcK_ex, ↓lturnK_ok, ↓ltestK_ok, ↓lkeepK_ok, ↓lkeepK_ex, ↓lstepK_ok, ↓lstepK_ex, ↓fstepK_nx, ↓fstepK_ct, ↓fstepK_bk, ↓fstepK_rt, ↓fstepK_ex, ↓bQ_t, ↓bQ_true, ↓bQ_false, ↓ifQ_t, ↓ifQ_f, ↓ifQ_true, ↓ifQ_false, ↓put_eq, ↓revM_l, ↓lmM_l, ↓m1M_s, ↓augK_ok, ↓augQ1_int, ↓augQ2_ok, ↓madeK_ok, ↓madeK_ex, ↓mkK_ok, ↓mkK2_ok, ↓sfQ_some, ↓sfK_ok, ↓xmK_ok, ↓rsK_ok, ↓xvK_ok, ↓giveK_ok, ↓dcK_ok, ↓dvalK_ok, ↓dkeyK_ok, ↓dstepK_ok, ↓lc2K_ok, ↓innK_ok, ↓inn1K_ok, ↓inn2K_ok, gEq_int, gNe_int, gPow_ii, atI_lit, atI_at, ixN_lit, ixN_at, gAdd_ii, gAdd_ss, gAdd_ll, gAdd_tt, gMinus_ii, gMul_ii, okMul_l, okMul_r, gMul_li, gMod_ii, gDiv_ii, gLt_ii, gLt_ss, gLe_ii, gLe_ss, gGt_ii, gGe_ii, gIxS_own, gIxS_val, gIx_l, gIx_r, gIx_t, gIx_s, seqOf_l, seqOf_r, seqOf_t, seqU_l, seqU_r, seqU_t, seqU_s, gLen_l, gLen_r, gLen_t, gLen_s, unOk_val, unOk_own, unOk_none, toB_bl, slB_bl, isOL_own, isOw_own, isSeen_own, isSeen_val, dt_lst, rg1_int, rg2_int, inRg_of, isNonD, DL.seen, norm, norms, pinL, backsD, backs, lent, arSl, gPos, small, wipeR, gMul2_ii, gMul2_s, gNeg_int, toI_int, en2_l, en2_t, gSl_l, gSl_t, gTupleOf_l, gTupleOf_t, gListOf_l, gListOf_t, zp1_ll, zp1_tt, gT, gC, gN, notIn, gKw, Ar.up, -List.map_map, gDivA_ii, truD_bl, truD_non, truD_int, truD_lst, truD_rol, truD_tup, truD_dct, gS, io, fld_top K kf, fld_bottom K kf, gr, ht, ne_self hto, ga, gb, s1, s2, h, len_app, l0, l1, l2, l3, z0, z00, z1, z2, z3, z4, e1, e2, e3]
end CROWDSAY_K30_SHARES

end
section
set_option Elab.async false
set_option linter.all false
set_option maxRecDepth 100000
set_option maxHeartbeats 8000000
namespace CROWDSAY_K30_SHARES
open PySem PySem.Spec PyProof.Rows L2 DL
def gcL (ns : List Int) : Nat := ns.foldl (fun g x => Nat.gcd g x.natAbs) 0
def J_cm (ns : List Int) (j : Nat) (ρ : List Sl) : Prop := ∃ x2 x3 x4, ρ = [.val (.lst (ns.map Dt.int)), .val (.int (gcL (ns.take j) : Nat)), x2, x3, x4]
def J_wh (S f x2 : Sl) (G : Nat) (n : Nat) (ρ : List Sl) : Prop := ∃ o t : Nat, t = n ∧ Nat.gcd o t = G ∧ ρ = [S, f, x2, .val (.int (o : Nat)), .val (.int (t : Nat))]
theorem r_common (K : Fg) (ns : List Int) (hz : ns.length < 1000) (Q : Po Sl) : Run (m_l_common K) [.val (.lst (ns.map Dt.int))] Q = Q (.ok (.val (.int (gcL ns : Nat)))) [.val (.lst (ns.map Dt.int))] := by
  refine Run.same ?_ Q
  simp only [m_l_common, ex_l_common]
  simp (maxSteps := 4000000) (maxDischargeDepth := 6) [↓run_fMtV, ↓run_fMtVP, ↓run_fKeep, ↓keepK_ok, ↓run_fFmt, ↓run_fFmtD, ↓run_fJoin, ↓run_fJCons, ↓jK_ok, ↓jK_ex, ↓run_fPar, ↓parK_ok, ↓wstepK_nx, ↓wK_true, ↓wK_false, ↓run_fOrU, ↓run_fAndU, ↓run_fNotU, ↓run_fTru, ↓run_orU, ↓run_andU, ↓orK_some, ↓andK_some, ↓run_mP, ↓run_none, ↓run_mB, ↓run_mO, ↓run_vl, ↓run_mU, ↓run_fVar, ↓run_fOp, ↓run_fUn, ↓run_fCons, ↓run_fCB, ↓run_fTup, ↓run_fLst, ↓run_fB, ↓run_fIf, ↓run_fAndT, ↓run_fOrT, ↓run_fNotT, ↓run_fAndV, ↓run_fOrV, ↓run_fNotV, ↓run_fIsN, ↓run_fNotN, ↓run_fChain, ↓run_fSeq, ↓run_fDrop, ↓run_fRet, ↓run_fRetV, ↓run_fSet, ↓run_fAsg, ↓run_fRg, ↓run_fISU, ↓run_fFor, ↓run_fLc, ↓run_fIxV, ↓run_fLenV, ↓run_fReprV, ↓run_fApp, ↓run_gSetL, ↓run_fBVar, ↓run_fBCons, ↓run_callD, ↓run_fCk, ↓run_fCkP, ↓run_mDef, ↓run_fPart, ↓run_fSl, ↓run_fRevL, ↓run_fLM, ↓run_fM1, ↓run_fDGet, ↓run_fDIn, ↓run_fLenSet, ↓run_fFldU, ↓run_fAugL, ↓run_fMk, ↓run_fSFld, ↓run_fXm, ↓run_fRs, ↓run_fXval, ↓run_fGive, ↓run_fDc, ↓run_fLc2, ↓bindK_ok, ↓bindK_ex, ↓optQ_some, ↓optQ_none, ↓upQ_some, ↓upQ_none, ↓vlQ_val, ↓vlQ_own, ↓vlQ_un, ↓vlQ_ex, ↓varQ_val, ↓varQ_own, ↓retQ_val, ↓retQ_own, ↓tupK_ok, ↓tupK_ex, ↓lstK_ok, ↓lstK_ex, ↓ifK_ok, ↓ifK_ex, ↓seqK_nx, ↓seqK_bk, ↓seqK_ct, ↓seqK_rt, ↓seqK_ex, ↓ixK_ok, ↓ixK_ex, ↓lenQ_int, ↓appQ_own, ↓appK_ok, ↓appK_ex, ↓setP_some, ↓setQ_own, ↓setK_ok, ↓barQ_val, ↓barQ_own, ↓ckK2_ok, ↓ckK2_ex, ↓ckK_ok, ↓ckK_ex, ↓ckPK2_ok, ↓ckPK2_ex, ↓ckPK_ok, ↓ckPK_ex, ↓okQ_ok, ↓okQ_ex, ↓backK_eq, ↓dfQ_nx, ↓dfQ_rt, ↓dfQ_ex, ↓forK_ok, ↓forK_ex, ↓fturnK_bk, ↓fturnK_rt, ↓fturnK_nx, ↓fturnK_ct, ↓fturnK_ex, ↓lcK_ok, ↓lcK_ex, ↓lturnK_ok, ↓ltestK_ok, ↓lkeepK_ok, ↓lkeepK_ex, ↓lstepK_ok, ↓lstepK_ex, ↓fstepK_nx, ↓fstepK_ct, ↓fstepK_bk, ↓fstepK_rt, ↓fstepK_ex, ↓bQ_t, ↓bQ_true, ↓bQ_false, ↓ifQ_t, ↓ifQ_f, ↓ifQ_true, ↓ifQ_false, ↓put_eq, ↓revM_l, ↓lmM_l, ↓m1M_s, ↓augK_ok, ↓augQ1_int, ↓augQ2_ok, ↓madeK_ok, ↓madeK_ex, ↓mkK_ok, ↓mkK2_ok, ↓sfQ_some, ↓sfK_ok, ↓xmK_ok, ↓rsK_ok, ↓xvK_ok, ↓giveK_ok, ↓dcK_ok, ↓dvalK_ok, ↓dkeyK_ok, ↓dstepK_ok, ↓lc2K_ok, ↓innK_ok, ↓inn1K_ok, ↓inn2K_ok, gEq_int, gNe_int, gPow_ii, atI_lit, atI_at, ixN_lit, ixN_at, gAdd_ii, gAdd_ss, gAdd_ll, gAdd_tt, gMinus_ii, gMul_ii, okMul_l, okMul_r, gMul_li, gMod_ii, gDiv_ii, gLt_ii, gLt_ss, gLe_ii, gLe_ss, gGt_ii, gGe_ii, gIxS_own, gIxS_val, gIx_l, gIx_r, gIx_t, gIx_s, seqOf_l, seqOf_r, seqOf_t, seqU_l, seqU_r, seqU_t, seqU_s, gLen_l, gLen_r, gLen_t, gLen_s, unOk_val, unOk_own, unOk_none, toB_bl, slB_bl, isOL_own, isOw_own, isSeen_own, isSeen_val, dt_lst, rg1_int, rg2_int, inRg_of, isNonD, DL.seen, norm, norms, pinL, backsD, backs, lent, arSl, gPos, small, wipeR, gMul2_ii, gMul2_s, gNeg_int, toI_int, en2_l, en2_t, gSl_l, gSl_t, gTupleOf_l, gTupleOf_t, gListOf_l, gListOf_t, zp1_ll, zp1_tt, gT, gC, gN, notIn, gKw, Ar.up, -List.map_map, gDivA_ii, truD_bl, truD_non, truD_int, truD_lst, truD_rol, truD_tup, truD_dct, gS]
  refine run_for (J_cm ns) ⟨_, _, _, rfl⟩ ?_ ?_
  · rintro j d ρ hd ⟨x2, x3, x4, rfl⟩
    obtain ⟨m, hm, rfl⟩ : ∃ m, ns[j]? = some m ∧ d = .int m := by
      rw [List.getElem?_map, Option.map_eq_some_iff] at hd
      obtain ⟨w, h1, h2⟩ := hd
      exact ⟨w, h1, h2.symm⟩
    have e : gcL (ns.take (j + 1)) = Nat.gcd (gcL (ns.take j)) m.natAbs := by
      rw [List.take_add_one, hm]
      unfold gcL
      rw [List.foldl_append]
      rfl
    generalize gcL (ns.take j) = g at e
    have ga : gAbs [.int m] = some (.val (.int (m.natAbs : Nat))) := by
      show some (Sl.val (.int (if m < 0 then -m else m))) = _
      have : (if m < 0 then -m else m) = ((m.natAbs : Nat) : Int) := by split <;> omega
      rw [this]
    simp (maxSteps := 4000000) (maxDischargeDepth := 6) [↓run_fMtV, ↓run_fMtVP, ↓run_fKeep, ↓keepK_ok, ↓run_fFmt, ↓run_fFmtD, ↓run_fJoin, ↓run_fJCons, ↓jK_ok, ↓jK_ex, ↓run_fPar, ↓parK_ok, ↓wstepK_nx, ↓wK_true, ↓wK_false, ↓run_fOrU, ↓run_fAndU, ↓run_fNotU, ↓run_fTru, ↓run_orU, ↓run_andU, ↓orK_some, ↓andK_some, ↓run_mP, ↓run_none, ↓run_mB, ↓run_mO, ↓run_vl, ↓run_mU, ↓run_fVar, ↓run_fOp, ↓run_fUn, ↓run_fCons, ↓run_fCB, ↓run_fTup, ↓run_fLst, ↓run_fB, ↓run_fIf, ↓run_fAndT, ↓run_fOrT, ↓run_fNotT, ↓run_fAndV, ↓run_fOrV, ↓run_fNotV, ↓run_fIsN, ↓run_fNotN, ↓run_fChain, ↓run_fSeq, ↓run_fDrop, ↓run_fRet, ↓run_fRetV, ↓run_fSet, ↓run_fAsg, ↓run_fRg, ↓run_fISU, ↓run_fFor, ↓run_fLc, ↓run_fIxV, ↓run_fLenV, ↓run_fReprV, ↓run_fApp, ↓run_gSetL, ↓run_fBVar, ↓run_fBCons, ↓run_callD, ↓run_fCk, ↓run_fCkP, ↓run_mDef, ↓run_fPart, ↓run_fSl, ↓run_fRevL, ↓run_fLM, ↓run_fM1, ↓run_fDGet, ↓run_fDIn, ↓run_fLenSet, ↓run_fFldU, ↓run_fAugL, ↓run_fMk, ↓run_fSFld, ↓run_fXm, ↓run_fRs, ↓run_fXval, ↓run_fGive, ↓run_fDc, ↓run_fLc2, ↓bindK_ok, ↓bindK_ex, ↓optQ_some, ↓optQ_none, ↓upQ_some, ↓upQ_none, ↓vlQ_val, ↓vlQ_own, ↓vlQ_un, ↓vlQ_ex, ↓varQ_val, ↓varQ_own, ↓retQ_val, ↓retQ_own, ↓tupK_ok, ↓tupK_ex, ↓lstK_ok, ↓lstK_ex, ↓ifK_ok, ↓ifK_ex, ↓seqK_nx, ↓seqK_bk, ↓seqK_ct, ↓seqK_rt, ↓seqK_ex, ↓ixK_ok, ↓ixK_ex, ↓lenQ_int, ↓appQ_own, ↓appK_ok, ↓appK_ex, ↓setP_some, ↓setQ_own, ↓setK_ok, ↓barQ_val, ↓barQ_own, ↓ckK2_ok, ↓ckK2_ex, ↓ckK_ok, ↓ckK_ex, ↓ckPK2_ok, ↓ckPK2_ex, ↓ckPK_ok, ↓ckPK_ex, ↓okQ_ok, ↓okQ_ex, ↓backK_eq, ↓dfQ_nx, ↓dfQ_rt, ↓dfQ_ex, ↓forK_ok, ↓forK_ex, ↓fturnK_bk, ↓fturnK_rt, ↓fturnK_nx, ↓fturnK_ct, ↓fturnK_ex, ↓lcK_ok, ↓lcK_ex, ↓lturnK_ok, ↓ltestK_ok, ↓lkeepK_ok, ↓lkeepK_ex, ↓lstepK_ok, ↓lstepK_ex, ↓fstepK_nx, ↓fstepK_ct, ↓fstepK_bk, ↓fstepK_rt, ↓fstepK_ex, ↓bQ_t, ↓bQ_true, ↓bQ_false, ↓ifQ_t, ↓ifQ_f, ↓ifQ_true, ↓ifQ_false, ↓put_eq, ↓revM_l, ↓lmM_l, ↓m1M_s, ↓augK_ok, ↓augQ1_int, ↓augQ2_ok, ↓madeK_ok, ↓madeK_ex, ↓mkK_ok, ↓mkK2_ok, ↓sfQ_some, ↓sfK_ok, ↓xmK_ok, ↓rsK_ok, ↓xvK_ok, ↓giveK_ok, ↓dcK_ok, ↓dvalK_ok, ↓dkeyK_ok, ↓dstepK_ok, ↓lc2K_ok, ↓innK_ok, ↓inn1K_ok, ↓inn2K_ok, gEq_int, gNe_int, gPow_ii, atI_lit, atI_at, ixN_lit, ixN_at, gAdd_ii, gAdd_ss, gAdd_ll, gAdd_tt, gMinus_ii, gMul_ii, okMul_l, okMul_r, gMul_li, gMod_ii, gDiv_ii, gLt_ii, gLt_ss, gLe_ii, gLe_ss, gGt_ii, gGe_ii, gIxS_own, gIxS_val, gIx_l, gIx_r, gIx_t, gIx_s, seqOf_l, seqOf_r, seqOf_t, seqU_l, seqU_r, seqU_t, seqU_s, gLen_l, gLen_r, gLen_t, gLen_s, unOk_val, unOk_own, unOk_none, toB_bl, slB_bl, isOL_own, isOw_own, isSeen_own, isSeen_val, dt_lst, rg1_int, rg2_int, inRg_of, isNonD, DL.seen, norm, norms, pinL, backsD, backs, lent, arSl, gPos, small, wipeR, gMul2_ii, gMul2_s, gNeg_int, toI_int, en2_l, en2_t, gSl_l, gSl_t, gTupleOf_l, gTupleOf_t, gListOf_l, gListOf_t, zp1_ll, zp1_tt, gT, gC, gN, notIn, gKw, Ar.up, -List.map_map, gDivA_ii, truD_bl, truD_non, truD_int, truD_lst, truD_rol, truD_tup, truD_dct, gS, ga]
    refine run_while (J_wh _ _ _ (Nat.gcd g m.natAbs)) (n := m.natAbs) ⟨g, m.natAbs, rfl, rfl, rfl⟩ ?_
    rintro n ρ ⟨o, t, rfl, hg, rfl⟩
    by_cases ht : t = 0
    · subst ht
      simp (maxSteps := 4000000) (maxDischargeDepth := 6) [↓run_fMtV, ↓run_fMtVP, ↓run_fKeep, ↓keepK_ok, ↓run_fFmt, ↓run_fFmtD, ↓run_fJoin, ↓run_fJCons, ↓jK_ok, ↓jK_ex, ↓run_fPar, ↓parK_ok, ↓wstepK_nx, ↓wK_true, ↓wK_false, ↓run_fOrU, ↓run_fAndU, ↓run_fNotU, ↓run_fTru, ↓run_orU, ↓run_andU, ↓orK_some, ↓andK_some, ↓run_mP, ↓run_none, ↓run_mB, ↓run_mO, ↓run_vl, ↓run_mU, ↓run_fVar, ↓run_fOp, ↓run_fUn, ↓run_fCons, ↓run_fCB, ↓run_fTup, ↓run_fLst, ↓run_fB, ↓run_fIf, ↓run_fAndT, ↓run_fOrT, ↓run_fNotT, ↓run_fAndV, ↓run_fOrV, ↓run_fNotV, ↓run_fIsN, ↓run_fNotN, ↓run_fChain, ↓run_fSeq, ↓run_fDrop, ↓run_fRet, ↓run_fRetV, ↓run_fSet, ↓run_fAsg, ↓run_fRg, ↓run_fISU, ↓run_fFor, ↓run_fLc, ↓run_fIxV, ↓run_fLenV, ↓run_fReprV, ↓run_fApp, ↓run_gSetL, ↓run_fBVar, ↓run_fBCons, ↓run_callD, ↓run_fCk, ↓run_fCkP, ↓run_mDef, ↓run_fPart, ↓run_fSl, ↓run_fRevL, ↓run_fLM, ↓run_fM1, ↓run_fDGet, ↓run_fDIn, ↓run_fLenSet, ↓run_fFldU, ↓run_fAugL, ↓run_fMk, ↓run_fSFld, ↓run_fXm, ↓run_fRs, ↓run_fXval, ↓run_fGive, ↓run_fDc, ↓run_fLc2, ↓bindK_ok, ↓bindK_ex, ↓optQ_some, ↓optQ_none, ↓upQ_some, ↓upQ_none, ↓vlQ_val, ↓vlQ_own, ↓vlQ_un, ↓vlQ_ex, ↓varQ_val, ↓varQ_own, ↓retQ_val, ↓retQ_own, ↓tupK_ok, ↓tupK_ex, ↓lstK_ok, ↓lstK_ex, ↓ifK_ok, ↓ifK_ex, ↓seqK_nx, ↓seqK_bk, ↓seqK_ct, ↓seqK_rt, ↓seqK_ex, ↓ixK_ok, ↓ixK_ex, ↓lenQ_int, ↓appQ_own, ↓appK_ok, ↓appK_ex, ↓setP_some, ↓setQ_own, ↓setK_ok, ↓barQ_val, ↓barQ_own, ↓ckK2_ok, ↓ckK2_ex, ↓ckK_ok, ↓ckK_ex, ↓ckPK2_ok, ↓ckPK2_ex, ↓ckPK_ok, ↓ckPK_ex, ↓okQ_ok, ↓okQ_ex, ↓backK_eq, ↓dfQ_nx, ↓dfQ_rt, ↓dfQ_ex, ↓forK_ok, ↓forK_ex, ↓fturnK_bk, ↓fturnK_rt, ↓fturnK_nx, ↓fturnK_ct, ↓fturnK_ex, ↓lcK_ok, ↓lcK_ex, ↓lturnK_ok, ↓ltestK_ok, ↓lkeepK_ok, ↓lkeepK_ex, ↓lstepK_ok, ↓lstepK_ex, ↓fstepK_nx, ↓fstepK_ct, ↓fstepK_bk, ↓fstepK_rt, ↓fstepK_ex, ↓bQ_t, ↓bQ_true, ↓bQ_false, ↓ifQ_t, ↓ifQ_f, ↓ifQ_true, ↓ifQ_false, ↓put_eq, ↓revM_l, ↓lmM_l, ↓m1M_s, ↓augK_ok, ↓augQ1_int, ↓augQ2_ok, ↓madeK_ok, ↓madeK_ex, ↓mkK_ok, ↓mkK2_ok, ↓sfQ_some, ↓sfK_ok, ↓xmK_ok, ↓rsK_ok, ↓xvK_ok, ↓giveK_ok, ↓dcK_ok, ↓dvalK_ok, ↓dkeyK_ok, ↓dstepK_ok, ↓lc2K_ok, ↓innK_ok, ↓inn1K_ok, ↓inn2K_ok, gEq_int, gNe_int, gPow_ii, atI_lit, atI_at, ixN_lit, ixN_at, gAdd_ii, gAdd_ss, gAdd_ll, gAdd_tt, gMinus_ii, gMul_ii, okMul_l, okMul_r, gMul_li, gMod_ii, gDiv_ii, gLt_ii, gLt_ss, gLe_ii, gLe_ss, gGt_ii, gGe_ii, gIxS_own, gIxS_val, gIx_l, gIx_r, gIx_t, gIx_s, seqOf_l, seqOf_r, seqOf_t, seqU_l, seqU_r, seqU_t, seqU_s, gLen_l, gLen_r, gLen_t, gLen_s, unOk_val, unOk_own, unOk_none, toB_bl, slB_bl, isOL_own, isOw_own, isSeen_own, isSeen_val, dt_lst, rg1_int, rg2_int, inRg_of, isNonD, DL.seen, norm, norms, pinL, backsD, backs, lent, arSl, gPos, small, wipeR, gMul2_ii, gMul2_s, gNeg_int, toI_int, en2_l, en2_t, gSl_l, gSl_t, gTupleOf_l, gTupleOf_t, gListOf_l, gListOf_t, zp1_ll, zp1_tt, gT, gC, gN, notIn, gKw, Ar.up, -List.map_map, gDivA_ii, truD_bl, truD_non, truD_int, truD_lst, truD_rol, truD_tup, truD_dct, gS]
      rw [Nat.gcd_zero_right] at hg
      have eo : o = gcL (List.take (j + 1) ns) := by rw [e]; exact hg
      rw [eo]
      exact ⟨_, _, _, rfl⟩
    · have ht2 : ¬ (t : Int) = 0 := by omega
      have gm : gMod (.int (o : Int)) (.int (t : Int)) = some (.val (.int ((o % t : Nat) : Int))) := by
        rw [gMod_ii ht2, Int.fmod_eq_emod_of_nonneg _ (by omega)]
        rfl
      simp (maxSteps := 4000000) (maxDischargeDepth := 6) [↓run_fMtV, ↓run_fMtVP, ↓run_fKeep, ↓keepK_ok, ↓run_fFmt, ↓run_fFmtD, ↓run_fJoin, ↓run_fJCons, ↓jK_ok, ↓jK_ex, ↓run_fPar, ↓parK_ok, ↓wstepK_nx, ↓wK_true, ↓wK_false, ↓run_fOrU, ↓run_fAndU, ↓run_fNotU, ↓run_fTru, ↓run_orU, ↓run_andU, ↓orK_some, ↓andK_some, ↓run_mP, ↓run_none, ↓run_mB, ↓run_mO, ↓run_vl, ↓run_mU, ↓run_fVar, ↓run_fOp, ↓run_fUn, ↓run_fCons, ↓run_fCB, ↓run_fTup, ↓run_fLst, ↓run_fB, ↓run_fIf, ↓run_fAndT, ↓run_fOrT, ↓run_fNotT, ↓run_fAndV, ↓run_fOrV, ↓run_fNotV, ↓run_fIsN, ↓run_fNotN, ↓run_fChain, ↓run_fSeq, ↓run_fDrop, ↓run_fRet, ↓run_fRetV, ↓run_fSet, ↓run_fAsg, ↓run_fRg, ↓run_fISU, ↓run_fFor, ↓run_fLc, ↓run_fIxV, ↓run_fLenV, ↓run_fReprV, ↓run_fApp, ↓run_gSetL, ↓run_fBVar, ↓run_fBCons, ↓run_callD, ↓run_fCk, ↓run_fCkP, ↓run_mDef, ↓run_fPart, ↓run_fSl, ↓run_fRevL, ↓run_fLM, ↓run_fM1, ↓run_fDGet, ↓run_fDIn, ↓run_fLenSet, ↓run_fFldU, ↓run_fAugL, ↓run_fMk, ↓run_fSFld, ↓run_fXm, ↓run_fRs, ↓run_fXval, ↓run_fGive, ↓run_fDc, ↓run_fLc2, ↓bindK_ok, ↓bindK_ex, ↓optQ_some, ↓optQ_none, ↓upQ_some, ↓upQ_none, ↓vlQ_val, ↓vlQ_own, ↓vlQ_un, ↓vlQ_ex, ↓varQ_val, ↓varQ_own, ↓retQ_val, ↓retQ_own, ↓tupK_ok, ↓tupK_ex, ↓lstK_ok, ↓lstK_ex, ↓ifK_ok, ↓ifK_ex, ↓seqK_nx, ↓seqK_bk, ↓seqK_ct, ↓seqK_rt, ↓seqK_ex, ↓ixK_ok, ↓ixK_ex, ↓lenQ_int, ↓appQ_own, ↓appK_ok, ↓appK_ex, ↓setP_some, ↓setQ_own, ↓setK_ok, ↓barQ_val, ↓barQ_own, ↓ckK2_ok, ↓ckK2_ex, ↓ckK_ok, ↓ckK_ex, ↓ckPK2_ok, ↓ckPK2_ex, ↓ckPK_ok, ↓ckPK_ex, ↓okQ_ok, ↓okQ_ex, ↓backK_eq, ↓dfQ_nx, ↓dfQ_rt, ↓dfQ_ex, ↓forK_ok, ↓forK_ex, ↓fturnK_bk, ↓fturnK_rt, ↓fturnK_nx, ↓fturnK_ct, ↓fturnK_ex, ↓lcK_ok, ↓lcK_ex, ↓lturnK_ok, ↓ltestK_ok, ↓lkeepK_ok, ↓lkeepK_ex, ↓lstepK_ok, ↓lstepK_ex, ↓fstepK_nx, ↓fstepK_ct, ↓fstepK_bk, ↓fstepK_rt, ↓fstepK_ex, ↓bQ_t, ↓bQ_true, ↓bQ_false, ↓ifQ_t, ↓ifQ_f, ↓ifQ_true, ↓ifQ_false, ↓put_eq, ↓revM_l, ↓lmM_l, ↓m1M_s, ↓augK_ok, ↓augQ1_int, ↓augQ2_ok, ↓madeK_ok, ↓madeK_ex, ↓mkK_ok, ↓mkK2_ok, ↓sfQ_some, ↓sfK_ok, ↓xmK_ok, ↓rsK_ok, ↓xvK_ok, ↓giveK_ok, ↓dcK_ok, ↓dvalK_ok, ↓dkeyK_ok, ↓dstepK_ok, ↓lc2K_ok, ↓innK_ok, ↓inn1K_ok, ↓inn2K_ok, gEq_int, gNe_int, gPow_ii, atI_lit, atI_at, ixN_lit, ixN_at, gAdd_ii, gAdd_ss, gAdd_ll, gAdd_tt, gMinus_ii, gMul_ii, okMul_l, okMul_r, gMul_li, gMod_ii, gDiv_ii, gLt_ii, gLt_ss, gLe_ii, gLe_ss, gGt_ii, gGe_ii, gIxS_own, gIxS_val, gIx_l, gIx_r, gIx_t, gIx_s, seqOf_l, seqOf_r, seqOf_t, seqU_l, seqU_r, seqU_t, seqU_s, gLen_l, gLen_r, gLen_t, gLen_s, unOk_val, unOk_own, unOk_none, toB_bl, slB_bl, isOL_own, isOw_own, isSeen_own, isSeen_val, dt_lst, rg1_int, rg2_int, inRg_of, isNonD, DL.seen, norm, norms, pinL, backsD, backs, lent, arSl, gPos, small, wipeR, gMul2_ii, gMul2_s, gNeg_int, toI_int, en2_l, en2_t, gSl_l, gSl_t, gTupleOf_l, gTupleOf_t, gListOf_l, gListOf_t, zp1_ll, zp1_tt, gT, gC, gN, notIn, gKw, Ar.up, -List.map_map, gDivA_ii, truD_bl, truD_non, truD_int, truD_lst, truD_rol, truD_tup, truD_dct, gS, ht, ht2, gm]
      exact ⟨o % t, Nat.mod_lt _ (by omega), t, o % t, rfl, by rw [← hg, Nat.gcd_comm o t, Nat.gcd_rec t o, Nat.gcd_comm], rfl⟩
  · rintro ρ ⟨x2, x3, x4, rfl⟩
    simp (maxSteps := 4000000) (maxDischargeDepth := 6) [↓run_fMtV, ↓run_fMtVP, ↓run_fKeep, ↓keepK_ok, ↓run_fFmt, ↓run_fFmtD, ↓run_fJoin, ↓run_fJCons, ↓jK_ok, ↓jK_ex, ↓run_fPar, ↓parK_ok, ↓wstepK_nx, ↓wK_true, ↓wK_false, ↓run_fOrU, ↓run_fAndU, ↓run_fNotU, ↓run_fTru, ↓run_orU, ↓run_andU, ↓orK_some, ↓andK_some, ↓run_mP, ↓run_none, ↓run_mB, ↓run_mO, ↓run_vl, ↓run_mU, ↓run_fVar, ↓run_fOp, ↓run_fUn, ↓run_fCons, ↓run_fCB, ↓run_fTup, ↓run_fLst, ↓run_fB, ↓run_fIf, ↓run_fAndT, ↓run_fOrT, ↓run_fNotT, ↓run_fAndV, ↓run_fOrV, ↓run_fNotV, ↓run_fIsN, ↓run_fNotN, ↓run_fChain, ↓run_fSeq, ↓run_fDrop, ↓run_fRet, ↓run_fRetV, ↓run_fSet, ↓run_fAsg, ↓run_fRg, ↓run_fISU, ↓run_fFor, ↓run_fLc, ↓run_fIxV, ↓run_fLenV, ↓run_fReprV, ↓run_fApp, ↓run_gSetL, ↓run_fBVar, ↓run_fBCons, ↓run_callD, ↓run_fCk, ↓run_fCkP, ↓run_mDef, ↓run_fPart, ↓run_fSl, ↓run_fRevL, ↓run_fLM, ↓run_fM1, ↓run_fDGet, ↓run_fDIn, ↓run_fLenSet, ↓run_fFldU, ↓run_fAugL, ↓run_fMk, ↓run_fSFld, ↓run_fXm, ↓run_fRs, ↓run_fXval, ↓run_fGive, ↓run_fDc, ↓run_fLc2, ↓bindK_ok, ↓bindK_ex, ↓optQ_some, ↓optQ_none, ↓upQ_some, ↓upQ_none, ↓vlQ_val, ↓vlQ_own, ↓vlQ_un, ↓vlQ_ex, ↓varQ_val, ↓varQ_own, ↓retQ_val, ↓retQ_own, ↓tupK_ok, ↓tupK_ex, ↓lstK_ok, ↓lstK_ex, ↓ifK_ok, ↓ifK_ex, ↓seqK_nx, ↓seqK_bk, ↓seqK_ct, ↓seqK_rt, ↓seqK_ex, ↓ixK_ok, ↓ixK_ex, ↓lenQ_int, ↓appQ_own, ↓appK_ok, ↓appK_ex, ↓setP_some, ↓setQ_own, ↓setK_ok, ↓barQ_val, ↓barQ_own, ↓ckK2_ok, ↓ckK2_ex, ↓ckK_ok, ↓ckK_ex, ↓ckPK2_ok, ↓ckPK2_ex, ↓ckPK_ok, ↓ckPK_ex, ↓okQ_ok, ↓okQ_ex, ↓backK_eq, ↓dfQ_nx, ↓dfQ_rt, ↓dfQ_ex, ↓forK_ok, ↓forK_ex, ↓fturnK_bk, ↓fturnK_rt, ↓fturnK_nx, ↓fturnK_ct, ↓fturnK_ex, ↓lcK_ok, ↓lcK_ex, ↓lturnK_ok, ↓ltestK_ok, ↓lkeepK_ok, ↓lkeepK_ex, ↓lstepK_ok, ↓lstepK_ex, ↓fstepK_nx, ↓fstepK_ct, ↓fstepK_bk, ↓fstepK_rt, ↓fstepK_ex, ↓bQ_t, ↓bQ_true, ↓bQ_false, ↓ifQ_t, ↓ifQ_f, ↓ifQ_true, ↓ifQ_false, ↓put_eq, ↓revM_l, ↓lmM_l, ↓m1M_s, ↓augK_ok, ↓augQ1_int, ↓augQ2_ok, ↓madeK_ok, ↓madeK_ex, ↓mkK_ok, ↓mkK2_ok, ↓sfQ_some, ↓sfK_ok, ↓xmK_ok, ↓rsK_ok, ↓xvK_ok, ↓giveK_ok, ↓dcK_ok, ↓dvalK_ok, ↓dkeyK_ok, ↓dstepK_ok, ↓lc2K_ok, ↓innK_ok, ↓inn1K_ok, ↓inn2K_ok, gEq_int, gNe_int, gPow_ii, atI_lit, atI_at, ixN_lit, ixN_at, gAdd_ii, gAdd_ss, gAdd_ll, gAdd_tt, gMinus_ii, gMul_ii, okMul_l, okMul_r, gMul_li, gMod_ii, gDiv_ii, gLt_ii, gLt_ss, gLe_ii, gLe_ss, gGt_ii, gGe_ii, gIxS_own, gIxS_val, gIx_l, gIx_r, gIx_t, gIx_s, seqOf_l, seqOf_r, seqOf_t, seqU_l, seqU_r, seqU_t, seqU_s, gLen_l, gLen_r, gLen_t, gLen_s, unOk_val, unOk_own, unOk_none, toB_bl, slB_bl, isOL_own, isOw_own, isSeen_own, isSeen_val, dt_lst, rg1_int, rg2_int, inRg_of, isNonD, DL.seen, norm, norms, pinL, backsD, backs, lent, arSl, gPos, small, wipeR, gMul2_ii, gMul2_s, gNeg_int, toI_int, en2_l, en2_t, gSl_l, gSl_t, gTupleOf_l, gTupleOf_t, gListOf_l, gListOf_t, zp1_ll, zp1_tt, gT, gC, gN, notIn, gKw, Ar.up, -List.map_map, gDivA_ii, truD_bl, truD_non, truD_int, truD_lst, truD_rol, truD_tup, truD_dct, gS]
end CROWDSAY_K30_SHARES

end
section
set_option Elab.async false
set_option linter.all false
set_option maxRecDepth 100000
set_option maxHeartbeats 8000000
namespace CROWDSAY_K30_SHARES
open PySem PySem.Spec PyProof.Rows L2 DL
theorem gcL_two (a b : Int) : gcL [a, b] = Nat.gcd a.natAbs b.natAbs := by
  unfold gcL
  simp
theorem r_share (K : Fg) (a b : Int) (h : b ≠ 0) (hl : (prt a b).natAbs.log2 < 9000) (Q : Po Sl) : Run (m_l_share K) [.val (.int a), .val (.int b)] Q = Q (.ok (.val (.tup [.int (shT a b), .int (shB a b)]))) [.val (.int a), .val (.int b)] := by
  have rc := r_common K [a, b] (by simp)
  rw [gcL_two] at rc
  simp only [List.map] at rc
  have p0 := prt_ne (a := a) h
  have d1 := gDivA_ii (i := a) p0 hl
  have d2 := gDivA_ii (i := b) p0 hl
  have t1 : gInt [.bl true] = some (.val (.int 1)) := rfl
  have t0 : gInt [.bl false] = some (.val (.int 0)) := rfl
  have x1 : atI [Dt.int 1, Dt.int (-1)] 1 = some (.int (-1)) := rfl
  have x0 : atI [Dt.int 1, Dt.int (-1)] 0 = some (.int 1) := rfl
  refine Run.same ?_ Q
  simp only [m_l_share, ex_l_share]
  unfold shT shB
  by_cases hb : b < 0
  · have pe : prt a b = -((Nat.gcd a.natAbs b.natAbs : Nat) : Int) := if_pos hb
    rw [pe] at d1 d2 ⊢
    generalize Nat.gcd a.natAbs b.natAbs = g at rc d1 d2
    have m1 : gMul2 (.int (g : Int)) (.int (-1)) = some (.val (.int (-(g : Int)))) := by
      rw [gMul2_ii (okMul_r (by omega) (by omega)), Int.mul_neg_one]
    simp (maxSteps := 4000000) (maxDischargeDepth := 6) [↓run_fMtV, ↓run_fMtVP, ↓run_fKeep, ↓keepK_ok, ↓run_fFmt, ↓run_fFmtD, ↓run_fJoin, ↓run_fJCons, ↓jK_ok, ↓jK_ex, ↓run_fPar, ↓parK_ok, ↓wstepK_nx, ↓wK_true, ↓wK_false, ↓run_fOrU, ↓run_fAndU, ↓run_fNotU, ↓run_fTru, ↓run_orU, ↓run_andU, ↓orK_some, ↓andK_some, ↓run_mP, ↓run_none, ↓run_mB, ↓run_mO, ↓run_vl, ↓run_mU, ↓run_fVar, ↓run_fOp, ↓run_fUn, ↓run_fCons, ↓run_fCB, ↓run_fTup, ↓run_fLst, ↓run_fB, ↓run_fIf, ↓run_fAndT, ↓run_fOrT, ↓run_fNotT, ↓run_fAndV, ↓run_fOrV, ↓run_fNotV, ↓run_fIsN, ↓run_fNotN, ↓run_fChain, ↓run_fSeq, ↓run_fDrop, ↓run_fRet, ↓run_fRetV, ↓run_fSet, ↓run_fAsg, ↓run_fRg, ↓run_fISU, ↓run_fFor, ↓run_fLc, ↓run_fIxV, ↓run_fLenV, ↓run_fReprV, ↓run_fApp, ↓run_gSetL, ↓run_fBVar, ↓run_fBCons, ↓run_callD, ↓run_fCk, ↓run_fCkP, ↓run_mDef, ↓run_fPart, ↓run_fSl, ↓run_fRevL, ↓run_fLM, ↓run_fM1, ↓run_fDGet, ↓run_fDIn, ↓run_fLenSet, ↓run_fFldU, ↓run_fAugL, ↓run_fMk, ↓run_fSFld, ↓run_fXm, ↓run_fRs, ↓run_fXval, ↓run_fGive, ↓run_fDc, ↓run_fLc2, ↓bindK_ok, ↓bindK_ex, ↓optQ_some, ↓optQ_none, ↓upQ_some, ↓upQ_none, ↓vlQ_val, ↓vlQ_own, ↓vlQ_un, ↓vlQ_ex, ↓varQ_val, ↓varQ_own, ↓retQ_val, ↓retQ_own, ↓tupK_ok, ↓tupK_ex, ↓lstK_ok, ↓lstK_ex, ↓ifK_ok, ↓ifK_ex, ↓seqK_nx, ↓seqK_bk, ↓seqK_ct, ↓seqK_rt, ↓seqK_ex, ↓ixK_ok, ↓ixK_ex, ↓lenQ_int, ↓appQ_own, ↓appK_ok, ↓appK_ex, ↓setP_some, ↓setQ_own, ↓setK_ok, ↓barQ_val, ↓barQ_own, ↓ckK2_ok, ↓ckK2_ex, ↓ckK_ok, ↓ckK_ex, ↓ckPK2_ok, ↓ckPK2_ex, ↓ckPK_ok, ↓ckPK_ex, ↓okQ_ok, ↓okQ_ex, ↓backK_eq, ↓dfQ_nx, ↓dfQ_rt, ↓dfQ_ex, ↓forK_ok, ↓forK_ex, ↓fturnK_bk, ↓fturnK_rt, ↓fturnK_nx, ↓fturnK_ct, ↓fturnK_ex, ↓lcK_ok, ↓lcK_ex, ↓lturnK_ok, ↓ltestK_ok, ↓lkeepK_ok, ↓lkeepK_ex, ↓lstepK_ok, ↓lstepK_ex, ↓fstepK_nx, ↓fstepK_ct, ↓fstepK_bk, ↓fstepK_rt, ↓fstepK_ex, ↓bQ_t, ↓bQ_true, ↓bQ_false, ↓ifQ_t, ↓ifQ_f, ↓ifQ_true, ↓ifQ_false, ↓put_eq, ↓revM_l, ↓lmM_l, ↓m1M_s, ↓augK_ok, ↓augQ1_int, ↓augQ2_ok, ↓madeK_ok, ↓madeK_ex, ↓mkK_ok, ↓mkK2_ok, ↓sfQ_some, ↓sfK_ok, ↓xmK_ok, ↓rsK_ok, ↓xvK_ok, ↓giveK_ok, ↓dcK_ok, ↓dvalK_ok, ↓dkeyK_ok, ↓dstepK_ok, ↓lc2K_ok, ↓innK_ok, ↓inn1K_ok, ↓inn2K_ok, gEq_int, gNe_int, gPow_ii, atI_lit, atI_at, ixN_lit, ixN_at, gAdd_ii, gAdd_ss, gAdd_ll, gAdd_tt, gMinus_ii, gMul_ii, okMul_l, okMul_r, gMul_li, gMod_ii, gDiv_ii, gLt_ii, gLt_ss, gLe_ii, gLe_ss, gGt_ii, gGe_ii, gIxS_own, gIxS_val, gIx_l, gIx_r, gIx_t, gIx_s, seqOf_l, seqOf_r, seqOf_t, seqU_l, seqU_r, seqU_t, seqU_s, gLen_l, gLen_r, gLen_t, gLen_s, unOk_val, unOk_own, unOk_none, toB_bl, slB_bl, isOL_own, isOw_own, isSeen_own, isSeen_val, dt_lst, rg1_int, rg2_int, inRg_of, isNonD, DL.seen, norm, norms, pinL, backsD, backs, lent, arSl, gPos, small, wipeR, gMul2_ii, gMul2_s, gNeg_int, toI_int, en2_l, en2_t, gSl_l, gSl_t, gTupleOf_l, gTupleOf_t, gListOf_l, gListOf_t, zp1_ll, zp1_tt, gT, gC, gN, notIn, gKw, Ar.up, -List.map_map, gDivA_ii, truD_bl, truD_non, truD_int, truD_lst, truD_rol, truD_tup, truD_dct, gS, rc, hb, t1, x1, m1, d1, d2]
  · have pe : prt a b = ((Nat.gcd a.natAbs b.natAbs : Nat) : Int) := if_neg hb
    rw [pe] at d1 d2 ⊢
    generalize Nat.gcd a.natAbs b.natAbs = g at rc d1 d2
    have m1 : gMul2 (.int (g : Int)) (.int 1) = some (.val (.int (g : Int))) := by
      rw [gMul2_ii (okMul_r (by omega) (by omega)), Int.mul_one]
    simp (maxSteps := 4000000) (maxDischargeDepth := 6) [↓run_fMtV, ↓run_fMtVP, ↓run_fKeep, ↓keepK_ok, ↓run_fFmt, ↓run_fFmtD, ↓run_fJoin, ↓run_fJCons, ↓jK_ok, ↓jK_ex, ↓run_fPar, ↓parK_ok, ↓wstepK_nx, ↓wK_true, ↓wK_false, ↓run_fOrU, ↓run_fAndU, ↓run_fNotU, ↓run_fTru, ↓run_orU, ↓run_andU, ↓orK_some, ↓andK_some, ↓run_mP, ↓run_none, ↓run_mB, ↓run_mO, ↓run_vl, ↓run_mU, ↓run_fVar, ↓run_fOp, ↓run_fUn, ↓run_fCons, ↓run_fCB, ↓run_fTup, ↓run_fLst, ↓run_fB, ↓run_fIf, ↓run_fAndT, ↓run_fOrT, ↓run_fNotT, ↓run_fAndV, ↓run_fOrV, ↓run_fNotV, ↓run_fIsN, ↓run_fNotN, ↓run_fChain, ↓run_fSeq, ↓run_fDrop, ↓run_fRet, ↓run_fRetV, ↓run_fSet, ↓run_fAsg, ↓run_fRg, ↓run_fISU, ↓run_fFor, ↓run_fLc, ↓run_fIxV, ↓run_fLenV, ↓run_fReprV, ↓run_fApp, ↓run_gSetL, ↓run_fBVar, ↓run_fBCons, ↓run_callD, ↓run_fCk, ↓run_fCkP, ↓run_mDef, ↓run_fPart, ↓run_fSl, ↓run_fRevL, ↓run_fLM, ↓run_fM1, ↓run_fDGet, ↓run_fDIn, ↓run_fLenSet, ↓run_fFldU, ↓run_fAugL, ↓run_fMk, ↓run_fSFld, ↓run_fXm, ↓run_fRs, ↓run_fXval, ↓run_fGive, ↓run_fDc, ↓run_fLc2, ↓bindK_ok, ↓bindK_ex, ↓optQ_some, ↓optQ_none, ↓upQ_some, ↓upQ_none, ↓vlQ_val, ↓vlQ_own, ↓vlQ_un, ↓vlQ_ex, ↓varQ_val, ↓varQ_own, ↓retQ_val, ↓retQ_own, ↓tupK_ok, ↓tupK_ex, ↓lstK_ok, ↓lstK_ex, ↓ifK_ok, ↓ifK_ex, ↓seqK_nx, ↓seqK_bk, ↓seqK_ct, ↓seqK_rt, ↓seqK_ex, ↓ixK_ok, ↓ixK_ex, ↓lenQ_int, ↓appQ_own, ↓appK_ok, ↓appK_ex, ↓setP_some, ↓setQ_own, ↓setK_ok, ↓barQ_val, ↓barQ_own, ↓ckK2_ok, ↓ckK2_ex, ↓ckK_ok, ↓ckK_ex, ↓ckPK2_ok, ↓ckPK2_ex, ↓ckPK_ok, ↓ckPK_ex, ↓okQ_ok, ↓okQ_ex, ↓backK_eq, ↓dfQ_nx, ↓dfQ_rt, ↓dfQ_ex, ↓forK_ok, ↓forK_ex, ↓fturnK_bk, ↓fturnK_rt, ↓fturnK_nx, ↓fturnK_ct, ↓fturnK_ex, ↓lcK_ok, ↓lcK_ex, ↓lturnK_ok, ↓ltestK_ok, ↓lkeepK_ok, ↓lkeepK_ex, ↓lstepK_ok, ↓lstepK_ex, ↓fstepK_nx, ↓fstepK_ct, ↓fstepK_bk, ↓fstepK_rt, ↓fstepK_ex, ↓bQ_t, ↓bQ_true, ↓bQ_false, ↓ifQ_t, ↓ifQ_f, ↓ifQ_true, ↓ifQ_false, ↓put_eq, ↓revM_l, ↓lmM_l, ↓m1M_s, ↓augK_ok, ↓augQ1_int, ↓augQ2_ok, ↓madeK_ok, ↓madeK_ex, ↓mkK_ok, ↓mkK2_ok, ↓sfQ_some, ↓sfK_ok, ↓xmK_ok, ↓rsK_ok, ↓xvK_ok, ↓giveK_ok, ↓dcK_ok, ↓dvalK_ok, ↓dkeyK_ok, ↓dstepK_ok, ↓lc2K_ok, ↓innK_ok, ↓inn1K_ok, ↓inn2K_ok, gEq_int, gNe_int, gPow_ii, atI_lit, atI_at, ixN_lit, ixN_at, gAdd_ii, gAdd_ss, gAdd_ll, gAdd_tt, gMinus_ii, gMul_ii, okMul_l, okMul_r, gMul_li, gMod_ii, gDiv_ii, gLt_ii, gLt_ss, gLe_ii, gLe_ss, gGt_ii, gGe_ii, gIxS_own, gIxS_val, gIx_l, gIx_r, gIx_t, gIx_s, seqOf_l, seqOf_r, seqOf_t, seqU_l, seqU_r, seqU_t, seqU_s, gLen_l, gLen_r, gLen_t, gLen_s, unOk_val, unOk_own, unOk_none, toB_bl, slB_bl, isOL_own, isOw_own, isSeen_own, isSeen_val, dt_lst, rg1_int, rg2_int, inRg_of, isNonD, DL.seen, norm, norms, pinL, backsD, backs, lent, arSl, gPos, small, wipeR, gMul2_ii, gMul2_s, gNeg_int, toI_int, en2_l, en2_t, gSl_l, gSl_t, gTupleOf_l, gTupleOf_t, gListOf_l, gListOf_t, zp1_ll, zp1_tt, gT, gC, gN, notIn, gKw, Ar.up, -List.map_map, gDivA_ii, truD_bl, truD_non, truD_int, truD_lst, truD_rol, truD_tup, truD_dct, gS, rc, hb, t0, x0, m1, d1, d2]
end CROWDSAY_K30_SHARES

end
section
set_option Elab.async false
set_option linter.all false
set_option maxRecDepth 100000
set_option maxHeartbeats 4000000
namespace CROWDSAY_K30_SHARES
open PySem PySem.Spec PyProof.Rows L2 DL
theorem r_digit (K : Fg) (n k : Int) (h0 : 0 < k) (h9 : k.natAbs.log2 < 9000) (Q : Po Sl) : Run (m_l_digit K) [.own (.lst [.int n]), .val (.int k)] Q = Q (.ok (.val (.int (n % k)))) [.own (.lst [.int (n / k)]), .val (.int k)] := by
  have k0 : k ≠ 0 := by omega
  have e1 : n.fmod k = n % k := Int.fmod_eq_emod_of_nonneg _ (by omega)
  have d1 : gDivA (.int n) (.int k) = some (.val (.int (n / k))) := by
    rw [gDivA_ii k0 h9, Int.fdiv_eq_ediv_of_nonneg _ (by omega)]
  simp only [m_l_digit, ex_l_digit]
  simp (maxSteps := 4000000) (maxDischargeDepth := 6) [↓run_fMtV, ↓run_fMtVP, ↓run_fKeep, ↓keepK_ok, ↓run_fFmt, ↓run_fFmtD, ↓run_fJoin, ↓run_fJCons, ↓jK_ok, ↓jK_ex, ↓run_fPar, ↓parK_ok, ↓wstepK_nx, ↓wK_true, ↓wK_false, ↓run_fOrU, ↓run_fAndU, ↓run_fNotU, ↓run_fTru, ↓run_orU, ↓run_andU, ↓orK_some, ↓andK_some, ↓run_mP, ↓run_none, ↓run_mB, ↓run_mO, ↓run_vl, ↓run_mU, ↓run_fVar, ↓run_fOp, ↓run_fUn, ↓run_fCons, ↓run_fCB, ↓run_fTup, ↓run_fLst, ↓run_fB, ↓run_fIf, ↓run_fAndT, ↓run_fOrT, ↓run_fNotT, ↓run_fAndV, ↓run_fOrV, ↓run_fNotV, ↓run_fIsN, ↓run_fNotN, ↓run_fChain, ↓run_fSeq, ↓run_fDrop, ↓run_fRet, ↓run_fRetV, ↓run_fSet, ↓run_fAsg, ↓run_fRg, ↓run_fISU, ↓run_fFor, ↓run_fLc, ↓run_fIxV, ↓run_fLenV, ↓run_fReprV, ↓run_fApp, ↓run_gSetL, ↓run_fBVar, ↓run_fBCons, ↓run_callD, ↓run_fCk, ↓run_fCkP, ↓run_mDef, ↓run_fPart, ↓run_fSl, ↓run_fRevL, ↓run_fLM, ↓run_fM1, ↓run_fDGet, ↓run_fDIn, ↓run_fLenSet, ↓run_fFldU, ↓run_fAugL, ↓run_fMk, ↓run_fSFld, ↓run_fXm, ↓run_fRs, ↓run_fXval, ↓run_fGive, ↓run_fDc, ↓run_fLc2, ↓bindK_ok, ↓bindK_ex, ↓optQ_some, ↓optQ_none, ↓upQ_some, ↓upQ_none, ↓vlQ_val, ↓vlQ_own, ↓vlQ_un, ↓vlQ_ex, ↓varQ_val, ↓varQ_own, ↓retQ_val, ↓retQ_own, ↓tupK_ok, ↓tupK_ex, ↓lstK_ok, ↓lstK_ex, ↓ifK_ok, ↓ifK_ex, ↓seqK_nx, ↓seqK_bk, ↓seqK_ct, ↓seqK_rt, ↓seqK_ex, ↓ixK_ok, ↓ixK_ex, ↓lenQ_int, ↓appQ_own, ↓appK_ok, ↓appK_ex, ↓setP_some, ↓setQ_own, ↓setK_ok, ↓barQ_val, ↓barQ_own, ↓ckK2_ok, ↓ckK2_ex, ↓ckK_ok, ↓ckK_ex, ↓ckPK2_ok, ↓ckPK2_ex, ↓ckPK_ok, ↓ckPK_ex, ↓okQ_ok, ↓okQ_ex, ↓backK_eq, ↓dfQ_nx, ↓dfQ_rt, ↓dfQ_ex, ↓forK_ok, ↓forK_ex, ↓fturnK_bk, ↓fturnK_rt, ↓fturnK_nx, ↓fturnK_ct, ↓fturnK_ex, ↓lcK_ok, ↓lcK_ex, ↓lturnK_ok, ↓ltestK_ok, ↓lkeepK_ok, ↓lkeepK_ex, ↓lstepK_ok, ↓lstepK_ex, ↓fstepK_nx, ↓fstepK_ct, ↓fstepK_bk, ↓fstepK_rt, ↓fstepK_ex, ↓bQ_t, ↓bQ_true, ↓bQ_false, ↓ifQ_t, ↓ifQ_f, ↓ifQ_true, ↓ifQ_false, ↓put_eq, ↓revM_l, ↓lmM_l, ↓m1M_s, ↓augK_ok, ↓augQ1_int, ↓augQ2_ok, ↓madeK_ok, ↓madeK_ex, ↓mkK_ok, ↓mkK2_ok, ↓sfQ_some, ↓sfK_ok, ↓xmK_ok, ↓rsK_ok, ↓xvK_ok, ↓giveK_ok, ↓dcK_ok, ↓dvalK_ok, ↓dkeyK_ok, ↓dstepK_ok, ↓lc2K_ok, ↓innK_ok, ↓inn1K_ok, ↓inn2K_ok, gEq_int, gNe_int, gPow_ii, atI_lit, atI_at, ixN_lit, ixN_at, gAdd_ii, gAdd_ss, gAdd_ll, gAdd_tt, gMinus_ii, gMul_ii, okMul_l, okMul_r, gMul_li, gMod_ii, gDiv_ii, gLt_ii, gLt_ss, gLe_ii, gLe_ss, gGt_ii, gGe_ii, gIxS_own, gIxS_val, gIx_l, gIx_r, gIx_t, gIx_s, seqOf_l, seqOf_r, seqOf_t, seqU_l, seqU_r, seqU_t, seqU_s, gLen_l, gLen_r, gLen_t, gLen_s, unOk_val, unOk_own, unOk_none, toB_bl, slB_bl, isOL_own, isOw_own, isSeen_own, isSeen_val, dt_lst, rg1_int, rg2_int, inRg_of, isNonD, DL.seen, norm, norms, pinL, backsD, backs, lent, arSl, gPos, small, wipeR, gMul2_ii, gMul2_s, gNeg_int, toI_int, en2_l, en2_t, gSl_l, gSl_t, gTupleOf_l, gTupleOf_t, gListOf_l, gListOf_t, zp1_ll, zp1_tt, gT, gC, gN, notIn, gKw, Ar.up, -List.map_map, gDivA_ii, truD_bl, truD_non, truD_int, truD_lst, truD_rol, truD_tup, truD_dct, gS, k0, h0, d1, e1]
theorem r_cell (K : Fg) (ns : List Int) (k : Nat) (Q : Po Sl) : Run (m_l_cell_at K) [.val (.rol (ns.map Dt.int)), .val (.int k)] Q = Q (.ok (.val (.int (ns.getD k 0)))) [.val (.rol (ns.map Dt.int)), .val (.int k)] := by
  simp only [m_l_cell_at, ex_l_cell_at]
  by_cases h : k < ns.length
  · simp (maxSteps := 4000000) (maxDischargeDepth := 6) [↓run_fMtV, ↓run_fMtVP, ↓run_fKeep, ↓keepK_ok, ↓run_fFmt, ↓run_fFmtD, ↓run_fJoin, ↓run_fJCons, ↓jK_ok, ↓jK_ex, ↓run_fPar, ↓parK_ok, ↓wstepK_nx, ↓wK_true, ↓wK_false, ↓run_fOrU, ↓run_fAndU, ↓run_fNotU, ↓run_fTru, ↓run_orU, ↓run_andU, ↓orK_some, ↓andK_some, ↓run_mP, ↓run_none, ↓run_mB, ↓run_mO, ↓run_vl, ↓run_mU, ↓run_fVar, ↓run_fOp, ↓run_fUn, ↓run_fCons, ↓run_fCB, ↓run_fTup, ↓run_fLst, ↓run_fB, ↓run_fIf, ↓run_fAndT, ↓run_fOrT, ↓run_fNotT, ↓run_fAndV, ↓run_fOrV, ↓run_fNotV, ↓run_fIsN, ↓run_fNotN, ↓run_fChain, ↓run_fSeq, ↓run_fDrop, ↓run_fRet, ↓run_fRetV, ↓run_fSet, ↓run_fAsg, ↓run_fRg, ↓run_fISU, ↓run_fFor, ↓run_fLc, ↓run_fIxV, ↓run_fLenV, ↓run_fReprV, ↓run_fApp, ↓run_gSetL, ↓run_fBVar, ↓run_fBCons, ↓run_callD, ↓run_fCk, ↓run_fCkP, ↓run_mDef, ↓run_fPart, ↓run_fSl, ↓run_fRevL, ↓run_fLM, ↓run_fM1, ↓run_fDGet, ↓run_fDIn, ↓run_fLenSet, ↓run_fFldU, ↓run_fAugL, ↓run_fMk, ↓run_fSFld, ↓run_fXm, ↓run_fRs, ↓run_fXval, ↓run_fGive, ↓run_fDc, ↓run_fLc2, ↓bindK_ok, ↓bindK_ex, ↓optQ_some, ↓optQ_none, ↓upQ_some, ↓upQ_none, ↓vlQ_val, ↓vlQ_own, ↓vlQ_un, ↓vlQ_ex, ↓varQ_val, ↓varQ_own, ↓retQ_val, ↓retQ_own, ↓tupK_ok, ↓tupK_ex, ↓lstK_ok, ↓lstK_ex, ↓ifK_ok, ↓ifK_ex, ↓seqK_nx, ↓seqK_bk, ↓seqK_ct, ↓seqK_rt, ↓seqK_ex, ↓ixK_ok, ↓ixK_ex, ↓lenQ_int, ↓appQ_own, ↓appK_ok, ↓appK_ex, ↓setP_some, ↓setQ_own, ↓setK_ok, ↓barQ_val, ↓barQ_own, ↓ckK2_ok, ↓ckK2_ex, ↓ckK_ok, ↓ckK_ex, ↓ckPK2_ok, ↓ckPK2_ex, ↓ckPK_ok, ↓ckPK_ex, ↓okQ_ok, ↓okQ_ex, ↓backK_eq, ↓dfQ_nx, ↓dfQ_rt, ↓dfQ_ex, ↓forK_ok, ↓forK_ex, ↓fturnK_bk, ↓fturnK_rt, ↓fturnK_nx, ↓fturnK_ct, ↓fturnK_ex, ↓lcK_ok, ↓lcK_ex, ↓lturnK_ok, ↓ltestK_ok, ↓lkeepK_ok, ↓lkeepK_ex, ↓lstepK_ok, ↓lstepK_ex, ↓fstepK_nx, ↓fstepK_ct, ↓fstepK_bk, ↓fstepK_rt, ↓fstepK_ex, ↓bQ_t, ↓bQ_true, ↓bQ_false, ↓ifQ_t, ↓ifQ_f, ↓ifQ_true, ↓ifQ_false, ↓put_eq, ↓revM_l, ↓lmM_l, ↓m1M_s, ↓augK_ok, ↓augQ1_int, ↓augQ2_ok, ↓madeK_ok, ↓madeK_ex, ↓mkK_ok, ↓mkK2_ok, ↓sfQ_some, ↓sfK_ok, ↓xmK_ok, ↓rsK_ok, ↓xvK_ok, ↓giveK_ok, ↓dcK_ok, ↓dvalK_ok, ↓dkeyK_ok, ↓dstepK_ok, ↓lc2K_ok, ↓innK_ok, ↓inn1K_ok, ↓inn2K_ok, gEq_int, gNe_int, gPow_ii, atI_lit, atI_at, ixN_lit, ixN_at, gAdd_ii, gAdd_ss, gAdd_ll, gAdd_tt, gMinus_ii, gMul_ii, okMul_l, okMul_r, gMul_li, gMod_ii, gDiv_ii, gLt_ii, gLt_ss, gLe_ii, gLe_ss, gGt_ii, gGe_ii, gIxS_own, gIxS_val, gIx_l, gIx_r, gIx_t, gIx_s, seqOf_l, seqOf_r, seqOf_t, seqU_l, seqU_r, seqU_t, seqU_s, gLen_l, gLen_r, gLen_t, gLen_s, unOk_val, unOk_own, unOk_none, toB_bl, slB_bl, isOL_own, isOw_own, isSeen_own, isSeen_val, dt_lst, rg1_int, rg2_int, inRg_of, isNonD, DL.seen, norm, norms, pinL, backsD, backs, lent, arSl, gPos, small, wipeR, gMul2_ii, gMul2_s, gNeg_int, toI_int, en2_l, en2_t, gSl_l, gSl_t, gTupleOf_l, gTupleOf_t, gListOf_l, gListOf_t, zp1_ll, zp1_tt, gT, gC, gN, notIn, gKw, Ar.up, -List.map_map, gDivA_ii, truD_bl, truD_non, truD_int, truD_lst, truD_rol, truD_tup, truD_dct, gS, h]
  · simp (maxSteps := 4000000) (maxDischargeDepth := 6) [↓run_fMtV, ↓run_fMtVP, ↓run_fKeep, ↓keepK_ok, ↓run_fFmt, ↓run_fFmtD, ↓run_fJoin, ↓run_fJCons, ↓jK_ok, ↓jK_ex, ↓run_fPar, ↓parK_ok, ↓wstepK_nx, ↓wK_true, ↓wK_false, ↓run_fOrU, ↓run_fAndU, ↓run_fNotU, ↓run_fTru, ↓run_orU, ↓run_andU, ↓orK_some, ↓andK_some, ↓run_mP, ↓run_none, ↓run_mB, ↓run_mO, ↓run_vl, ↓run_mU, ↓run_fVar, ↓run_fOp, ↓run_fUn, ↓run_fCons, ↓run_fCB, ↓run_fTup, ↓run_fLst, ↓run_fB, ↓run_fIf, ↓run_fAndT, ↓run_fOrT, ↓run_fNotT, ↓run_fAndV, ↓run_fOrV, ↓run_fNotV, ↓run_fIsN, ↓run_fNotN, ↓run_fChain, ↓run_fSeq, ↓run_fDrop, ↓run_fRet, ↓run_fRetV, ↓run_fSet, ↓run_fAsg, ↓run_fRg, ↓run_fISU, ↓run_fFor, ↓run_fLc, ↓run_fIxV, ↓run_fLenV, ↓run_fReprV, ↓run_fApp, ↓run_gSetL, ↓run_fBVar, ↓run_fBCons, ↓run_callD, ↓run_fCk, ↓run_fCkP, ↓run_mDef, ↓run_fPart, ↓run_fSl, ↓run_fRevL, ↓run_fLM, ↓run_fM1, ↓run_fDGet, ↓run_fDIn, ↓run_fLenSet, ↓run_fFldU, ↓run_fAugL, ↓run_fMk, ↓run_fSFld, ↓run_fXm, ↓run_fRs, ↓run_fXval, ↓run_fGive, ↓run_fDc, ↓run_fLc2, ↓bindK_ok, ↓bindK_ex, ↓optQ_some, ↓optQ_none, ↓upQ_some, ↓upQ_none, ↓vlQ_val, ↓vlQ_own, ↓vlQ_un, ↓vlQ_ex, ↓varQ_val, ↓varQ_own, ↓retQ_val, ↓retQ_own, ↓tupK_ok, ↓tupK_ex, ↓lstK_ok, ↓lstK_ex, ↓ifK_ok, ↓ifK_ex, ↓seqK_nx, ↓seqK_bk, ↓seqK_ct, ↓seqK_rt, ↓seqK_ex, ↓ixK_ok, ↓ixK_ex, ↓lenQ_int, ↓appQ_own, ↓appK_ok, ↓appK_ex, ↓setP_some, ↓setQ_own, ↓setK_ok, ↓barQ_val, ↓barQ_own, ↓ckK2_ok, ↓ckK2_ex, ↓ckK_ok, ↓ckK_ex, ↓ckPK2_ok, ↓ckPK2_ex, ↓ckPK_ok, ↓ckPK_ex, ↓okQ_ok, ↓okQ_ex, ↓backK_eq, ↓dfQ_nx, ↓dfQ_rt, ↓dfQ_ex, ↓forK_ok, ↓forK_ex, ↓fturnK_bk, ↓fturnK_rt, ↓fturnK_nx, ↓fturnK_ct, ↓fturnK_ex, ↓lcK_ok, ↓lcK_ex, ↓lturnK_ok, ↓ltestK_ok, ↓lkeepK_ok, ↓lkeepK_ex, ↓lstepK_ok, ↓lstepK_ex, ↓fstepK_nx, ↓fstepK_ct, ↓fstepK_bk, ↓fstepK_rt, ↓fstepK_ex, ↓bQ_t, ↓bQ_true, ↓bQ_false, ↓ifQ_t, ↓ifQ_f, ↓ifQ_true, ↓ifQ_false, ↓put_eq, ↓revM_l, ↓lmM_l, ↓m1M_s, ↓augK_ok, ↓augQ1_int, ↓augQ2_ok, ↓madeK_ok, ↓madeK_ex, ↓mkK_ok, ↓mkK2_ok, ↓sfQ_some, ↓sfK_ok, ↓xmK_ok, ↓rsK_ok, ↓xvK_ok, ↓giveK_ok, ↓dcK_ok, ↓dvalK_ok, ↓dkeyK_ok, ↓dstepK_ok, ↓lc2K_ok, ↓innK_ok, ↓inn1K_ok, ↓inn2K_ok, gEq_int, gNe_int, gPow_ii, atI_lit, atI_at, ixN_lit, ixN_at, gAdd_ii, gAdd_ss, gAdd_ll, gAdd_tt, gMinus_ii, gMul_ii, okMul_l, okMul_r, gMul_li, gMod_ii, gDiv_ii, gLt_ii, gLt_ss, gLe_ii, gLe_ss, gGt_ii, gGe_ii, gIxS_own, gIxS_val, gIx_l, gIx_r, gIx_t, gIx_s, seqOf_l, seqOf_r, seqOf_t, seqU_l, seqU_r, seqU_t, seqU_s, gLen_l, gLen_r, gLen_t, gLen_s, unOk_val, unOk_own, unOk_none, toB_bl, slB_bl, isOL_own, isOw_own, isSeen_own, isSeen_val, dt_lst, rg1_int, rg2_int, inRg_of, isNonD, DL.seen, norm, norms, pinL, backsD, backs, lent, arSl, gPos, small, wipeR, gMul2_ii, gMul2_s, gNeg_int, toI_int, en2_l, en2_t, gSl_l, gSl_t, gTupleOf_l, gTupleOf_t, gListOf_l, gListOf_t, zp1_ll, zp1_tt, gT, gC, gN, notIn, gKw, Ar.up, -List.map_map, gDivA_ii, truD_bl, truD_non, truD_int, truD_lst, truD_rol, truD_tup, truD_dct, gS, h]
/-- between the turns of a tape's making -/
def J_tape (S : Dt) (k : Nat) (c : Int) (ρ : List Sl) : Prop := ∃ one found x, 0 ≤ one ∧ one < 2305843009213693951 ∧ ρ = [.val S, .val (.int k), .val (.int c), .val (.int 2305843009213693951), .val (.int one), .val (.int found), x]
theorem r_tape (K : Fg) (ns : List Int) (k : Nat) : Run (m_l_tape K) [.val (.rol (ns.map Dt.int)), .val (.int k)] (fun r ρ => ∃ n, r = .ok (.own (.lst [.int n])) ∧ ρ = [.val (.rol (ns.map Dt.int)), .val (.int k)]) := by
  simp only [m_l_tape, ex_l_tape]
  obtain ⟨c, hc⟩ : ∃ c, ns[k]?.getD 0 = c := ⟨_, rfl⟩
  by_cases h0 : c = 0
  · simp (maxSteps := 4000000) (maxDischargeDepth := 6) [↓run_fMtV, ↓run_fMtVP, ↓run_fKeep, ↓keepK_ok, ↓run_fFmt, ↓run_fFmtD, ↓run_fJoin, ↓run_fJCons, ↓jK_ok, ↓jK_ex, ↓run_fPar, ↓parK_ok, ↓wstepK_nx, ↓wK_true, ↓wK_false, ↓run_fOrU, ↓run_fAndU, ↓run_fNotU, ↓run_fTru, ↓run_orU, ↓run_andU, ↓orK_some, ↓andK_some, ↓run_mP, ↓run_none, ↓run_mB, ↓run_mO, ↓run_vl, ↓run_mU, ↓run_fVar, ↓run_fOp, ↓run_fUn, ↓run_fCons, ↓run_fCB, ↓run_fTup, ↓run_fLst, ↓run_fB, ↓run_fIf, ↓run_fAndT, ↓run_fOrT, ↓run_fNotT, ↓run_fAndV, ↓run_fOrV, ↓run_fNotV, ↓run_fIsN, ↓run_fNotN, ↓run_fChain, ↓run_fSeq, ↓run_fDrop, ↓run_fRet, ↓run_fRetV, ↓run_fSet, ↓run_fAsg, ↓run_fRg, ↓run_fISU, ↓run_fFor, ↓run_fLc, ↓run_fIxV, ↓run_fLenV, ↓run_fReprV, ↓run_fApp, ↓run_gSetL, ↓run_fBVar, ↓run_fBCons, ↓run_callD, ↓run_fCk, ↓run_fCkP, ↓run_mDef, ↓run_fPart, ↓run_fSl, ↓run_fRevL, ↓run_fLM, ↓run_fM1, ↓run_fDGet, ↓run_fDIn, ↓run_fLenSet, ↓run_fFldU, ↓run_fAugL, ↓run_fMk, ↓run_fSFld, ↓run_fXm, ↓run_fRs, ↓run_fXval, ↓run_fGive, ↓run_fDc, ↓run_fLc2, ↓bindK_ok, ↓bindK_ex, ↓optQ_some, ↓optQ_none, ↓upQ_some, ↓upQ_none, ↓vlQ_val, ↓vlQ_own, ↓vlQ_un, ↓vlQ_ex, ↓varQ_val, ↓varQ_own, ↓retQ_val, ↓retQ_own, ↓tupK_ok, ↓tupK_ex, ↓lstK_ok, ↓lstK_ex, ↓ifK_ok, ↓ifK_ex, ↓seqK_nx, ↓seqK_bk, ↓seqK_ct, ↓seqK_rt, ↓seqK_ex, ↓ixK_ok, ↓ixK_ex, ↓lenQ_int, ↓appQ_own, ↓appK_ok, ↓appK_ex, ↓setP_some, ↓setQ_own, ↓setK_ok, ↓barQ_val, ↓barQ_own, ↓ckK2_ok, ↓ckK2_ex, ↓ckK_ok, ↓ckK_ex, ↓ckPK2_ok, ↓ckPK2_ex, ↓ckPK_ok, ↓ckPK_ex, ↓okQ_ok, ↓okQ_ex, ↓backK_eq, ↓dfQ_nx, ↓dfQ_rt, ↓dfQ_ex, ↓forK_ok, ↓forK_ex, ↓fturnK_bk, ↓fturnK_rt, ↓fturnK_nx, ↓fturnK_ct, ↓fturnK_ex, ↓lcK_ok, ↓lcK_ex, ↓lturnK_ok, ↓ltestK_ok, ↓lkeepK_ok, ↓lkeepK_ex, ↓lstepK_ok, ↓lstepK_ex, ↓fstepK_nx, ↓fstepK_ct, ↓fstepK_bk, ↓fstepK_rt, ↓fstepK_ex, ↓bQ_t, ↓bQ_true, ↓bQ_false, ↓ifQ_t, ↓ifQ_f, ↓ifQ_true, ↓ifQ_false, ↓put_eq, ↓revM_l, ↓lmM_l, ↓m1M_s, ↓augK_ok, ↓augQ1_int, ↓augQ2_ok, ↓madeK_ok, ↓madeK_ex, ↓mkK_ok, ↓mkK2_ok, ↓sfQ_some, ↓sfK_ok, ↓xmK_ok, ↓rsK_ok, ↓xvK_ok, ↓giveK_ok, ↓dcK_ok, ↓dvalK_ok, ↓dkeyK_ok, ↓dstepK_ok, ↓lc2K_ok, ↓innK_ok, ↓inn1K_ok, ↓inn2K_ok, gEq_int, gNe_int, gPow_ii, atI_lit, atI_at, ixN_lit, ixN_at, gAdd_ii, gAdd_ss, gAdd_ll, gAdd_tt, gMinus_ii, gMul_ii, okMul_l, okMul_r, gMul_li, gMod_ii, gDiv_ii, gLt_ii, gLt_ss, gLe_ii, gLe_ss, gGt_ii, gGe_ii, gIxS_own, gIxS_val, gIx_l, gIx_r, gIx_t, gIx_s, seqOf_l, seqOf_r, seqOf_t, seqU_l, seqU_r, seqU_t, seqU_s, gLen_l, gLen_r, gLen_t, gLen_s, unOk_val, unOk_own, unOk_none, toB_bl, slB_bl, isOL_own, isOw_own, isSeen_own, isSeen_val, dt_lst, rg1_int, rg2_int, inRg_of, isNonD, DL.seen, norm, norms, pinL, backsD, backs, lent, arSl, gPos, small, wipeR, gMul2_ii, gMul2_s, gNeg_int, toI_int, en2_l, en2_t, gSl_l, gSl_t, gTupleOf_l, gTupleOf_t, gListOf_l, gListOf_t, zp1_ll, zp1_tt, gT, gC, gN, notIn, gKw, Ar.up, -List.map_map, gDivA_ii, truD_bl, truD_non, truD_int, truD_lst, truD_rol, truD_tup, truD_dct, gS, r_cell, hc, h0]
  by_cases h1 : c ≥ 1000000000000000000
  · simp (maxSteps := 4000000) (maxDischargeDepth := 6) [↓run_fMtV, ↓run_fMtVP, ↓run_fKeep, ↓keepK_ok, ↓run_fFmt, ↓run_fFmtD, ↓run_fJoin, ↓run_fJCons, ↓jK_ok, ↓jK_ex, ↓run_fPar, ↓parK_ok, ↓wstepK_nx, ↓wK_true, ↓wK_false, ↓run_fOrU, ↓run_fAndU, ↓run_fNotU, ↓run_fTru, ↓run_orU, ↓run_andU, ↓orK_some, ↓andK_some, ↓run_mP, ↓run_none, ↓run_mB, ↓run_mO, ↓run_vl, ↓run_mU, ↓run_fVar, ↓run_fOp, ↓run_fUn, ↓run_fCons, ↓run_fCB, ↓run_fTup, ↓run_fLst, ↓run_fB, ↓run_fIf, ↓run_fAndT, ↓run_fOrT, ↓run_fNotT, ↓run_fAndV, ↓run_fOrV, ↓run_fNotV, ↓run_fIsN, ↓run_fNotN, ↓run_fChain, ↓run_fSeq, ↓run_fDrop, ↓run_fRet, ↓run_fRetV, ↓run_fSet, ↓run_fAsg, ↓run_fRg, ↓run_fISU, ↓run_fFor, ↓run_fLc, ↓run_fIxV, ↓run_fLenV, ↓run_fReprV, ↓run_fApp, ↓run_gSetL, ↓run_fBVar, ↓run_fBCons, ↓run_callD, ↓run_fCk, ↓run_fCkP, ↓run_mDef, ↓run_fPart, ↓run_fSl, ↓run_fRevL, ↓run_fLM, ↓run_fM1, ↓run_fDGet, ↓run_fDIn, ↓run_fLenSet, ↓run_fFldU, ↓run_fAugL, ↓run_fMk, ↓run_fSFld, ↓run_fXm, ↓run_fRs, ↓run_fXval, ↓run_fGive, ↓run_fDc, ↓run_fLc2, ↓bindK_ok, ↓bindK_ex, ↓optQ_some, ↓optQ_none, ↓upQ_some, ↓upQ_none, ↓vlQ_val, ↓vlQ_own, ↓vlQ_un, ↓vlQ_ex, ↓varQ_val, ↓varQ_own, ↓retQ_val, ↓retQ_own, ↓tupK_ok, ↓tupK_ex, ↓lstK_ok, ↓lstK_ex, ↓ifK_ok, ↓ifK_ex, ↓seqK_nx, ↓seqK_bk, ↓seqK_ct, ↓seqK_rt, ↓seqK_ex, ↓ixK_ok, ↓ixK_ex, ↓lenQ_int, ↓appQ_own, ↓appK_ok, ↓appK_ex, ↓setP_some, ↓setQ_own, ↓setK_ok, ↓barQ_val, ↓barQ_own, ↓ckK2_ok, ↓ckK2_ex, ↓ckK_ok, ↓ckK_ex, ↓ckPK2_ok, ↓ckPK2_ex, ↓ckPK_ok, ↓ckPK_ex, ↓okQ_ok, ↓okQ_ex, ↓backK_eq, ↓dfQ_nx, ↓dfQ_rt, ↓dfQ_ex, ↓forK_ok, ↓forK_ex, ↓fturnK_bk, ↓fturnK_rt, ↓fturnK_nx, ↓fturnK_ct, ↓fturnK_ex, ↓lcK_ok, ↓lcK_ex, ↓lturnK_ok, ↓ltestK_ok, ↓lkeepK_ok, ↓lkeepK_ex, ↓lstepK_ok, ↓lstepK_ex, ↓fstepK_nx, ↓fstepK_ct, ↓fstepK_bk, ↓fstepK_rt, ↓fstepK_ex, ↓bQ_t, ↓bQ_true, ↓bQ_false, ↓ifQ_t, ↓ifQ_f, ↓ifQ_true, ↓ifQ_false, ↓put_eq, ↓revM_l, ↓lmM_l, ↓m1M_s, ↓augK_ok, ↓augQ1_int, ↓augQ2_ok, ↓madeK_ok, ↓madeK_ex, ↓mkK_ok, ↓mkK2_ok, ↓sfQ_some, ↓sfK_ok, ↓xmK_ok, ↓rsK_ok, ↓xvK_ok, ↓giveK_ok, ↓dcK_ok, ↓dvalK_ok, ↓dkeyK_ok, ↓dstepK_ok, ↓lc2K_ok, ↓innK_ok, ↓inn1K_ok, ↓inn2K_ok, gEq_int, gNe_int, gPow_ii, atI_lit, atI_at, ixN_lit, ixN_at, gAdd_ii, gAdd_ss, gAdd_ll, gAdd_tt, gMinus_ii, gMul_ii, okMul_l, okMul_r, gMul_li, gMod_ii, gDiv_ii, gLt_ii, gLt_ss, gLe_ii, gLe_ss, gGt_ii, gGe_ii, gIxS_own, gIxS_val, gIx_l, gIx_r, gIx_t, gIx_s, seqOf_l, seqOf_r, seqOf_t, seqU_l, seqU_r, seqU_t, seqU_s, gLen_l, gLen_r, gLen_t, gLen_s, unOk_val, unOk_own, unOk_none, toB_bl, slB_bl, isOL_own, isOw_own, isSeen_own, isSeen_val, dt_lst, rg1_int, rg2_int, inRg_of, isNonD, DL.seen, norm, norms, pinL, backsD, backs, lent, arSl, gPos, small, wipeR, gMul2_ii, gMul2_s, gNeg_int, toI_int, en2_l, en2_t, gSl_l, gSl_t, gTupleOf_l, gTupleOf_t, gListOf_l, gListOf_t, zp1_ll, zp1_tt, gT, gC, gN, notIn, gKw, Ar.up, -List.map_map, gDivA_ii, truD_bl, truD_non, truD_int, truD_lst, truD_rol, truD_tup, truD_dct, gS, r_cell, hc, h0, h1]
  simp (maxSteps := 4000000) (maxDischargeDepth := 6) [↓run_fMtV, ↓run_fMtVP, ↓run_fKeep, ↓keepK_ok, ↓run_fFmt, ↓run_fFmtD, ↓run_fJoin, ↓run_fJCons, ↓jK_ok, ↓jK_ex, ↓run_fPar, ↓parK_ok, ↓wstepK_nx, ↓wK_true, ↓wK_false, ↓run_fOrU, ↓run_fAndU, ↓run_fNotU, ↓run_fTru, ↓run_orU, ↓run_andU, ↓orK_some, ↓andK_some, ↓run_mP, ↓run_none, ↓run_mB, ↓run_mO, ↓run_vl, ↓run_mU, ↓run_fVar, ↓run_fOp, ↓run_fUn, ↓run_fCons, ↓run_fCB, ↓run_fTup, ↓run_fLst, ↓run_fB, ↓run_fIf, ↓run_fAndT, ↓run_fOrT, ↓run_fNotT, ↓run_fAndV, ↓run_fOrV, ↓run_fNotV, ↓run_fIsN, ↓run_fNotN, ↓run_fChain, ↓run_fSeq, ↓run_fDrop, ↓run_fRet, ↓run_fRetV, ↓run_fSet, ↓run_fAsg, ↓run_fRg, ↓run_fISU, ↓run_fFor, ↓run_fLc, ↓run_fIxV, ↓run_fLenV, ↓run_fReprV, ↓run_fApp, ↓run_gSetL, ↓run_fBVar, ↓run_fBCons, ↓run_callD, ↓run_fCk, ↓run_fCkP, ↓run_mDef, ↓run_fPart, ↓run_fSl, ↓run_fRevL, ↓run_fLM, ↓run_fM1, ↓run_fDGet, ↓run_fDIn, ↓run_fLenSet, ↓run_fFldU, ↓run_fAugL, ↓run_fMk, ↓run_fSFld, ↓run_fXm, ↓run_fRs, ↓run_fXval, ↓run_fGive, ↓run_fDc, ↓run_fLc2, ↓bindK_ok, ↓bindK_ex, ↓optQ_some, ↓optQ_none, ↓upQ_some, ↓upQ_none, ↓vlQ_val, ↓vlQ_own, ↓vlQ_un, ↓vlQ_ex, ↓varQ_val, ↓varQ_own, ↓retQ_val, ↓retQ_own, ↓tupK_ok, ↓tupK_ex, ↓lstK_ok, ↓lstK_ex, ↓ifK_ok, ↓ifK_ex, ↓seqK_nx, ↓seqK_bk, ↓seqK_ct, ↓seqK_rt, ↓seqK_ex, ↓ixK_ok, ↓ixK_ex, ↓lenQ_int, ↓appQ_own, ↓appK_ok, ↓appK_ex, ↓setP_some, ↓setQ_own, ↓setK_ok, ↓barQ_val, ↓barQ_own, ↓ckK2_ok, ↓ckK2_ex, ↓ckK_ok, ↓ckK_ex, ↓ckPK2_ok, ↓ckPK2_ex, ↓ckPK_ok, ↓ckPK_ex, ↓okQ_ok, ↓okQ_ex, ↓backK_eq, ↓dfQ_nx, ↓dfQ_rt, ↓dfQ_ex, ↓forK_ok, ↓forK_ex, ↓fturnK_bk, ↓fturnK_rt, ↓fturnK_nx, ↓fturnK_ct, ↓fturnK_ex, ↓lcK_ok, ↓lcK_ex, ↓lturnK_ok, ↓ltestK_ok, ↓lkeepK_ok, ↓lkeepK_ex, ↓lstepK_ok, ↓lstepK_ex, ↓fstepK_nx, ↓fstepK_ct, ↓fstepK_bk, ↓fstepK_rt, ↓fstepK_ex, ↓bQ_t, ↓bQ_true, ↓bQ_false, ↓ifQ_t, ↓ifQ_f, ↓ifQ_true, ↓ifQ_false, ↓put_eq, ↓revM_l, ↓lmM_l, ↓m1M_s, ↓augK_ok, ↓augQ1_int, ↓augQ2_ok, ↓madeK_ok, ↓madeK_ex, ↓mkK_ok, ↓mkK2_ok, ↓sfQ_some, ↓sfK_ok, ↓xmK_ok, ↓rsK_ok, ↓xvK_ok, ↓giveK_ok, ↓dcK_ok, ↓dvalK_ok, ↓dkeyK_ok, ↓dstepK_ok, ↓lc2K_ok, ↓innK_ok, ↓inn1K_ok, ↓inn2K_ok, gEq_int, gNe_int, gPow_ii, atI_lit, atI_at, ixN_lit, ixN_at, gAdd_ii, gAdd_ss, gAdd_ll, gAdd_tt, gMinus_ii, gMul_ii, okMul_l, okMul_r, gMul_li, gMod_ii, gDiv_ii, gLt_ii, gLt_ss, gLe_ii, gLe_ss, gGt_ii, gGe_ii, gIxS_own, gIxS_val, gIx_l, gIx_r, gIx_t, gIx_s, seqOf_l, seqOf_r, seqOf_t, seqU_l, seqU_r, seqU_t, seqU_s, gLen_l, gLen_r, gLen_t, gLen_s, unOk_val, unOk_own, unOk_none, toB_bl, slB_bl, isOL_own, isOw_own, isSeen_own, isSeen_val, dt_lst, rg1_int, rg2_int, inRg_of, isNonD, DL.seen, norm, norms, pinL, backsD, backs, lent, arSl, gPos, small, wipeR, gMul2_ii, gMul2_s, gNeg_int, toI_int, en2_l, en2_t, gSl_l, gSl_t, gTupleOf_l, gTupleOf_t, gListOf_l, gListOf_t, zp1_ll, zp1_tt, gT, gC, gN, notIn, gKw, Ar.up, -List.map_map, gDivA_ii, truD_bl, truD_non, truD_int, truD_lst, truD_rol, truD_tup, truD_dct, gS, r_cell, hc, h0, h1, inRg]
  refine run_for (fun _ => J_tape (.rol (ns.map Dt.int)) k c) ?_ ?_ ?_
  · have := fmod_bd (c * 48271 + 40692 * ↑k + 31) 2305843009213693951 (by omega)
    exact ⟨_, _, _, this.1, this.2, rfl⟩
  · rintro j d ρ hd ⟨one, found, x, h2, h3, rfl⟩
    obtain ⟨hj, rfl⟩ := rangeD_get hd
    have a1 : -18446744073709551616 < one := by omega
    have a2 : one < 18446744073709551616 := by omega
    have a3 : -18446744073709551616 < 69621 * ((j : Int) + 1) := by omega
    have a4 : 69621 * ((j : Int) + 1) < 18446744073709551616 := by omega
    simp (maxSteps := 4000000) (maxDischargeDepth := 6) [↓run_fMtV, ↓run_fMtVP, ↓run_fKeep, ↓keepK_ok, ↓run_fFmt, ↓run_fFmtD, ↓run_fJoin, ↓run_fJCons, ↓jK_ok, ↓jK_ex, ↓run_fPar, ↓parK_ok, ↓wstepK_nx, ↓wK_true, ↓wK_false, ↓run_fOrU, ↓run_fAndU, ↓run_fNotU, ↓run_fTru, ↓run_orU, ↓run_andU, ↓orK_some, ↓andK_some, ↓run_mP, ↓run_none, ↓run_mB, ↓run_mO, ↓run_vl, ↓run_mU, ↓run_fVar, ↓run_fOp, ↓run_fUn, ↓run_fCons, ↓run_fCB, ↓run_fTup, ↓run_fLst, ↓run_fB, ↓run_fIf, ↓run_fAndT, ↓run_fOrT, ↓run_fNotT, ↓run_fAndV, ↓run_fOrV, ↓run_fNotV, ↓run_fIsN, ↓run_fNotN, ↓run_fChain, ↓run_fSeq, ↓run_fDrop, ↓run_fRet, ↓run_fRetV, ↓run_fSet, ↓run_fAsg, ↓run_fRg, ↓run_fISU, ↓run_fFor, ↓run_fLc, ↓run_fIxV, ↓run_fLenV, ↓run_fReprV, ↓run_fApp, ↓run_gSetL, ↓run_fBVar, ↓run_fBCons, ↓run_callD, ↓run_fCk, ↓run_fCkP, ↓run_mDef, ↓run_fPart, ↓run_fSl, ↓run_fRevL, ↓run_fLM, ↓run_fM1, ↓run_fDGet, ↓run_fDIn, ↓run_fLenSet, ↓run_fFldU, ↓run_fAugL, ↓run_fMk, ↓run_fSFld, ↓run_fXm, ↓run_fRs, ↓run_fXval, ↓run_fGive, ↓run_fDc, ↓run_fLc2, ↓bindK_ok, ↓bindK_ex, ↓optQ_some, ↓optQ_none, ↓upQ_some, ↓upQ_none, ↓vlQ_val, ↓vlQ_own, ↓vlQ_un, ↓vlQ_ex, ↓varQ_val, ↓varQ_own, ↓retQ_val, ↓retQ_own, ↓tupK_ok, ↓tupK_ex, ↓lstK_ok, ↓lstK_ex, ↓ifK_ok, ↓ifK_ex, ↓seqK_nx, ↓seqK_bk, ↓seqK_ct, ↓seqK_rt, ↓seqK_ex, ↓ixK_ok, ↓ixK_ex, ↓lenQ_int, ↓appQ_own, ↓appK_ok, ↓appK_ex, ↓setP_some, ↓setQ_own, ↓setK_ok, ↓barQ_val, ↓barQ_own, ↓ckK2_ok, ↓ckK2_ex, ↓ckK_ok, ↓ckK_ex, ↓ckPK2_ok, ↓ckPK2_ex, ↓ckPK_ok, ↓ckPK_ex, ↓okQ_ok, ↓okQ_ex, ↓backK_eq, ↓dfQ_nx, ↓dfQ_rt, ↓dfQ_ex, ↓forK_ok, ↓forK_ex, ↓fturnK_bk, ↓fturnK_rt, ↓fturnK_nx, ↓fturnK_ct, ↓fturnK_ex, ↓lcK_ok, ↓lcK_ex, ↓lturnK_ok, ↓ltestK_ok, ↓lkeepK_ok, ↓lkeepK_ex, ↓lstepK_ok, ↓lstepK_ex, ↓fstepK_nx, ↓fstepK_ct, ↓fstepK_bk, ↓fstepK_rt, ↓fstepK_ex, ↓bQ_t, ↓bQ_true, ↓bQ_false, ↓ifQ_t, ↓ifQ_f, ↓ifQ_true, ↓ifQ_false, ↓put_eq, ↓revM_l, ↓lmM_l, ↓m1M_s, ↓augK_ok, ↓augQ1_int, ↓augQ2_ok, ↓madeK_ok, ↓madeK_ex, ↓mkK_ok, ↓mkK2_ok, ↓sfQ_some, ↓sfK_ok, ↓xmK_ok, ↓rsK_ok, ↓xvK_ok, ↓giveK_ok, ↓dcK_ok, ↓dvalK_ok, ↓dkeyK_ok, ↓dstepK_ok, ↓lc2K_ok, ↓innK_ok, ↓inn1K_ok, ↓inn2K_ok, gEq_int, gNe_int, gPow_ii, atI_lit, atI_at, ixN_lit, ixN_at, gAdd_ii, gAdd_ss, gAdd_ll, gAdd_tt, gMinus_ii, gMul_ii, okMul_l, okMul_r, gMul_li, gMod_ii, gDiv_ii, gLt_ii, gLt_ss, gLe_ii, gLe_ss, gGt_ii, gGe_ii, gIxS_own, gIxS_val, gIx_l, gIx_r, gIx_t, gIx_s, seqOf_l, seqOf_r, seqOf_t, seqU_l, seqU_r, seqU_t, seqU_s, gLen_l, gLen_r, gLen_t, gLen_s, unOk_val, unOk_own, unOk_none, toB_bl, slB_bl, isOL_own, isOw_own, isSeen_own, isSeen_val, dt_lst, rg1_int, rg2_int, inRg_of, isNonD, DL.seen, norm, norms, pinL, backsD, backs, lent, arSl, gPos, small, wipeR, gMul2_ii, gMul2_s, gNeg_int, toI_int, en2_l, en2_t, gSl_l, gSl_t, gTupleOf_l, gTupleOf_t, gListOf_l, gListOf_t, zp1_ll, zp1_tt, gT, gC, gN, notIn, gKw, Ar.up, -List.map_map, gDivA_ii, truD_bl, truD_non, truD_int, truD_lst, truD_rol, truD_tup, truD_dct, gS, a1, a2, a3, a4]
    exact ⟨_, _, _, (fmod_bd _ _ (by omega)).1, (fmod_bd _ _ (by omega)).2, rfl⟩
  · rintro ρ ⟨one, found, x, h2, h3, rfl⟩
    simp (maxSteps := 4000000) (maxDischargeDepth := 6) [↓run_fMtV, ↓run_fMtVP, ↓run_fKeep, ↓keepK_ok, ↓run_fFmt, ↓run_fFmtD, ↓run_fJoin, ↓run_fJCons, ↓jK_ok, ↓jK_ex, ↓run_fPar, ↓parK_ok, ↓wstepK_nx, ↓wK_true, ↓wK_false, ↓run_fOrU, ↓run_fAndU, ↓run_fNotU, ↓run_fTru, ↓run_orU, ↓run_andU, ↓orK_some, ↓andK_some, ↓run_mP, ↓run_none, ↓run_mB, ↓run_mO, ↓run_vl, ↓run_mU, ↓run_fVar, ↓run_fOp, ↓run_fUn, ↓run_fCons, ↓run_fCB, ↓run_fTup, ↓run_fLst, ↓run_fB, ↓run_fIf, ↓run_fAndT, ↓run_fOrT, ↓run_fNotT, ↓run_fAndV, ↓run_fOrV, ↓run_fNotV, ↓run_fIsN, ↓run_fNotN, ↓run_fChain, ↓run_fSeq, ↓run_fDrop, ↓run_fRet, ↓run_fRetV, ↓run_fSet, ↓run_fAsg, ↓run_fRg, ↓run_fISU, ↓run_fFor, ↓run_fLc, ↓run_fIxV, ↓run_fLenV, ↓run_fReprV, ↓run_fApp, ↓run_gSetL, ↓run_fBVar, ↓run_fBCons, ↓run_callD, ↓run_fCk, ↓run_fCkP, ↓run_mDef, ↓run_fPart, ↓run_fSl, ↓run_fRevL, ↓run_fLM, ↓run_fM1, ↓run_fDGet, ↓run_fDIn, ↓run_fLenSet, ↓run_fFldU, ↓run_fAugL, ↓run_fMk, ↓run_fSFld, ↓run_fXm, ↓run_fRs, ↓run_fXval, ↓run_fGive, ↓run_fDc, ↓run_fLc2, ↓bindK_ok, ↓bindK_ex, ↓optQ_some, ↓optQ_none, ↓upQ_some, ↓upQ_none, ↓vlQ_val, ↓vlQ_own, ↓vlQ_un, ↓vlQ_ex, ↓varQ_val, ↓varQ_own, ↓retQ_val, ↓retQ_own, ↓tupK_ok, ↓tupK_ex, ↓lstK_ok, ↓lstK_ex, ↓ifK_ok, ↓ifK_ex, ↓seqK_nx, ↓seqK_bk, ↓seqK_ct, ↓seqK_rt, ↓seqK_ex, ↓ixK_ok, ↓ixK_ex, ↓lenQ_int, ↓appQ_own, ↓appK_ok, ↓appK_ex, ↓setP_some, ↓setQ_own, ↓setK_ok, ↓barQ_val, ↓barQ_own, ↓ckK2_ok, ↓ckK2_ex, ↓ckK_ok, ↓ckK_ex, ↓ckPK2_ok, ↓ckPK2_ex, ↓ckPK_ok, ↓ckPK_ex, ↓okQ_ok, ↓okQ_ex, ↓backK_eq, ↓dfQ_nx, ↓dfQ_rt, ↓dfQ_ex, ↓forK_ok, ↓forK_ex, ↓fturnK_bk, ↓fturnK_rt, ↓fturnK_nx, ↓fturnK_ct, ↓fturnK_ex, ↓lcK_ok, ↓lcK_ex, ↓lturnK_ok, ↓ltestK_ok, ↓lkeepK_ok, ↓lkeepK_ex, ↓lstepK_ok, ↓lstepK_ex, ↓fstepK_nx, ↓fstepK_ct, ↓fstepK_bk, ↓fstepK_rt, ↓fstepK_ex, ↓bQ_t, ↓bQ_true, ↓bQ_false, ↓ifQ_t, ↓ifQ_f, ↓ifQ_true, ↓ifQ_false, ↓put_eq, ↓revM_l, ↓lmM_l, ↓m1M_s, ↓augK_ok, ↓augQ1_int, ↓augQ2_ok, ↓madeK_ok, ↓madeK_ex, ↓mkK_ok, ↓mkK2_ok, ↓sfQ_some, ↓sfK_ok, ↓xmK_ok, ↓rsK_ok, ↓xvK_ok, ↓giveK_ok, ↓dcK_ok, ↓dvalK_ok, ↓dkeyK_ok, ↓dstepK_ok, ↓lc2K_ok, ↓innK_ok, ↓inn1K_ok, ↓inn2K_ok, gEq_int, gNe_int, gPow_ii, atI_lit, atI_at, ixN_lit, ixN_at, gAdd_ii, gAdd_ss, gAdd_ll, gAdd_tt, gMinus_ii, gMul_ii, okMul_l, okMul_r, gMul_li, gMod_ii, gDiv_ii, gLt_ii, gLt_ss, gLe_ii, gLe_ss, gGt_ii, gGe_ii, gIxS_own, gIxS_val, gIx_l, gIx_r, gIx_t, gIx_s, seqOf_l, seqOf_r, seqOf_t, seqU_l, seqU_r, seqU_t, seqU_s, gLen_l, gLen_r, gLen_t, gLen_s, unOk_val, unOk_own, unOk_none, toB_bl, slB_bl, isOL_own, isOw_own, isSeen_own, isSeen_val, dt_lst, rg1_int, rg2_int, inRg_of, isNonD, DL.seen, norm, norms, pinL, backsD, backs, lent, arSl, gPos, small, wipeR, gMul2_ii, gMul2_s, gNeg_int, toI_int, en2_l, en2_t, gSl_l, gSl_t, gTupleOf_l, gTupleOf_t, gListOf_l, gListOf_t, zp1_ll, zp1_tt, gT, gC, gN, notIn, gKw, Ar.up, -List.map_map, gDivA_ii, truD_bl, truD_non, truD_int, truD_lst, truD_rol, truD_tup, truD_dct, gS]
end CROWDSAY_K30_SHARES

end
section
set_option Elab.async false
set_option linter.all false
set_option maxRecDepth 100000
set_option maxHeartbeats 8000000
namespace CROWDSAY_K30_SHARES
open PySem PySem.Spec PyProof.Rows L2 DL
theorem dg (n k : Int) (h : 0 < k) : ∃ e : Nat, n % k = e ∧ (e : Int) < k := by
  have h0 := Int.emod_nonneg n (b := k) (by omega)
  have h1 := Int.emod_lt_of_pos n h
  exact ⟨(n % k).toNat, by omega, by omega⟩
theorem size_at : ∀ e < 6, ∃ s : Int, [Dt.int 12, Dt.int 2, Dt.int 100, Dt.int (10 ^ 12), Dt.int (10 ^ 59), Dt.int 6][e]? = some (Dt.int s) ∧ 0 < s ∧ s ≤ 10 ^ 59 := fun e h => by
  match e, h with
  | 0, _ => exact ⟨_, rfl, by decide, by decide⟩
  | 1, _ => exact ⟨_, rfl, by decide, by decide⟩
  | 2, _ => exact ⟨_, rfl, by decide, by decide⟩
  | 3, _ => exact ⟨_, rfl, by decide, by decide⟩
  | 4, _ => exact ⟨_, rfl, by decide, by decide⟩
  | 5, _ => exact ⟨_, rfl, by decide, by decide⟩
theorem log_le {x : Int} {n : Nat} (h : x.natAbs < 2 ^ n) (h0 : 0 < n) : x.natAbs.log2 < n := by
  by_cases q : x.natAbs = 0
  · rw [q]; exact h0
  · exact (Nat.log2_lt q).mpr h
def WholeQ : Po Sl := fun r ρ => ∃ m x : Int, x.natAbs ≤ 10 ^ 59 ∧ r = .ok (.val (.int x)) ∧ ρ = [.own (.lst [.int m])]
theorem r_whole (K : Fg) (m : Int) : Run (m_l_whole_number K) [.own (.lst [.int m])] WholeQ := by
  have h12 : gPow (.int 10) (.int 12) = some (.val (.int (10 ^ 12))) := gPow_ii (by omega) (by omega) (by decide)
  have h59 : gPow (.int 10) (.int 59) = some (.val (.int (10 ^ 59))) := gPow_ii (by omega) (by omega) (by decide)
  obtain ⟨e, he, he6⟩ := dg m 6 (by omega)
  obtain ⟨s, hs, s0, s1⟩ := size_at e (by omega)
  have s9 : s.natAbs.log2 < 9000 := Nat.lt_of_lt_of_le (log_le (n := 200) (by
    have : (10 : Nat) ^ 59 < 2 ^ 200 := by decide
    omega) (by decide)) (by decide)
  have dS := fun n Q => r_digit K n s s0 s9 Q
  have d6 := fun n Q => r_digit K n 6 (by decide) (by decide) Q
  have d2 := fun n Q => r_digit K n 2 (by decide) (by decide) Q
  generalize (10 : Int) ^ 12 = A12 at h12 hs
  have bound : s.natAbs ≤ 10 ^ 59 := by omega
  generalize hA : (10 : Int) ^ 59 = A59 at h59 hs
  obtain ⟨x, hx, hxs⟩ := dg (m / 6) s s0
  obtain ⟨f, hf, hf2⟩ := dg (m / 6 / s) 2 (by omega)
  simp only [m_l_whole_number, ex_l_whole_number]
  match f, hf2 with
  | 0, _ =>
    have m1 : gMul2 (.int (x : Int)) (.int 1) = some (.val (.int (x : Int))) := by
      rw [gMul2_ii (okMul_r (by omega) (by omega)), Int.mul_one]
    simp (maxSteps := 4000000) (maxDischargeDepth := 6) [↓run_fMtV, ↓run_fMtVP, ↓run_fKeep, ↓keepK_ok, ↓run_fFmt, ↓run_fFmtD, ↓run_fJoin, ↓run_fJCons, ↓jK_ok, ↓jK_ex, ↓run_fPar, ↓parK_ok, ↓wstepK_nx, ↓wK_true, ↓wK_false, ↓run_fOrU, ↓run_fAndU, ↓run_fNotU, ↓run_fTru, ↓run_orU, ↓run_andU, ↓orK_some, ↓andK_some, ↓run_mP, ↓run_none, ↓run_mB, ↓run_mO, ↓run_vl, ↓run_mU, ↓run_fVar, ↓run_fOp, ↓run_fUn, ↓run_fCons, ↓run_fCB, ↓run_fTup, ↓run_fLst, ↓run_fB, ↓run_fIf, ↓run_fAndT, ↓run_fOrT, ↓run_fNotT, ↓run_fAndV, ↓run_fOrV, ↓run_fNotV, ↓run_fIsN, ↓run_fNotN, ↓run_fChain, ↓run_fSeq, ↓run_fDrop, ↓run_fRet, ↓run_fRetV, ↓run_fSet, ↓run_fAsg, ↓run_fRg, ↓run_fISU, ↓run_fFor, ↓run_fLc, ↓run_fIxV, ↓run_fLenV, ↓run_fReprV, ↓run_fApp, ↓run_gSetL, ↓run_fBVar, ↓run_fBCons, ↓run_callD, ↓run_fCk, ↓run_fCkP, ↓run_mDef, ↓run_fPart, ↓run_fSl, ↓run_fRevL, ↓run_fLM, ↓run_fM1, ↓run_fDGet, ↓run_fDIn, ↓run_fLenSet, ↓run_fFldU, ↓run_fAugL, ↓run_fMk, ↓run_fSFld, ↓run_fXm, ↓run_fRs, ↓run_fXval, ↓run_fGive, ↓run_fDc, ↓run_fLc2, ↓bindK_ok, ↓bindK_ex, ↓optQ_some, ↓optQ_none, ↓upQ_some, ↓upQ_none, ↓vlQ_val, ↓vlQ_own, ↓vlQ_un, ↓vlQ_ex, ↓varQ_val, ↓varQ_own, ↓retQ_val, ↓retQ_own, ↓tupK_ok, ↓tupK_ex, ↓lstK_ok, ↓lstK_ex, ↓ifK_ok, ↓ifK_ex, ↓seqK_nx, ↓seqK_bk, ↓seqK_ct, ↓seqK_rt, ↓seqK_ex, ↓ixK_ok, ↓ixK_ex, ↓lenQ_int, ↓appQ_own, ↓appK_ok, ↓appK_ex, ↓setP_some, ↓setQ_own, ↓setK_ok, ↓barQ_val, ↓barQ_own, ↓ckK2_ok, ↓ckK2_ex, ↓ckK_ok, ↓ckK_ex, ↓ckPK2_ok, ↓ckPK2_ex, ↓ckPK_ok, ↓ckPK_ex, ↓okQ_ok, ↓okQ_ex, ↓backK_eq, ↓dfQ_nx, ↓dfQ_rt, ↓dfQ_ex, ↓forK_ok, ↓forK_ex, ↓fturnK_bk, ↓fturnK_rt, ↓fturnK_nx, ↓fturnK_ct, ↓fturnK_ex, ↓lcK_ok, ↓lcK_ex, ↓lturnK_ok, ↓ltestK_ok, ↓lkeepK_ok, ↓lkeepK_ex, ↓lstepK_ok, ↓lstepK_ex, ↓fstepK_nx, ↓fstepK_ct, ↓fstepK_bk, ↓fstepK_rt, ↓fstepK_ex, ↓bQ_t, ↓bQ_true, ↓bQ_false, ↓ifQ_t, ↓ifQ_f, ↓ifQ_true, ↓ifQ_false, ↓put_eq, ↓revM_l, ↓lmM_l, ↓m1M_s, ↓augK_ok, ↓augQ1_int, ↓augQ2_ok, ↓madeK_ok, ↓madeK_ex, ↓mkK_ok, ↓mkK2_ok, ↓sfQ_some, ↓sfK_ok, ↓xmK_ok, ↓rsK_ok, ↓xvK_ok, ↓giveK_ok, ↓dcK_ok, ↓dvalK_ok, ↓dkeyK_ok, ↓dstepK_ok, ↓lc2K_ok, ↓innK_ok, ↓inn1K_ok, ↓inn2K_ok, gEq_int, gNe_int, gPow_ii, atI_lit, atI_at, ixN_lit, ixN_at, gAdd_ii, gAdd_ss, gAdd_ll, gAdd_tt, gMinus_ii, gMul_ii, okMul_l, okMul_r, gMul_li, gMod_ii, gDiv_ii, gLt_ii, gLt_ss, gLe_ii, gLe_ss, gGt_ii, gGe_ii, gIxS_own, gIxS_val, gIx_l, gIx_r, gIx_t, gIx_s, seqOf_l, seqOf_r, seqOf_t, seqU_l, seqU_r, seqU_t, seqU_s, gLen_l, gLen_r, gLen_t, gLen_s, unOk_val, unOk_own, unOk_none, toB_bl, slB_bl, isOL_own, isOw_own, isSeen_own, isSeen_val, dt_lst, rg1_int, rg2_int, inRg_of, isNonD, DL.seen, norm, norms, pinL, backsD, backs, lent, arSl, gPos, small, wipeR, gMul2_ii, gMul2_s, gNeg_int, toI_int, en2_l, en2_t, gSl_l, gSl_t, gTupleOf_l, gTupleOf_t, gListOf_l, gListOf_t, zp1_ll, zp1_tt, gT, gC, gN, notIn, gKw, Ar.up, -List.map_map, gDivA_ii, truD_bl, truD_non, truD_int, truD_lst, truD_rol, truD_tup, truD_dct, gS, d6, h12, h59, he, hs, dS, hx, d2, hf, m1]
    exact ⟨_, _, by omega, rfl, rfl⟩
  | 1, _ =>
    have m1 : gMul2 (.int (x : Int)) (.int (-1)) = some (.val (.int (-(x : Int)))) := by
      rw [gMul2_ii (okMul_r (by omega) (by omega)), Int.mul_neg_one]
    simp (maxSteps := 4000000) (maxDischargeDepth := 6) [↓run_fMtV, ↓run_fMtVP, ↓run_fKeep, ↓keepK_ok, ↓run_fFmt, ↓run_fFmtD, ↓run_fJoin, ↓run_fJCons, ↓jK_ok, ↓jK_ex, ↓run_fPar, ↓parK_ok, ↓wstepK_nx, ↓wK_true, ↓wK_false, ↓run_fOrU, ↓run_fAndU, ↓run_fNotU, ↓run_fTru, ↓run_orU, ↓run_andU, ↓orK_some, ↓andK_some, ↓run_mP, ↓run_none, ↓run_mB, ↓run_mO, ↓run_vl, ↓run_mU, ↓run_fVar, ↓run_fOp, ↓run_fUn, ↓run_fCons, ↓run_fCB, ↓run_fTup, ↓run_fLst, ↓run_fB, ↓run_fIf, ↓run_fAndT, ↓run_fOrT, ↓run_fNotT, ↓run_fAndV, ↓run_fOrV, ↓run_fNotV, ↓run_fIsN, ↓run_fNotN, ↓run_fChain, ↓run_fSeq, ↓run_fDrop, ↓run_fRet, ↓run_fRetV, ↓run_fSet, ↓run_fAsg, ↓run_fRg, ↓run_fISU, ↓run_fFor, ↓run_fLc, ↓run_fIxV, ↓run_fLenV, ↓run_fReprV, ↓run_fApp, ↓run_gSetL, ↓run_fBVar, ↓run_fBCons, ↓run_callD, ↓run_fCk, ↓run_fCkP, ↓run_mDef, ↓run_fPart, ↓run_fSl, ↓run_fRevL, ↓run_fLM, ↓run_fM1, ↓run_fDGet, ↓run_fDIn, ↓run_fLenSet, ↓run_fFldU, ↓run_fAugL, ↓run_fMk, ↓run_fSFld, ↓run_fXm, ↓run_fRs, ↓run_fXval, ↓run_fGive, ↓run_fDc, ↓run_fLc2, ↓bindK_ok, ↓bindK_ex, ↓optQ_some, ↓optQ_none, ↓upQ_some, ↓upQ_none, ↓vlQ_val, ↓vlQ_own, ↓vlQ_un, ↓vlQ_ex, ↓varQ_val, ↓varQ_own, ↓retQ_val, ↓retQ_own, ↓tupK_ok, ↓tupK_ex, ↓lstK_ok, ↓lstK_ex, ↓ifK_ok, ↓ifK_ex, ↓seqK_nx, ↓seqK_bk, ↓seqK_ct, ↓seqK_rt, ↓seqK_ex, ↓ixK_ok, ↓ixK_ex, ↓lenQ_int, ↓appQ_own, ↓appK_ok, ↓appK_ex, ↓setP_some, ↓setQ_own, ↓setK_ok, ↓barQ_val, ↓barQ_own, ↓ckK2_ok, ↓ckK2_ex, ↓ckK_ok, ↓ckK_ex, ↓ckPK2_ok, ↓ckPK2_ex, ↓ckPK_ok, ↓ckPK_ex, ↓okQ_ok, ↓okQ_ex, ↓backK_eq, ↓dfQ_nx, ↓dfQ_rt, ↓dfQ_ex, ↓forK_ok, ↓forK_ex, ↓fturnK_bk, ↓fturnK_rt, ↓fturnK_nx, ↓fturnK_ct, ↓fturnK_ex, ↓lcK_ok, ↓lcK_ex, ↓lturnK_ok, ↓ltestK_ok, ↓lkeepK_ok, ↓lkeepK_ex, ↓lstepK_ok, ↓lstepK_ex, ↓fstepK_nx, ↓fstepK_ct, ↓fstepK_bk, ↓fstepK_rt, ↓fstepK_ex, ↓bQ_t, ↓bQ_true, ↓bQ_false, ↓ifQ_t, ↓ifQ_f, ↓ifQ_true, ↓ifQ_false, ↓put_eq, ↓revM_l, ↓lmM_l, ↓m1M_s, ↓augK_ok, ↓augQ1_int, ↓augQ2_ok, ↓madeK_ok, ↓madeK_ex, ↓mkK_ok, ↓mkK2_ok, ↓sfQ_some, ↓sfK_ok, ↓xmK_ok, ↓rsK_ok, ↓xvK_ok, ↓giveK_ok, ↓dcK_ok, ↓dvalK_ok, ↓dkeyK_ok, ↓dstepK_ok, ↓lc2K_ok, ↓innK_ok, ↓inn1K_ok, ↓inn2K_ok, gEq_int, gNe_int, gPow_ii, atI_lit, atI_at, ixN_lit, ixN_at, gAdd_ii, gAdd_ss, gAdd_ll, gAdd_tt, gMinus_ii, gMul_ii, okMul_l, okMul_r, gMul_li, gMod_ii, gDiv_ii, gLt_ii, gLt_ss, gLe_ii, gLe_ss, gGt_ii, gGe_ii, gIxS_own, gIxS_val, gIx_l, gIx_r, gIx_t, gIx_s, seqOf_l, seqOf_r, seqOf_t, seqU_l, seqU_r, seqU_t, seqU_s, gLen_l, gLen_r, gLen_t, gLen_s, unOk_val, unOk_own, unOk_none, toB_bl, slB_bl, isOL_own, isOw_own, isSeen_own, isSeen_val, dt_lst, rg1_int, rg2_int, inRg_of, isNonD, DL.seen, norm, norms, pinL, backsD, backs, lent, arSl, gPos, small, wipeR, gMul2_ii, gMul2_s, gNeg_int, toI_int, en2_l, en2_t, gSl_l, gSl_t, gTupleOf_l, gTupleOf_t, gListOf_l, gListOf_t, zp1_ll, zp1_tt, gT, gC, gN, notIn, gKw, Ar.up, -List.map_map, gDivA_ii, truD_bl, truD_non, truD_int, truD_lst, truD_rol, truD_tup, truD_dct, gS, d6, h12, h59, he, hs, dS, hx, d2, hf, m1]
    exact ⟨_, _, by omega, rfl, rfl⟩
end CROWDSAY_K30_SHARES

end
section
set_option Elab.async false
set_option linter.all false
set_option maxRecDepth 100000
set_option maxHeartbeats 8000000
namespace CROWDSAY_K30_SHARES
open PySem PySem.Spec PyProof.Rows L2 DL
/-- what is known of the class NoShare -/
structure KfZ (K : Fg) : Prop where
  em : PySem.W.exmOne K (.ref (nsA K)) (.ref (nsA K)) = some true
  kz : PySem.W.kitOne K (.ref (nsA K)) (.type "ZeroDivisionError") = some true
  k1 : PySem.W.kitAny K (.ref (nsA K)) [.ref (He.ga K "NoBody"), .ref (He.ga K "NoCustom"), .ref (He.ga K "NoGate"), .ref (He.ga K "NoMark"), .ref (He.ga K "NoMeeting"), .ref (He.ga K "NoRow"), .ref (He.ga K "NoSay"), .ref (He.ga K "NoStand")] = some false
  k2 : PySem.W.kitAny K (.ref (nsA K)) [.ref (He.ga K "NoText"), .ref (He.ga K "NoTurn"), .ref (He.ga K "TooMany")] = some false
  ec : L2.ExcC K (nsA K)
  xf : XfC K (nsA K)
  no : PySem.W.findIn K (.ref (nsA K)) (Str.ofString "top") = some none
def nsV (K : Fg) (a : Int) : Dt := .exn (nsA K) [Str.ofString "top"] [.int a]
theorem fld_ns (K : Fg) (kz : KfZ K) (a : Int) : fldO K (Str.ofString "top") (.exn (nsA K) [Str.ofString "top"] [.int a]) = some (.val (.int a)) := by
  rw [fldO_exn kz.xf kz.no]
  simp [lookD]
open Classical in
theorem isiZ (K : Fg) (kz : KfZ K) (a : Int) : gIsiU K [.exn (nsA K) [Str.ofString "top"] [.int a], .ty "ZeroDivisionError"] = some (.val (.bl true)) := by
  show (if ExcC K (nsA K) then (match clD (.ty "ZeroDivisionError") with
    | some u => (PySem.W.kitOne K (.ref (nsA K)) u).map fun b => Sl.val (.bl b)
    | none => none) else none) = _
  rw [if_pos kz.ec]
  show (PySem.W.kitOne K (.ref (nsA K)) (.type "ZeroDivisionError")).map (fun b => Sl.val (.bl b)) = _
  rw [kz.kz]; rfl
open Classical in
theorem isiT (K : Fg) (kz : KfZ K) (a : Int) (cs : List Dt) (us : List Value) (hc : clsDs cs = some us) (hk : PySem.W.kitAny K (.ref (nsA K)) us = some false) : gIsTup K [.exn (nsA K) [Str.ofString "top"] [.int a], .tup cs] = some (.val (.bl false)) := by
  have e : tyU K (.exn (nsA K) [Str.ofString "top"] [.int a]) = some (.ref (nsA K)) := by
    show (if ExcC K (nsA K) then some (Value.ref (nsA K)) else none) = _
    rw [if_pos kz.ec]
  unfold gIsTup
  simp only [e, hc, hk, Option.map_some]
theorem ins_sh (K : Fg) (m : Str) (h : shNs.contains m = false) (a b : Int) : insAt (He.ga K (Str.ofString "Share")) m (some (.val (shD K a b))) = true := by
  show (shA K == He.ga K (Str.ofString "Share") && !shNs.contains m) = true
  rw [h]
  simp
theorem r_refused2 (K : Fg) (kf : KfS K) (kz : KfZ K) (a : Int) (ok : okD (.int a) = true) (Q : Po Sl) : Run (m_l_refused K) [.val (.bl false), .val (.int a), .val (.int 0)] Q = Q (.ok (.val (.int a))) [.val (.bl false), .val (.int a), .val (.int 0)] := by
  have t1 := isiT K kz a [.ref (He.ga K "NoBody"), .ref (He.ga K "NoCustom"), .ref (He.ga K "NoGate"), .ref (He.ga K "NoMark"), .ref (He.ga K "NoMeeting"), .ref (He.ga K "NoRow"), .ref (He.ga K "NoSay"), .ref (He.ga K "NoStand")] _ rfl kz.k1
  have t2 := isiT K kz a [.ref (He.ga K "NoText"), .ref (He.ga K "NoTurn"), .ref (He.ga K "TooMany")] _ rfl kz.k2
  refine Run.same ?_ Q
  simp only [m_l_refused, ex_l_refused]
  simp (maxSteps := 4000000) (maxDischargeDepth := 6) [↓run_fMtV, ↓run_fMtVP, ↓run_fKeep, ↓keepK_ok, ↓run_fFmt, ↓run_fFmtD, ↓run_fJoin, ↓run_fJCons, ↓jK_ok, ↓jK_ex, ↓run_fPar, ↓parK_ok, ↓wstepK_nx, ↓wK_true, ↓wK_false, ↓run_fOrU, ↓run_fAndU, ↓run_fNotU, ↓run_fTru, ↓run_orU, ↓run_andU, ↓orK_some, ↓andK_some, ↓run_mP, ↓run_none, ↓run_mB, ↓run_mO, ↓run_vl, ↓run_mU, ↓run_fVar, ↓run_fOp, ↓run_fUn, ↓run_fCons, ↓run_fCB, ↓run_fTup, ↓run_fLst, ↓run_fB, ↓run_fIf, ↓run_fAndT, ↓run_fOrT, ↓run_fNotT, ↓run_fAndV, ↓run_fOrV, ↓run_fNotV, ↓run_fIsN, ↓run_fNotN, ↓run_fChain, ↓run_fSeq, ↓run_fDrop, ↓run_fRet, ↓run_fRetV, ↓run_fSet, ↓run_fAsg, ↓run_fRg, ↓run_fISU, ↓run_fFor, ↓run_fLc, ↓run_fIxV, ↓run_fLenV, ↓run_fReprV, ↓run_fApp, ↓run_gSetL, ↓run_fBVar, ↓run_fBCons, ↓run_callD, ↓run_fCk, ↓run_fCkP, ↓run_mDef, ↓run_fPart, ↓run_fSl, ↓run_fRevL, ↓run_fLM, ↓run_fM1, ↓run_fDGet, ↓run_fDIn, ↓run_fLenSet, ↓run_fFldU, ↓run_fAugL, ↓run_fMk, ↓run_fSFld, ↓run_fXm, ↓run_fRs, ↓run_fXval, ↓run_fGive, ↓run_fDc, ↓run_fLc2, ↓bindK_ok, ↓bindK_ex, ↓optQ_some, ↓optQ_none, ↓upQ_some, ↓upQ_none, ↓vlQ_val, ↓vlQ_own, ↓vlQ_un, ↓vlQ_ex, ↓varQ_val, ↓varQ_own, ↓retQ_val, ↓retQ_own, ↓tupK_ok, ↓tupK_ex, ↓lstK_ok, ↓lstK_ex, ↓ifK_ok, ↓ifK_ex, ↓seqK_nx, ↓seqK_bk, ↓seqK_ct, ↓seqK_rt, ↓seqK_ex, ↓ixK_ok, ↓ixK_ex, ↓lenQ_int, ↓appQ_own, ↓appK_ok, ↓appK_ex, ↓setP_some, ↓setQ_own, ↓setK_ok, ↓barQ_val, ↓barQ_own, ↓ckK2_ok, ↓ckK2_ex, ↓ckK_ok, ↓ckK_ex, ↓ckPK2_ok, ↓ckPK2_ex, ↓ckPK_ok, ↓ckPK_ex, ↓okQ_ok, ↓okQ_ex, ↓backK_eq, ↓dfQ_nx, ↓dfQ_rt, ↓dfQ_ex, ↓forK_ok, ↓forK_ex, ↓fturnK_bk, ↓fturnK_rt, ↓fturnK_nx, ↓fturnK_ct, ↓fturnK_ex, ↓lcK_ok, ↓lcK_ex, ↓lturnK_ok, ↓ltestK_ok, ↓lkeepK_ok, ↓lkeepK_ex, ↓lstepK_ok, ↓lstepK_ex, ↓fstepK_nx, ↓fstepK_ct, ↓fstepK_bk, ↓fstepK_rt, ↓fstepK_ex, ↓bQ_t, ↓bQ_true, ↓bQ_false, ↓ifQ_t, ↓ifQ_f, ↓ifQ_true, ↓ifQ_false, ↓put_eq, ↓revM_l, ↓lmM_l, ↓m1M_s, ↓augK_ok, ↓augQ1_int, ↓augQ2_ok, ↓madeK_ok, ↓madeK_ex, ↓mkK_ok, ↓mkK2_ok, ↓sfQ_some, ↓sfK_ok, ↓xmK_ok, ↓rsK_ok, ↓xvK_ok, ↓giveK_ok, ↓dcK_ok, ↓dvalK_ok, ↓dkeyK_ok, ↓dstepK_ok, ↓lc2K_ok, ↓innK_ok, ↓inn1K_ok, ↓inn2K_ok, gEq_int, gNe_int, gPow_ii, atI_lit, atI_at, ixN_lit, ixN_at, gAdd_ii, gAdd_ss, gAdd_ll, gAdd_tt, gMinus_ii, gMul_ii, okMul_l, okMul_r, gMul_li, gMod_ii, gDiv_ii, gLt_ii, gLt_ss, gLe_ii, gLe_ss, gGt_ii, gGe_ii, gIxS_own, gIxS_val, gIx_l, gIx_r, gIx_t, gIx_s, seqOf_l, seqOf_r, seqOf_t, seqU_l, seqU_r, seqU_t, seqU_s, gLen_l, gLen_r, gLen_t, gLen_s, unOk_val, unOk_own, unOk_none, toB_bl, slB_bl, isOL_own, isOw_own, isSeen_own, isSeen_val, dt_lst, rg1_int, rg2_int, inRg_of, isNonD, DL.seen, norm, norms, pinL, backsD, backs, lent, arSl, gPos, small, wipeR, gMul2_ii, gMul2_s, gNeg_int, toI_int, en2_l, en2_t, gSl_l, gSl_t, gTupleOf_l, gTupleOf_t, gListOf_l, gListOf_t, zp1_ll, zp1_tt, gT, gC, gN, notIn, gKw, Ar.up, -List.map_map, gDivA_ii, truD_bl, truD_non, truD_int, truD_lst, truD_rol, truD_tup, truD_dct, gS, r_init0 K kf a ok, keepK_ex kz.em, isiZ K kz a, t1, t2, fld_ns K kz a]
theorem r_refused1 (K : Fg) (kf : KfS K) (kz : KfZ K) (a b d : Int) (ok : okD (.int a) = true) (Q : Po Sl) : Run (m_l_refused K) [.val (.bl true), .val (shD K a b), .val (shD K 0 d)] Q = Q (.ok (.val (.int a))) [.val (.bl true), .val (shD K a b), .val (shD K 0 d)] := by
  have t1 := isiT K kz a [.ref (He.ga K "NoBody"), .ref (He.ga K "NoCustom"), .ref (He.ga K "NoGate"), .ref (He.ga K "NoMark"), .ref (He.ga K "NoMeeting"), .ref (He.ga K "NoRow"), .ref (He.ga K "NoSay"), .ref (He.ga K "NoStand")] _ rfl kz.k1
  have t2 := isiT K kz a [.ref (He.ga K "NoText"), .ref (He.ga K "NoTurn"), .ref (He.ga K "TooMany")] _ rfl kz.k2
  have by0 := r_by0 K kf a b d ok
  refine Run.same ?_ Q
  simp only [m_l_refused, ex_l_refused]
  simp (maxSteps := 4000000) (maxDischargeDepth := 6) [↓run_fMtV, ↓run_fMtVP, ↓run_fKeep, ↓keepK_ok, ↓run_fFmt, ↓run_fFmtD, ↓run_fJoin, ↓run_fJCons, ↓jK_ok, ↓jK_ex, ↓run_fPar, ↓parK_ok, ↓wstepK_nx, ↓wK_true, ↓wK_false, ↓run_fOrU, ↓run_fAndU, ↓run_fNotU, ↓run_fTru, ↓run_orU, ↓run_andU, ↓orK_some, ↓andK_some, ↓run_mP, ↓run_none, ↓run_mB, ↓run_mO, ↓run_vl, ↓run_mU, ↓run_fVar, ↓run_fOp, ↓run_fUn, ↓run_fCons, ↓run_fCB, ↓run_fTup, ↓run_fLst, ↓run_fB, ↓run_fIf, ↓run_fAndT, ↓run_fOrT, ↓run_fNotT, ↓run_fAndV, ↓run_fOrV, ↓run_fNotV, ↓run_fIsN, ↓run_fNotN, ↓run_fChain, ↓run_fSeq, ↓run_fDrop, ↓run_fRet, ↓run_fRetV, ↓run_fSet, ↓run_fAsg, ↓run_fRg, ↓run_fISU, ↓run_fFor, ↓run_fLc, ↓run_fIxV, ↓run_fLenV, ↓run_fReprV, ↓run_fApp, ↓run_gSetL, ↓run_fBVar, ↓run_fBCons, ↓run_callD, ↓run_fCk, ↓run_fCkP, ↓run_mDef, ↓run_fPart, ↓run_fSl, ↓run_fRevL, ↓run_fLM, ↓run_fM1, ↓run_fDGet, ↓run_fDIn, ↓run_fLenSet, ↓run_fFldU, ↓run_fAugL, ↓run_fMk, ↓run_fSFld, ↓run_fXm, ↓run_fRs, ↓run_fXval, ↓run_fGive, ↓run_fDc, ↓run_fLc2, ↓bindK_ok, ↓bindK_ex, ↓optQ_some, ↓optQ_none, ↓upQ_some, ↓upQ_none, ↓vlQ_val, ↓vlQ_own, ↓vlQ_un, ↓vlQ_ex, ↓varQ_val, ↓varQ_own, ↓retQ_val, ↓retQ_own, ↓tupK_ok, ↓tupK_ex, ↓lstK_ok, ↓lstK_ex, ↓ifK_ok, ↓ifK_ex, ↓seqK_nx, ↓seqK_bk, ↓seqK_ct, ↓seqK_rt, ↓seqK_ex, ↓ixK_ok, ↓ixK_ex, ↓lenQ_int, ↓appQ_own, ↓appK_ok, ↓appK_ex, ↓setP_some, ↓setQ_own, ↓setK_ok, ↓barQ_val, ↓barQ_own, ↓ckK2_ok, ↓ckK2_ex, ↓ckK_ok, ↓ckK_ex, ↓ckPK2_ok, ↓ckPK2_ex, ↓ckPK_ok, ↓ckPK_ex, ↓okQ_ok, ↓okQ_ex, ↓backK_eq, ↓dfQ_nx, ↓dfQ_rt, ↓dfQ_ex, ↓forK_ok, ↓forK_ex, ↓fturnK_bk, ↓fturnK_rt, ↓fturnK_nx, ↓fturnK_ct, ↓fturnK_ex, ↓lcK_ok, ↓lcK_ex, ↓lturnK_ok, ↓ltestK_ok, ↓lkeepK_ok, ↓lkeepK_ex, ↓lstepK_ok, ↓lstepK_ex, ↓fstepK_nx, ↓fstepK_ct, ↓fstepK_bk, ↓fstepK_rt, ↓fstepK_ex, ↓bQ_t, ↓bQ_true, ↓bQ_false, ↓ifQ_t, ↓ifQ_f, ↓ifQ_true, ↓ifQ_false, ↓put_eq, ↓revM_l, ↓lmM_l, ↓m1M_s, ↓augK_ok, ↓augQ1_int, ↓augQ2_ok, ↓madeK_ok, ↓madeK_ex, ↓mkK_ok, ↓mkK2_ok, ↓sfQ_some, ↓sfK_ok, ↓xmK_ok, ↓rsK_ok, ↓xvK_ok, ↓giveK_ok, ↓dcK_ok, ↓dvalK_ok, ↓dkeyK_ok, ↓dstepK_ok, ↓lc2K_ok, ↓innK_ok, ↓inn1K_ok, ↓inn2K_ok, gEq_int, gNe_int, gPow_ii, atI_lit, atI_at, ixN_lit, ixN_at, gAdd_ii, gAdd_ss, gAdd_ll, gAdd_tt, gMinus_ii, gMul_ii, okMul_l, okMul_r, gMul_li, gMod_ii, gDiv_ii, gLt_ii, gLt_ss, gLe_ii, gLe_ss, gGt_ii, gGe_ii, gIxS_own, gIxS_val, gIx_l, gIx_r, gIx_t, gIx_s, seqOf_l, seqOf_r, seqOf_t, seqU_l, seqU_r, seqU_t, seqU_s, gLen_l, gLen_r, gLen_t, gLen_s, unOk_val, unOk_own, unOk_none, toB_bl, slB_bl, isOL_own, isOw_own, isSeen_own, isSeen_val, dt_lst, rg1_int, rg2_int, inRg_of, isNonD, DL.seen, norm, norms, pinL, backsD, backs, lent, arSl, gPos, small, wipeR, gMul2_ii, gMul2_s, gNeg_int, toI_int, en2_l, en2_t, gSl_l, gSl_t, gTupleOf_l, gTupleOf_t, gListOf_l, gListOf_t, zp1_ll, zp1_tt, gT, gC, gN, notIn, gKw, Ar.up, -List.map_map, gDivA_ii, truD_bl, truD_non, truD_int, truD_lst, truD_rol, truD_tup, truD_dct, gS, ins_sh K (Str.ofString "by") (by decide +kernel), by0, keepK_ex kz.em, isiZ K kz a, t1, t2, fld_ns K kz a]
end CROWDSAY_K30_SHARES

end
section
set_option Elab.async false
set_option linter.all false
set_option maxRecDepth 100000
set_option maxHeartbeats 8000000
set_option exponentiation.threshold 500
namespace CROWDSAY_K30_SHARES
open PySem PySem.Spec PyProof.Rows L2 DL
/-- numbers of some sixty figures -/
def Bd (x : Int) : Prop := x.natAbs < 2 ^ 200
theorem bd_sz {x : Int} (h : Bd x) : Sz x := by
  unfold Sz
  have := log_le (x := x) (n := 200) h (by decide)
  omega
theorem bd_mul {x y : Int} (hx : Bd x) (hy : Bd y) : (x * y).natAbs < 2 ^ 400 := by
  rw [Int.natAbs_mul]
  have h := Nat.mul_lt_mul'' hx hy
  rwa [← Nat.pow_add] at h
theorem p402 : (2 : Nat) ^ 400 + 2 ^ 400 ≤ 2 ^ 402 := by decide
theorem bd_mul2 {x y : Int} (hx : Bd x) (hy : Bd y) : (x * y).natAbs < 2 ^ 402 := by
  have := bd_mul hx hy
  have := p402
  omega
theorem bd_add {x y u v : Int} (hx : Bd x) (hy : Bd y) (hu : Bd u) (hv : Bd v) : (x * v + u * y).natAbs < 2 ^ 402 := by
  have h1 := bd_mul hx hv
  have h2 := bd_mul hu hy
  have := Int.natAbs_add_le (x * v) (u * y)
  have := p402
  omega
theorem bd_sub {x y u v : Int} (hx : Bd x) (hy : Bd y) (hu : Bd u) (hv : Bd v) : (x * v - u * y).natAbs < 2 ^ 402 := by
  have h1 := bd_mul hx hv
  have h2 := bd_mul hu hy
  have := Int.natAbs_sub_le (x * v) (u * y)
  have := p402
  omega
theorem prt_abs {a b : Int} : (prt a b).natAbs = Nat.gcd a.natAbs b.natAbs := by
  unfold prt
  split <;> omega
theorem prt_log {a b : Int} (h : b ≠ 0) (hb : b.natAbs < 2 ^ 402) : (prt a b).natAbs.log2 < 9000 := by
  refine Nat.lt_of_lt_of_le (log_le (n := 402) ?_ (by decide)) (by decide)
  rw [prt_abs]
  exact Nat.lt_of_le_of_lt (Nat.gcd_le_right _ (by omega)) hb
theorem prt_dvd_l (a b : Int) : prt a b ∣ a := by
  rw [← Int.natAbs_dvd_natAbs, prt_abs]
  exact Nat.gcd_dvd_left _ _
theorem prt_dvd_r (a b : Int) : prt a b ∣ b := by
  rw [← Int.natAbs_dvd_natAbs, prt_abs]
  exact Nat.gcd_dvd_right _ _
theorem fdiv_mul_eq {a p : Int} (h : p ∣ a) : a.fdiv p * p = a := by
  obtain ⟨t, rfl⟩ := h
  by_cases h0 : p = 0
  · subst h0; simp
  · rw [Int.mul_fdiv_cancel_left _ h0, Int.mul_comm]
theorem shT_mul (a b : Int) : shT a b * prt a b = a := fdiv_mul_eq (prt_dvd_l a b)
theorem shB_mul (a b : Int) : shB a b * prt a b = b := fdiv_mul_eq (prt_dvd_r a b)
theorem abs_le_mul {t p a : Int} (h : t * p = a) (p0 : p ≠ 0) : t.natAbs ≤ a.natAbs := by
  rw [← h, Int.natAbs_mul]
  exact Nat.le_mul_of_pos_right _ (by omega)
theorem shT_le {a b : Int} (h : b ≠ 0) : (shT a b).natAbs ≤ a.natAbs := abs_le_mul (shT_mul a b) (prt_ne h)
theorem shB_le {a b : Int} (h : b ≠ 0) : (shB a b).natAbs ≤ b.natAbs := abs_le_mul (shB_mul a b) (prt_ne h)
theorem shB_ne {a b : Int} (h : b ≠ 0) : shB a b ≠ 0 := fun z => h (by rw [← shB_mul a b, z, Int.zero_mul])
theorem fig_of {a : Int} (h : a.natAbs < 2 ^ 402) : Fig a := Nat.lt_of_lt_of_le (log_le (n := 402) h (by decide)) (by decide)
theorem fig_T {a b : Int} (h : b ≠ 0) (ha : a.natAbs < 2 ^ 402) : Fig (shT a b) := fig_of (Nat.lt_of_le_of_lt (shT_le h) ha)
theorem fig_B {a b : Int} (h : b ≠ 0) (hb : b.natAbs < 2 ^ 402) : Fig (shB a b) := fig_of (Nat.lt_of_le_of_lt (shB_le h) hb)
theorem ok_int {a : Int} (h : Bd a) : okD (.int a) = true := by
  have h1 : a.natAbs.log2 < 1920 := Nat.lt_of_lt_of_le (log_le (n := 200) h (by decide)) (by decide)
  simp [okD, h1]
theorem r_four (K : Fg) (kf : KfS K) (ob : ObjCls K (shA K)) (ki : PySem.W.kitOne K (.ref (shA K)) (.ref (shA K)) = some true) (kz : KfZ K) (x y u v : Int) (hx : Bd x) (hy : Bd y) (hu : Bd u) (hv : Bd v) (y0 : y ≠ 0) (v0 : v ≠ 0) (Q : Po Sl) :
    Run (m_l_four_right K) [.val (shD K x y), .val (shD K u v), .val (.tup [.int x, .int y]), .val (.tup [.int u, .int v])] Q = Q (.ok (.val (.bl true))) [.val (shD K x y), .val (shD K u v), .val (.tup [.int x, .int y]), .val (.tup [.int u, .int v])] := by
  have sx := bd_sz hx
  have sy := bd_sz hy
  have su := bd_sz hu
  have sv := bd_sz hv
  have yv : y * v ≠ 0 := Int.mul_ne_zero y0 v0
  have byv := bd_mul2 hy hv
  have m1 := gMul2_w (sz_mul sx sv)
  have m2 := gMul2_w (sz_mul su sy)
  have m3 := gMul2_w (sz_mul sy sv)
  have m4 := gMul2_w (sz_mul sx su)
  have m5 := gMul2_w (sz_mul sy su)
  have lp : (prt (x * v + u * y) (y * v)).natAbs.log2 < 9000 := prt_log yv byv
  have ll : (prt (x * v - u * y) (y * v)).natAbs.log2 < 9000 := prt_log yv byv
  have lt : (prt (x * u) (y * v)).natAbs.log2 < 9000 := prt_log yv byv
  have i1 := ins_sh K (Str.ofString "plus") (by decide +kernel)
  have i2 := ins_sh K (Str.ofString "less") (by decide +kernel)
  have i3 := ins_sh K (Str.ofString "times") (by decide +kernel)
  have i4 := ins_sh K (Str.ofString "by") (by decide +kernel)
  have p1 := r_plus K kf x y u v sx sy su sv yv lp
  have p2 := r_less K kf x y u v sx sy su sv yv ll
  have p3 := r_times K kf x y u v sx sy su sv yv lt
  have q1 := r_share K (x * v + u * y) (y * v) yv lp
  have q2 := r_share K (x * v - u * y) (y * v) yv ll
  have q3 := r_share K (x * u) (y * v) yv lt
  have s1 := r_is_share K kf ob ki _ _ (fig_T yv (bd_add hx hy hu hv)) (fig_B (a := x * v + u * y) yv byv)
  have s2 := r_is_share K kf ob ki _ _ (fig_T yv (bd_sub hx hy hu hv)) (fig_B (a := x * v - u * y) yv byv)
  have s3 := r_is_share K kf ob ki _ _ (fig_T yv (bd_mul2 hx hu)) (fig_B (a := x * u) yv byv)
  refine Run.same ?_ Q
  simp only [m_l_four_right, ex_l_four_right]
  by_cases u0 : u = 0
  · have rf : ∀ Q : Po Sl, Run (m_l_refused K) [.val (.bl true), .val (shD K x y), .val (shD K u v)] Q = Q (.ok (.val (.int x))) [.val (.bl true), .val (shD K x y), .val (shD K u v)] := by
      rw [u0]
      exact r_refused1 K kf kz x y v (ok_int hx)
    have du : decide (u = 0) = true := decide_eq_true u0
    clear u0
    simp (maxSteps := 4000000) (maxDischargeDepth := 6) [↓run_fMtV, ↓run_fMtVP, ↓run_fKeep, ↓keepK_ok, ↓run_fFmt, ↓run_fFmtD, ↓run_fJoin, ↓run_fJCons, ↓jK_ok, ↓jK_ex, ↓run_fPar, ↓parK_ok, ↓wstepK_nx, ↓wK_true, ↓wK_false, ↓run_fOrU, ↓run_fAndU, ↓run_fNotU, ↓run_fTru, ↓run_orU, ↓run_andU, ↓orK_some, ↓andK_some, ↓run_mP, ↓run_none, ↓run_mB, ↓run_mO, ↓run_vl, ↓run_mU, ↓run_fVar, ↓run_fOp, ↓run_fUn, ↓run_fCons, ↓run_fCB, ↓run_fTup, ↓run_fLst, ↓run_fB, ↓run_fIf, ↓run_fAndT, ↓run_fOrT, ↓run_fNotT, ↓run_fAndV, ↓run_fOrV, ↓run_fNotV, ↓run_fIsN, ↓run_fNotN, ↓run_fChain, ↓run_fSeq, ↓run_fDrop, ↓run_fRet, ↓run_fRetV, ↓run_fSet, ↓run_fAsg, ↓run_fRg, ↓run_fISU, ↓run_fFor, ↓run_fLc, ↓run_fIxV, ↓run_fLenV, ↓run_fReprV, ↓run_fApp, ↓run_gSetL, ↓run_fBVar, ↓run_fBCons, ↓run_callD, ↓run_fCk, ↓run_fCkP, ↓run_mDef, ↓run_fPart, ↓run_fSl, ↓run_fRevL, ↓run_fLM, ↓run_fM1, ↓run_fDGet, ↓run_fDIn, ↓run_fLenSet, ↓run_fFldU, ↓run_fAugL, ↓run_fMk, ↓run_fSFld, ↓run_fXm, ↓run_fRs, ↓run_fXval, ↓run_fGive, ↓run_fDc, ↓run_fLc2, ↓bindK_ok, ↓bindK_ex, ↓optQ_some, ↓optQ_none, ↓upQ_some, ↓upQ_none, ↓vlQ_val, ↓vlQ_own, ↓vlQ_un, ↓vlQ_ex, ↓varQ_val, ↓varQ_own, ↓retQ_val, ↓retQ_own, ↓tupK_ok, ↓tupK_ex, ↓lstK_ok, ↓lstK_ex, ↓ifK_ok, ↓ifK_ex, ↓seqK_nx, ↓seqK_bk, ↓seqK_ct, ↓seqK_rt, ↓seqK_ex, ↓ixK_ok, ↓ixK_ex, ↓lenQ_int, ↓appQ_own, ↓appK_ok, ↓appK_ex, ↓setP_some, ↓setQ_own, ↓setK_ok, ↓barQ_val, ↓barQ_own, ↓ckK2_ok, ↓ckK2_ex, ↓ckK_ok, ↓ckK_ex, ↓ckPK2_ok, ↓ckPK2_ex, ↓ckPK_ok, ↓ckPK_ex, ↓okQ_ok, ↓okQ_ex, ↓backK_eq, ↓dfQ_nx, ↓dfQ_rt, ↓dfQ_ex, ↓forK_ok, ↓forK_ex, ↓fturnK_bk, ↓fturnK_rt, ↓fturnK_nx, ↓fturnK_ct, ↓fturnK_ex, ↓lcK_ok, ↓lcK_ex, ↓lturnK_ok, ↓ltestK_ok, ↓lkeepK_ok, ↓lkeepK_ex, ↓lstepK_ok, ↓lstepK_ex, ↓fstepK_nx, ↓fstepK_ct, ↓fstepK_bk, ↓fstepK_rt, ↓fstepK_ex, ↓bQ_t, ↓bQ_true, ↓bQ_false, ↓ifQ_t, ↓ifQ_f, ↓ifQ_true, ↓ifQ_false, ↓put_eq, ↓revM_l, ↓lmM_l, ↓m1M_s, ↓augK_ok, ↓augQ1_int, ↓augQ2_ok, ↓madeK_ok, ↓madeK_ex, ↓mkK_ok, ↓mkK2_ok, ↓sfQ_some, ↓sfK_ok, ↓xmK_ok, ↓rsK_ok, ↓xvK_ok, ↓giveK_ok, ↓dcK_ok, ↓dvalK_ok, ↓dkeyK_ok, ↓dstepK_ok, ↓lc2K_ok, ↓innK_ok, ↓inn1K_ok, ↓inn2K_ok, gEq_int, gNe_int, gPow_ii, atI_lit, atI_at, ixN_lit, ixN_at, gAdd_ii, gAdd_ss, gAdd_ll, gAdd_tt, gMinus_ii, gMul_ii, okMul_l, okMul_r, gMul_li, gMod_ii, gDiv_ii, gLt_ii, gLt_ss, gLe_ii, gLe_ss, gGt_ii, gGe_ii, gIxS_own, gIxS_val, gIx_l, gIx_r, gIx_t, gIx_s, seqOf_l, seqOf_r, seqOf_t, seqU_l, seqU_r, seqU_t, seqU_s, gLen_l, gLen_r, gLen_t, gLen_s, unOk_val, unOk_own, unOk_none, toB_bl, slB_bl, isOL_own, isOw_own, isSeen_own, isSeen_val, dt_lst, rg1_int, rg2_int, inRg_of, isNonD, DL.seen, norm, norms, pinL, backsD, backs, lent, arSl, gPos, small, wipeR, gMul2_ii, gMul2_s, gNeg_int, toI_int, en2_l, en2_t, gSl_l, gSl_t, gTupleOf_l, gTupleOf_t, gListOf_l, gListOf_t, zp1_ll, zp1_tt, gT, gC, gN, notIn, gKw, Ar.up, -List.map_map, gDivA_ii, truD_bl, truD_non, truD_int, truD_lst, truD_rol, truD_tup, truD_dct, gS, i1, i2, i3, i4, m1, m2, m3, m4, m5, p1, p2, p3, q1, q2, q3, s1, s2, s3, shO_dt, du, rf]
  · have yu : y * u ≠ 0 := Int.mul_ne_zero y0 u0
    have byu := bd_mul2 hy hu
    have lb : (prt (x * v) (y * u)).natAbs.log2 < 9000 := prt_log yu byu
    have p4 := r_by K kf x y u v sx sy su sv u0 yu lb
    have q4 := r_share K (x * v) (y * u) yu lb
    have s4 := r_is_share K kf ob ki _ _ (fig_T yu (bd_mul2 hx hv)) (fig_B (a := x * v) yu byu)
    simp (maxSteps := 4000000) (maxDischargeDepth := 6) [↓run_fMtV, ↓run_fMtVP, ↓run_fKeep, ↓keepK_ok, ↓run_fFmt, ↓run_fFmtD, ↓run_fJoin, ↓run_fJCons, ↓jK_ok, ↓jK_ex, ↓run_fPar, ↓parK_ok, ↓wstepK_nx, ↓wK_true, ↓wK_false, ↓run_fOrU, ↓run_fAndU, ↓run_fNotU, ↓run_fTru, ↓run_orU, ↓run_andU, ↓orK_some, ↓andK_some, ↓run_mP, ↓run_none, ↓run_mB, ↓run_mO, ↓run_vl, ↓run_mU, ↓run_fVar, ↓run_fOp, ↓run_fUn, ↓run_fCons, ↓run_fCB, ↓run_fTup, ↓run_fLst, ↓run_fB, ↓run_fIf, ↓run_fAndT, ↓run_fOrT, ↓run_fNotT, ↓run_fAndV, ↓run_fOrV, ↓run_fNotV, ↓run_fIsN, ↓run_fNotN, ↓run_fChain, ↓run_fSeq, ↓run_fDrop, ↓run_fRet, ↓run_fRetV, ↓run_fSet, ↓run_fAsg, ↓run_fRg, ↓run_fISU, ↓run_fFor, ↓run_fLc, ↓run_fIxV, ↓run_fLenV, ↓run_fReprV, ↓run_fApp, ↓run_gSetL, ↓run_fBVar, ↓run_fBCons, ↓run_callD, ↓run_fCk, ↓run_fCkP, ↓run_mDef, ↓run_fPart, ↓run_fSl, ↓run_fRevL, ↓run_fLM, ↓run_fM1, ↓run_fDGet, ↓run_fDIn, ↓run_fLenSet, ↓run_fFldU, ↓run_fAugL, ↓run_fMk, ↓run_fSFld, ↓run_fXm, ↓run_fRs, ↓run_fXval, ↓run_fGive, ↓run_fDc, ↓run_fLc2, ↓bindK_ok, ↓bindK_ex, ↓optQ_some, ↓optQ_none, ↓upQ_some, ↓upQ_none, ↓vlQ_val, ↓vlQ_own, ↓vlQ_un, ↓vlQ_ex, ↓varQ_val, ↓varQ_own, ↓retQ_val, ↓retQ_own, ↓tupK_ok, ↓tupK_ex, ↓lstK_ok, ↓lstK_ex, ↓ifK_ok, ↓ifK_ex, ↓seqK_nx, ↓seqK_bk, ↓seqK_ct, ↓seqK_rt, ↓seqK_ex, ↓ixK_ok, ↓ixK_ex, ↓lenQ_int, ↓appQ_own, ↓appK_ok, ↓appK_ex, ↓setP_some, ↓setQ_own, ↓setK_ok, ↓barQ_val, ↓barQ_own, ↓ckK2_ok, ↓ckK2_ex, ↓ckK_ok, ↓ckK_ex, ↓ckPK2_ok, ↓ckPK2_ex, ↓ckPK_ok, ↓ckPK_ex, ↓okQ_ok, ↓okQ_ex, ↓backK_eq, ↓dfQ_nx, ↓dfQ_rt, ↓dfQ_ex, ↓forK_ok, ↓forK_ex, ↓fturnK_bk, ↓fturnK_rt, ↓fturnK_nx, ↓fturnK_ct, ↓fturnK_ex, ↓lcK_ok, ↓lcK_ex, ↓lturnK_ok, ↓ltestK_ok, ↓lkeepK_ok, ↓lkeepK_ex, ↓lstepK_ok, ↓lstepK_ex, ↓fstepK_nx, ↓fstepK_ct, ↓fstepK_bk, ↓fstepK_rt, ↓fstepK_ex, ↓bQ_t, ↓bQ_true, ↓bQ_false, ↓ifQ_t, ↓ifQ_f, ↓ifQ_true, ↓ifQ_false, ↓put_eq, ↓revM_l, ↓lmM_l, ↓m1M_s, ↓augK_ok, ↓augQ1_int, ↓augQ2_ok, ↓madeK_ok, ↓madeK_ex, ↓mkK_ok, ↓mkK2_ok, ↓sfQ_some, ↓sfK_ok, ↓xmK_ok, ↓rsK_ok, ↓xvK_ok, ↓giveK_ok, ↓dcK_ok, ↓dvalK_ok, ↓dkeyK_ok, ↓dstepK_ok, ↓lc2K_ok, ↓innK_ok, ↓inn1K_ok, ↓inn2K_ok, gEq_int, gNe_int, gPow_ii, atI_lit, atI_at, ixN_lit, ixN_at, gAdd_ii, gAdd_ss, gAdd_ll, gAdd_tt, gMinus_ii, gMul_ii, okMul_l, okMul_r, gMul_li, gMod_ii, gDiv_ii, gLt_ii, gLt_ss, gLe_ii, gLe_ss, gGt_ii, gGe_ii, gIxS_own, gIxS_val, gIx_l, gIx_r, gIx_t, gIx_s, seqOf_l, seqOf_r, seqOf_t, seqU_l, seqU_r, seqU_t, seqU_s, gLen_l, gLen_r, gLen_t, gLen_s, unOk_val, unOk_own, unOk_none, toB_bl, slB_bl, isOL_own, isOw_own, isSeen_own, isSeen_val, dt_lst, rg1_int, rg2_int, inRg_of, isNonD, DL.seen, norm, norms, pinL, backsD, backs, lent, arSl, gPos, small, wipeR, gMul2_ii, gMul2_s, gNeg_int, toI_int, en2_l, en2_t, gSl_l, gSl_t, gTupleOf_l, gTupleOf_t, gListOf_l, gListOf_t, zp1_ll, zp1_tt, gT, gC, gN, notIn, gKw, Ar.up, -List.map_map, gDivA_ii, truD_bl, truD_non, truD_int, truD_lst, truD_rol, truD_tup, truD_dct, gS, i1, i2, i3, i4, m1, m2, m3, m4, m5, p1, p2, p3, p4, q1, q2, q3, q4, s1, s2, s3, s4, shO_dt, u0]
end CROWDSAY_K30_SHARES

end
section
set_option Elab.async false
set_option linter.all false
set_option maxRecDepth 100000
set_option maxHeartbeats 8000000
namespace CROWDSAY_K30_SHARES
open PySem PySem.Spec PyProof.Rows L2 DL
theorem gEq_pair {a b c d : Int} : gEq (.tup [.int a, .int b]) (.tup [.int c, .int d]) = some (.val (.bl (decide (a = c) && decide (b = d)))) := by
  unfold gEq
  rw [toPy_pyD, toPy_pyD]
  simp only [pyD, pyDs, Option.map_some]
  have sh : ∀ x y : Int, SeqAt.shaped (PyData.tuple [.int x, .int y]) = true := fun x y => by
    simp [SeqAt.shaped, PyData.canLay0, PyData.canLayAll0, PyData.depth, PyData.depthAll]
  simp only [sh, Bool.and_self, if_true]
  simp only [PyData.eqv, PyData.eqvAll, Bool.and_true]
  by_cases h1 : a = c <;> by_cases h2 : b = d <;> simp [h1, h2]
theorem gNe_pair {a b c d : Int} : gNe (.tup [.int a, .int b]) (.tup [.int c, .int d]) = some (.val (.bl (!(decide (a = c) && decide (b = d))))) := by
  unfold gNe
  rw [toPy_pyD, toPy_pyD]
  simp only [pyD, pyDs, Option.map_some]
  have sh : ∀ x y : Int, SeqAt.shaped (PyData.tuple [.int x, .int y]) = true := fun x y => by
    simp [SeqAt.shaped, PyData.canLay0, PyData.canLayAll0, PyData.depth, PyData.depthAll]
  simp only [sh, Bool.and_self, if_true]
  simp only [PyData.eqv, PyData.eqvAll, Bool.and_true]
  by_cases h1 : a = c <;> by_cases h2 : b = d <;> simp [h1, h2]
theorem gNe_bl {p q : Bool} : gNe (.bl p) (.bl q) = some (.val (.bl (!(p == q)))) := by
  cases p <;> cases q <;> rfl
theorem gOwnN_of {C : Addr} {m : M Sl} {ns ns' : List Str} {ds ds' : List Dt} {b : Bool} (h : ∀ Q, Run m [.val (.obj C ns ds), .val (.obj C ns' ds')] Q = Q (.ok (.val (.bl b))) [.val (.obj C ns ds), .val (.obj C ns' ds')]) : gOwnN C m (.obj C ns ds) (.obj C ns' ds') = some (.val (.bl (!b))) := by
  have e : m [.val (.obj C ns ds), .val (.obj C ns' ds')] = some (.ok (.val (.bl b)), [.val (.obj C ns ds), .val (.obj C ns' ds')]) := Run.eq (by rw [h]; exact ⟨rfl, rfl⟩)
  simp [gOwnN, callD, lent, arSl, e]
theorem gOwnP_of {C : Addr} {m : M Sl} {ns : List Str} {ds : List Dt} {d : Dt} {b : Bool} (hp : plainD d = true) (h : ∀ Q, Run m [.val (.obj C ns ds), .val d] Q = Q (.ok (.val (.bl b))) [.val (.obj C ns ds), .val d]) : gOwnP C m (.obj C ns ds) d = some (.val (.bl b)) := by
  have e : m [.val (.obj C ns ds), .val d] = some (.ok (.val (.bl b)), [.val (.obj C ns ds), .val d]) := Run.eq (by rw [h]; exact ⟨rfl, rfl⟩)
  simp [gOwnP, callD, lent, arSl, e, hp]
theorem gOwnI_of {C : Addr} {m : M Sl} {ns : List Str} {ds : List Dt} {i : Int} {b : Bool} (h : ∀ Q, Run m [.val (.obj C ns ds), .val (.int i)] Q = Q (.ok (.val (.bl b))) [.val (.obj C ns ds), .val (.int i)]) : gOwnI C m (.int i) (.obj C ns ds) = some (.val (.bl b)) := by
  have e : m [.val (.obj C ns ds), .val (.int i)] = some (.ok (.val (.bl b)), [.val (.obj C ns ds), .val (.int i)]) := Run.eq (by rw [h]; exact ⟨rfl, rfl⟩)
  simp [gOwnI, callD, lent, arSl, e]
/-- that other things are no shares -/
structure KfP (K : Fg) : Prop where
  i : PySem.W.kitOne K (.type "int") (.ref (shA K)) = some false
  s : PySem.W.kitOne K (.type "str") (.ref (shA K)) = some false
  t : PySem.W.kitOne K (.type "tuple") (.ref (shA K)) = some false
  l : PySem.W.kitOne K (.type "list") (.ref (shA K)) = some false
theorem isi_p (K : Fg) (kp : KfP K) : (∀ i : Int, gIsiU K [.int i, .ref (He.ga K (Str.ofString "Share"))] = some (.val (.bl false))) ∧ (∀ i : Str, gIsiU K [.str i, .ref (He.ga K (Str.ofString "Share"))] = some (.val (.bl false))) ∧
    (∀ i, gIsiU K [.tup i, .ref (He.ga K (Str.ofString "Share"))] = some (.val (.bl false))) ∧ (∀ i, gIsiU K [.lst i, .ref (He.ga K (Str.ofString "Share"))] = some (.val (.bl false))) := by
  refine ⟨fun i => ?_, fun i => ?_, fun i => ?_, fun i => ?_⟩
  · show (PySem.W.kitOne K (.type "int") (.ref (shA K))).map (fun b => Sl.val (.bl b)) = _
    rw [kp.i]; rfl
  · show (PySem.W.kitOne K (.type "str") (.ref (shA K))).map (fun b => Sl.val (.bl b)) = _
    rw [kp.s]; rfl
  · show (PySem.W.kitOne K (.type "tuple") (.ref (shA K))).map (fun b => Sl.val (.bl b)) = _
    rw [kp.t]; rfl
  · show (PySem.W.kitOne K (.type "list") (.ref (shA K))).map (fun b => Sl.val (.bl b)) = _
    rw [kp.l]; rfl
theorem r_eqP (K : Fg) (a b : Int) (d : Dt) (h : gIsiU K [d, .ref (He.ga K (Str.ofString "Share"))] = some (.val (.bl false))) (Q : Po Sl) : Run (m_share___eq K) [.val (shD K a b), .val d] Q = Q (.ok (.val (.bl false))) [.val (shD K a b), .val d] := by
  refine Run.same ?_ Q
  simp only [m_share___eq, ex_share___eq]
  simp (maxSteps := 4000000) (maxDischargeDepth := 6) [↓run_fMtV, ↓run_fMtVP, ↓run_fKeep, ↓keepK_ok, ↓run_fFmt, ↓run_fFmtD, ↓run_fJoin, ↓run_fJCons, ↓jK_ok, ↓jK_ex, ↓run_fPar, ↓parK_ok, ↓wstepK_nx, ↓wK_true, ↓wK_false, ↓run_fOrU, ↓run_fAndU, ↓run_fNotU, ↓run_fTru, ↓run_orU, ↓run_andU, ↓orK_some, ↓andK_some, ↓run_mP, ↓run_none, ↓run_mB, ↓run_mO, ↓run_vl, ↓run_mU, ↓run_fVar, ↓run_fOp, ↓run_fUn, ↓run_fCons, ↓run_fCB, ↓run_fTup, ↓run_fLst, ↓run_fB, ↓run_fIf, ↓run_fAndT, ↓run_fOrT, ↓run_fNotT, ↓run_fAndV, ↓run_fOrV, ↓run_fNotV, ↓run_fIsN, ↓run_fNotN, ↓run_fChain, ↓run_fSeq, ↓run_fDrop, ↓run_fRet, ↓run_fRetV, ↓run_fSet, ↓run_fAsg, ↓run_fRg, ↓run_fISU, ↓run_fFor, ↓run_fLc, ↓run_fIxV, ↓run_fLenV, ↓run_fReprV, ↓run_fApp, ↓run_gSetL, ↓run_fBVar, ↓run_fBCons, ↓run_callD, ↓run_fCk, ↓run_fCkP, ↓run_mDef, ↓run_fPart, ↓run_fSl, ↓run_fRevL, ↓run_fLM, ↓run_fM1, ↓run_fDGet, ↓run_fDIn, ↓run_fLenSet, ↓run_fFldU, ↓run_fAugL, ↓run_fMk, ↓run_fSFld, ↓run_fXm, ↓run_fRs, ↓run_fXval, ↓run_fGive, ↓run_fDc, ↓run_fLc2, ↓bindK_ok, ↓bindK_ex, ↓optQ_some, ↓optQ_none, ↓upQ_some, ↓upQ_none, ↓vlQ_val, ↓vlQ_own, ↓vlQ_un, ↓vlQ_ex, ↓varQ_val, ↓varQ_own, ↓retQ_val, ↓retQ_own, ↓tupK_ok, ↓tupK_ex, ↓lstK_ok, ↓lstK_ex, ↓ifK_ok, ↓ifK_ex, ↓seqK_nx, ↓seqK_bk, ↓seqK_ct, ↓seqK_rt, ↓seqK_ex, ↓ixK_ok, ↓ixK_ex, ↓lenQ_int, ↓appQ_own, ↓appK_ok, ↓appK_ex, ↓setP_some, ↓setQ_own, ↓setK_ok, ↓barQ_val, ↓barQ_own, ↓ckK2_ok, ↓ckK2_ex, ↓ckK_ok, ↓ckK_ex, ↓ckPK2_ok, ↓ckPK2_ex, ↓ckPK_ok, ↓ckPK_ex, ↓okQ_ok, ↓okQ_ex, ↓backK_eq, ↓dfQ_nx, ↓dfQ_rt, ↓dfQ_ex, ↓forK_ok, ↓forK_ex, ↓fturnK_bk, ↓fturnK_rt, ↓fturnK_nx, ↓fturnK_ct, ↓fturnK_ex, ↓lcK_ok, ↓lcK_ex, ↓lturnK_ok, ↓ltestK_ok, ↓lkeepK_ok, ↓lkeepK_ex, ↓lstepK_ok, ↓lstepK_ex, ↓fstepK_nx, ↓fstepK_ct, ↓fstepK_bk, ↓fstepK_rt, ↓fstepK_ex, ↓bQ_t, ↓bQ_true, ↓bQ_false, ↓ifQ_t, ↓ifQ_f, ↓ifQ_true, ↓ifQ_false, ↓put_eq, ↓revM_l, ↓lmM_l, ↓m1M_s, ↓augK_ok, ↓augQ1_int, ↓augQ2_ok, ↓madeK_ok, ↓madeK_ex, ↓mkK_ok, ↓mkK2_ok, ↓sfQ_some, ↓sfK_ok, ↓xmK_ok, ↓rsK_ok, ↓xvK_ok, ↓giveK_ok, ↓dcK_ok, ↓dvalK_ok, ↓dkeyK_ok, ↓dstepK_ok, ↓lc2K_ok, ↓innK_ok, ↓inn1K_ok, ↓inn2K_ok, gEq_int, gNe_int, gPow_ii, atI_lit, atI_at, ixN_lit, ixN_at, gAdd_ii, gAdd_ss, gAdd_ll, gAdd_tt, gMinus_ii, gMul_ii, okMul_l, okMul_r, gMul_li, gMod_ii, gDiv_ii, gLt_ii, gLt_ss, gLe_ii, gLe_ss, gGt_ii, gGe_ii, gIxS_own, gIxS_val, gIx_l, gIx_r, gIx_t, gIx_s, seqOf_l, seqOf_r, seqOf_t, seqU_l, seqU_r, seqU_t, seqU_s, gLen_l, gLen_r, gLen_t, gLen_s, unOk_val, unOk_own, unOk_none, toB_bl, slB_bl, isOL_own, isOw_own, isSeen_own, isSeen_val, dt_lst, rg1_int, rg2_int, inRg_of, isNonD, DL.seen, norm, norms, pinL, backsD, backs, lent, arSl, gPos, small, wipeR, gMul2_ii, gMul2_s, gNeg_int, toI_int, en2_l, en2_t, gSl_l, gSl_t, gTupleOf_l, gTupleOf_t, gListOf_l, gListOf_t, zp1_ll, zp1_tt, gT, gC, gN, notIn, gKw, Ar.up, -List.map_map, gDivA_ii, truD_bl, truD_non, truD_int, truD_lst, truD_rol, truD_tup, truD_dct, gS, h]
theorem sh73 : shT 7 3 = 7 ∧ shB 7 3 = 3 := by constructor <;> decide +kernel
theorem apart_sh {K : Fg} {a b c d : Int} (h : (decide (a = c) && decide (b = d)) = false) : apartD (shD K a b) (shD K c d) = true := by
  unfold shD apartD
  simp at h ⊢
  by_cases q : a = c
  · exact .inr (h q)
  · exact .inl q
theorem r_equal (K : Fg) (kf : KfS K) (ob : ObjCls K (shA K)) (ki : PySem.W.kitOne K (.ref (shA K)) (.ref (shA K)) = some true) (kp : KfP K) (x y u v : Int) (hx : Fig x) (hy : Fig y) (Q : Po Sl) :
    Run (m_l_equal_right K) [.val (shD K x y), .val (shD K u v), .val (.tup [.int x, .int y]), .val (.tup [.int u, .int v])] Q = Q (.ok (.val (.bl true))) [.val (shD K x y), .val (shD K u v), .val (.tup [.int x, .int y]), .val (.tup [.int u, .int v])] := by
  obtain ⟨ta, fa, ga, la, oa⟩ := num_txt hx
  obtain ⟨tb, fb, gb, lb, obk⟩ := num_txt hy
  obtain ⟨pi, ps, pt, pl⟩ := isi_p K kp
  have s1 : gShow (He.ga K (Str.ofString "Share")) (m_share___str K) [shD K x y] = some (.val (.str (if y = 1 then ta else ((ta ++ Str.ofString "/") ++ tb)))) := gShow_of (r_str K kf x y ta tb fa fb la lb)
  generalize (if y = 1 then ta else ((ta ++ Str.ofString "/") ++ tb)) = tx at s1
  have e1 : gOwn (He.ga K (Str.ofString "Share")) (m_share___eq K) (shD K x y) (shD K u v) = some (.val (.bl (decide (x = u) && decide (y = v)))) := gOwn_of (r_eq K kf ob x y u v ki)
  have e2 : gOwnN (He.ga K (Str.ofString "Share")) (m_share___eq K) (shD K x y) (shD K u v) = some (.val (.bl (!(decide (x = u) && decide (y = v))))) := gOwnN_of (r_eq K kf ob x y u v ki)
  have e3 : gOwn (He.ga K (Str.ofString "Share")) (m_share___eq K) (shD K 7 3) (shD K u v) = some (.val (.bl (decide (7 = u) && decide (3 = v)))) := gOwn_of (r_eq K kf ob 7 3 u v ki)
  have e4 : gInOwn (He.ga K (Str.ofString "Share")) (m_share___eq K) (shD K u v) (.lst [shD K 7 3, shD K x y]) = some (.val (.bl ((decide (7 = u) && decide (3 = v)) || (decide (x = u) && decide (y = v))))) := by
    have a1 := @apart_sh K 7 3 u v
    have a2 := @apart_sh K x y u v
    have c1 : (apartD (shD K u v) (shD K u v)) = (apartD (shD K u v) (shD K u v)) := rfl
    unfold gInOwn
    have hi : gInOwn.insD (He.ga K (Str.ofString "Share")) (shD K u v) = true := by
      show (shA K == He.ga K (Str.ofString "Share")) = true
      simp
    show (if gInOwn.insD (He.ga K (Str.ofString "Share")) (shD K u v) = true then _ else none) = _
    rw [if_pos hi]
    simp only [inBs, e1, e3]
    cases p1 : (decide (7 = u) && decide (3 = v)) <;> cases p2 : (decide (x = u) && decide (y = v)) <;> simp [p1, p2, a1, a2]
  have o1 : gOwnP (He.ga K (Str.ofString "Share")) (m_share___eq K) (shD K x y) (.int x) = some (.val (.bl false)) := gOwnP_of rfl (r_eqP K x y _ (pi x))
  have o2 : gOwnP (He.ga K (Str.ofString "Share")) (m_share___eq K) (shD K x y) (.tup [.int x, .int y]) = some (.val (.bl false)) := gOwnP_of rfl (r_eqP K x y _ (pt _))
  have o3 : gOwnP (He.ga K (Str.ofString "Share")) (m_share___eq K) (shD K x y) (.str tx) = some (.val (.bl false)) := gOwnP_of rfl (r_eqP K x y _ (ps _))
  have o4 : gOwnP (He.ga K (Str.ofString "Share")) (m_share___eq K) (shD K x y) (.lst [shD K x y]) = some (.val (.bl false)) := gOwnP_of rfl (r_eqP K x y _ (pl _))
  have o5 : gOwnI (He.ga K (Str.ofString "Share")) (m_share___eq K) (.int x) (shD K x y) = some (.val (.bl false)) := gOwnI_of (r_eqP K x y _ (pi x))
  have q1 := @gEq_pair x y u v
  have q2 := @gNe_pair x y u v
  have q3 : gEq (.tup [.int u, .int v]) (.tup [.int 7, .int 3]) = some (.val (.bl (decide (7 = u) && decide (3 = v)))) := by
    rw [gEq_pair]
    have h1 : decide (u = 7) = decide (7 = u) := decide_eq_decide.mpr eq_comm
    have h2 : decide (v = 3) = decide (3 = v) := decide_eq_decide.mpr eq_comm
    rw [h1, h2]
  have i7 := r_init K kf 7 3 (by decide) (by decide +kernel)
  rw [sh73.1, sh73.2] at i7
  have dt7 : (Od.ins (shA K) shNs [.int 7, .int 3]).dt = shD K 7 3 := rfl
  generalize (decide (x = u) && decide (y = v)) = p at e1 e2 e4 q1 q2
  generalize (decide ((7 : Int) = u) && decide ((3 : Int) = v)) = q at e4 q3
  refine Run.same ?_ Q
  simp only [m_l_equal_right, ex_l_equal_right]
  cases p
  · cases q
    · simp (maxSteps := 4000000) (maxDischargeDepth := 6) [↓run_fMtV, ↓run_fMtVP, ↓run_fKeep, ↓keepK_ok, ↓run_fFmt, ↓run_fFmtD, ↓run_fJoin, ↓run_fJCons, ↓jK_ok, ↓jK_ex, ↓run_fPar, ↓parK_ok, ↓wstepK_nx, ↓wK_true, ↓wK_false, ↓run_fOrU, ↓run_fAndU, ↓run_fNotU, ↓run_fTru, ↓run_orU, ↓run_andU, ↓orK_some, ↓andK_some, ↓run_mP, ↓run_none, ↓run_mB, ↓run_mO, ↓run_vl, ↓run_mU, ↓run_fVar, ↓run_fOp, ↓run_fUn, ↓run_fCons, ↓run_fCB, ↓run_fTup, ↓run_fLst, ↓run_fB, ↓run_fIf, ↓run_fAndT, ↓run_fOrT, ↓run_fNotT, ↓run_fAndV, ↓run_fOrV, ↓run_fNotV, ↓run_fIsN, ↓run_fNotN, ↓run_fChain, ↓run_fSeq, ↓run_fDrop, ↓run_fRet, ↓run_fRetV, ↓run_fSet, ↓run_fAsg, ↓run_fRg, ↓run_fISU, ↓run_fFor, ↓run_fLc, ↓run_fIxV, ↓run_fLenV, ↓run_fReprV, ↓run_fApp, ↓run_gSetL, ↓run_fBVar, ↓run_fBCons, ↓run_callD, ↓run_fCk, ↓run_fCkP, ↓run_mDef, ↓run_fPart, ↓run_fSl, ↓run_fRevL, ↓run_fLM, ↓run_fM1, ↓run_fDGet, ↓run_fDIn, ↓run_fLenSet, ↓run_fFldU, ↓run_fAugL, ↓run_fMk, ↓run_fSFld, ↓run_fXm, ↓run_fRs, ↓run_fXval, ↓run_fGive, ↓run_fDc, ↓run_fLc2, ↓bindK_ok, ↓bindK_ex, ↓optQ_some, ↓optQ_none, ↓upQ_some, ↓upQ_none, ↓vlQ_val, ↓vlQ_own, ↓vlQ_un, ↓vlQ_ex, ↓varQ_val, ↓varQ_own, ↓retQ_val, ↓retQ_own, ↓tupK_ok, ↓tupK_ex, ↓lstK_ok, ↓lstK_ex, ↓ifK_ok, ↓ifK_ex, ↓seqK_nx, ↓seqK_bk, ↓seqK_ct, ↓seqK_rt, ↓seqK_ex, ↓ixK_ok, ↓ixK_ex, ↓lenQ_int, ↓appQ_own, ↓appK_ok, ↓appK_ex, ↓setP_some, ↓setQ_own, ↓setK_ok, ↓barQ_val, ↓barQ_own, ↓ckK2_ok, ↓ckK2_ex, ↓ckK_ok, ↓ckK_ex, ↓ckPK2_ok, ↓ckPK2_ex, ↓ckPK_ok, ↓ckPK_ex, ↓okQ_ok, ↓okQ_ex, ↓backK_eq, ↓dfQ_nx, ↓dfQ_rt, ↓dfQ_ex, ↓forK_ok, ↓forK_ex, ↓fturnK_bk, ↓fturnK_rt, ↓fturnK_nx, ↓fturnK_ct, ↓fturnK_ex, ↓lcK_ok, ↓lcK_ex, ↓lturnK_ok, ↓ltestK_ok, ↓lkeepK_ok, ↓lkeepK_ex, ↓lstepK_ok, ↓lstepK_ex, ↓fstepK_nx, ↓fstepK_ct, ↓fstepK_bk, ↓fstepK_rt, ↓fstepK_ex, ↓bQ_t, ↓bQ_true, ↓bQ_false, ↓ifQ_t, ↓ifQ_f, ↓ifQ_true, ↓ifQ_false, ↓put_eq, ↓revM_l, ↓lmM_l, ↓m1M_s, ↓augK_ok, ↓augQ1_int, ↓augQ2_ok, ↓madeK_ok, ↓madeK_ex, ↓mkK_ok, ↓mkK2_ok, ↓sfQ_some, ↓sfK_ok, ↓xmK_ok, ↓rsK_ok, ↓xvK_ok, ↓giveK_ok, ↓dcK_ok, ↓dvalK_ok, ↓dkeyK_ok, ↓dstepK_ok, ↓lc2K_ok, ↓innK_ok, ↓inn1K_ok, ↓inn2K_ok, gEq_int, gNe_int, gPow_ii, atI_lit, atI_at, ixN_lit, ixN_at, gAdd_ii, gAdd_ss, gAdd_ll, gAdd_tt, gMinus_ii, gMul_ii, okMul_l, okMul_r, gMul_li, gMod_ii, gDiv_ii, gLt_ii, gLt_ss, gLe_ii, gLe_ss, gGt_ii, gGe_ii, gIxS_own, gIxS_val, gIx_l, gIx_r, gIx_t, gIx_s, seqOf_l, seqOf_r, seqOf_t, seqU_l, seqU_r, seqU_t, seqU_s, gLen_l, gLen_r, gLen_t, gLen_s, unOk_val, unOk_own, unOk_none, toB_bl, slB_bl, isOL_own, isOw_own, isSeen_own, isSeen_val, dt_lst, rg1_int, rg2_int, inRg_of, isNonD, DL.seen, norm, norms, pinL, backsD, backs, lent, arSl, gPos, small, wipeR, gMul2_ii, gMul2_s, gNeg_int, toI_int, en2_l, en2_t, gSl_l, gSl_t, gTupleOf_l, gTupleOf_t, gListOf_l, gListOf_t, zp1_ll, zp1_tt, gT, gC, gN, notIn, gKw, Ar.up, -List.map_map, gDivA_ii, truD_bl, truD_non, truD_int, truD_lst, truD_rol, truD_tup, truD_dct, gS, e1, e2, e4, q1, q2, q3, gNe_bl, i7, dt7, o1, o2, o3, o4, o5, s1]
    · simp (maxSteps := 4000000) (maxDischargeDepth := 6) [↓run_fMtV, ↓run_fMtVP, ↓run_fKeep, ↓keepK_ok, ↓run_fFmt, ↓run_fFmtD, ↓run_fJoin, ↓run_fJCons, ↓jK_ok, ↓jK_ex, ↓run_fPar, ↓parK_ok, ↓wstepK_nx, ↓wK_true, ↓wK_false, ↓run_fOrU, ↓run_fAndU, ↓run_fNotU, ↓run_fTru, ↓run_orU, ↓run_andU, ↓orK_some, ↓andK_some, ↓run_mP, ↓run_none, ↓run_mB, ↓run_mO, ↓run_vl, ↓run_mU, ↓run_fVar, ↓run_fOp, ↓run_fUn, ↓run_fCons, ↓run_fCB, ↓run_fTup, ↓run_fLst, ↓run_fB, ↓run_fIf, ↓run_fAndT, ↓run_fOrT, ↓run_fNotT, ↓run_fAndV, ↓run_fOrV, ↓run_fNotV, ↓run_fIsN, ↓run_fNotN, ↓run_fChain, ↓run_fSeq, ↓run_fDrop, ↓run_fRet, ↓run_fRetV, ↓run_fSet, ↓run_fAsg, ↓run_fRg, ↓run_fISU, ↓run_fFor, ↓run_fLc, ↓run_fIxV, ↓run_fLenV, ↓run_fReprV, ↓run_fApp, ↓run_gSetL, ↓run_fBVar, ↓run_fBCons, ↓run_callD, ↓run_fCk, ↓run_fCkP, ↓run_mDef, ↓run_fPart, ↓run_fSl, ↓run_fRevL, ↓run_fLM, ↓run_fM1, ↓run_fDGet, ↓run_fDIn, ↓run_fLenSet, ↓run_fFldU, ↓run_fAugL, ↓run_fMk, ↓run_fSFld, ↓run_fXm, ↓run_fRs, ↓run_fXval, ↓run_fGive, ↓run_fDc, ↓run_fLc2, ↓bindK_ok, ↓bindK_ex, ↓optQ_some, ↓optQ_none, ↓upQ_some, ↓upQ_none, ↓vlQ_val, ↓vlQ_own, ↓vlQ_un, ↓vlQ_ex, ↓varQ_val, ↓varQ_own, ↓retQ_val, ↓retQ_own, ↓tupK_ok, ↓tupK_ex, ↓lstK_ok, ↓lstK_ex, ↓ifK_ok, ↓ifK_ex, ↓seqK_nx, ↓seqK_bk, ↓seqK_ct, ↓seqK_rt, ↓seqK_ex, ↓ixK_ok, ↓ixK_ex, ↓lenQ_int, ↓appQ_own, ↓appK_ok, ↓appK_ex, ↓setP_some, ↓setQ_own, ↓setK_ok, ↓barQ_val, ↓barQ_own, ↓ckK2_ok, ↓ckK2_ex, ↓ckK_ok, ↓ckK_ex, ↓ckPK2_ok, ↓ckPK2_ex, ↓ckPK_ok, ↓ckPK_ex, ↓okQ_ok, ↓okQ_ex, ↓backK_eq, ↓dfQ_nx, ↓dfQ_rt, ↓dfQ_ex, ↓forK_ok, ↓forK_ex, ↓fturnK_bk, ↓fturnK_rt, ↓fturnK_nx, ↓fturnK_ct, ↓fturnK_ex, ↓lcK_ok, ↓lcK_ex, ↓lturnK_ok, ↓ltestK_ok, ↓lkeepK_ok, ↓lkeepK_ex, ↓lstepK_ok, ↓lstepK_ex, ↓fstepK_nx, ↓fstepK_ct, ↓fstepK_bk, ↓fstepK_rt, ↓fstepK_ex, ↓bQ_t, ↓bQ_true, ↓bQ_false, ↓ifQ_t, ↓ifQ_f, ↓ifQ_true, ↓ifQ_false, ↓put_eq, ↓revM_l, ↓lmM_l, ↓m1M_s, ↓augK_ok, ↓augQ1_int, ↓augQ2_ok, ↓madeK_ok, ↓madeK_ex, ↓mkK_ok, ↓mkK2_ok, ↓sfQ_some, ↓sfK_ok, ↓xmK_ok, ↓rsK_ok, ↓xvK_ok, ↓giveK_ok, ↓dcK_ok, ↓dvalK_ok, ↓dkeyK_ok, ↓dstepK_ok, ↓lc2K_ok, ↓innK_ok, ↓inn1K_ok, ↓inn2K_ok, gEq_int, gNe_int, gPow_ii, atI_lit, atI_at, ixN_lit, ixN_at, gAdd_ii, gAdd_ss, gAdd_ll, gAdd_tt, gMinus_ii, gMul_ii, okMul_l, okMul_r, gMul_li, gMod_ii, gDiv_ii, gLt_ii, gLt_ss, gLe_ii, gLe_ss, gGt_ii, gGe_ii, gIxS_own, gIxS_val, gIx_l, gIx_r, gIx_t, gIx_s, seqOf_l, seqOf_r, seqOf_t, seqU_l, seqU_r, seqU_t, seqU_s, gLen_l, gLen_r, gLen_t, gLen_s, unOk_val, unOk_own, unOk_none, toB_bl, slB_bl, isOL_own, isOw_own, isSeen_own, isSeen_val, dt_lst, rg1_int, rg2_int, inRg_of, isNonD, DL.seen, norm, norms, pinL, backsD, backs, lent, arSl, gPos, small, wipeR, gMul2_ii, gMul2_s, gNeg_int, toI_int, en2_l, en2_t, gSl_l, gSl_t, gTupleOf_l, gTupleOf_t, gListOf_l, gListOf_t, zp1_ll, zp1_tt, gT, gC, gN, notIn, gKw, Ar.up, -List.map_map, gDivA_ii, truD_bl, truD_non, truD_int, truD_lst, truD_rol, truD_tup, truD_dct, gS, e1, e2, e4, q1, q2, q3, gNe_bl, i7, dt7, o1, o2, o3, o4, o5, s1]
  · simp (maxSteps := 4000000) (maxDischargeDepth := 6) [↓run_fMtV, ↓run_fMtVP, ↓run_fKeep, ↓keepK_ok, ↓run_fFmt, ↓run_fFmtD, ↓run_fJoin, ↓run_fJCons, ↓jK_ok, ↓jK_ex, ↓run_fPar, ↓parK_ok, ↓wstepK_nx, ↓wK_true, ↓wK_false, ↓run_fOrU, ↓run_fAndU, ↓run_fNotU, ↓run_fTru, ↓run_orU, ↓run_andU, ↓orK_some, ↓andK_some, ↓run_mP, ↓run_none, ↓run_mB, ↓run_mO, ↓run_vl, ↓run_mU, ↓run_fVar, ↓run_fOp, ↓run_fUn, ↓run_fCons, ↓run_fCB, ↓run_fTup, ↓run_fLst, ↓run_fB, ↓run_fIf, ↓run_fAndT, ↓run_fOrT, ↓run_fNotT, ↓run_fAndV, ↓run_fOrV, ↓run_fNotV, ↓run_fIsN, ↓run_fNotN, ↓run_fChain, ↓run_fSeq, ↓run_fDrop, ↓run_fRet, ↓run_fRetV, ↓run_fSet, ↓run_fAsg, ↓run_fRg, ↓run_fISU, ↓run_fFor, ↓run_fLc, ↓run_fIxV, ↓run_fLenV, ↓run_fReprV, ↓run_fApp, ↓run_gSetL, ↓run_fBVar, ↓run_fBCons, ↓run_callD, ↓run_fCk, ↓run_fCkP, ↓run_mDef, ↓run_fPart, ↓run_fSl, ↓run_fRevL, ↓run_fLM, ↓run_fM1, ↓run_fDGet, ↓run_fDIn, ↓run_fLenSet, ↓run_fFldU, ↓run_fAugL, ↓run_fMk, ↓run_fSFld, ↓run_fXm, ↓run_fRs, ↓run_fXval, ↓run_fGive, ↓run_fDc, ↓run_fLc2, ↓bindK_ok, ↓bindK_ex, ↓optQ_some, ↓optQ_none, ↓upQ_some, ↓upQ_none, ↓vlQ_val, ↓vlQ_own, ↓vlQ_un, ↓vlQ_ex, ↓varQ_val, ↓varQ_own, ↓retQ_val, ↓retQ_own, ↓tupK_ok, ↓tupK_ex, ↓lstK_ok, ↓lstK_ex, ↓ifK_ok, ↓ifK_ex, ↓seqK_nx, ↓seqK_bk, ↓seqK_ct, ↓seqK_rt, ↓seqK_ex, ↓ixK_ok, ↓ixK_ex, ↓lenQ_int, ↓appQ_own, ↓appK_ok, ↓appK_ex, ↓setP_some, ↓setQ_own, ↓setK_ok, ↓barQ_val, ↓barQ_own, ↓ckK2_ok, ↓ckK2_ex, ↓ckK_ok, ↓ckK_ex, ↓ckPK2_ok, ↓ckPK2_ex, ↓ckPK_ok, ↓ckPK_ex, ↓okQ_ok, ↓okQ_ex, ↓backK_eq, ↓dfQ_nx, ↓dfQ_rt, ↓dfQ_ex, ↓forK_ok, ↓forK_ex, ↓fturnK_bk, ↓fturnK_rt, ↓fturnK_nx, ↓fturnK_ct, ↓fturnK_ex, ↓lcK_ok, ↓lcK_ex, ↓lturnK_ok, ↓ltestK_ok, ↓lkeepK_ok, ↓lkeepK_ex, ↓lstepK_ok, ↓lstepK_ex, ↓fstepK_nx, ↓fstepK_ct, ↓fstepK_bk, ↓fstepK_rt, ↓fstepK_ex, ↓bQ_t, ↓bQ_true, ↓bQ_false, ↓ifQ_t, ↓ifQ_f, ↓ifQ_true, ↓ifQ_false, ↓put_eq, ↓revM_l, ↓lmM_l, ↓m1M_s, ↓augK_ok, ↓augQ1_int, ↓augQ2_ok, ↓madeK_ok, ↓madeK_ex, ↓mkK_ok, ↓mkK2_ok, ↓sfQ_some, ↓sfK_ok, ↓xmK_ok, ↓rsK_ok, ↓xvK_ok, ↓giveK_ok, ↓dcK_ok, ↓dvalK_ok, ↓dkeyK_ok, ↓dstepK_ok, ↓lc2K_ok, ↓innK_ok, ↓inn1K_ok, ↓inn2K_ok, gEq_int, gNe_int, gPow_ii, atI_lit, atI_at, ixN_lit, ixN_at, gAdd_ii, gAdd_ss, gAdd_ll, gAdd_tt, gMinus_ii, gMul_ii, okMul_l, okMul_r, gMul_li, gMod_ii, gDiv_ii, gLt_ii, gLt_ss, gLe_ii, gLe_ss, gGt_ii, gGe_ii, gIxS_own, gIxS_val, gIx_l, gIx_r, gIx_t, gIx_s, seqOf_l, seqOf_r, seqOf_t, seqU_l, seqU_r, seqU_t, seqU_s, gLen_l, gLen_r, gLen_t, gLen_s, unOk_val, unOk_own, unOk_none, toB_bl, slB_bl, isOL_own, isOw_own, isSeen_own, isSeen_val, dt_lst, rg1_int, rg2_int, inRg_of, isNonD, DL.seen, norm, norms, pinL, backsD, backs, lent, arSl, gPos, small, wipeR, gMul2_ii, gMul2_s, gNeg_int, toI_int, en2_l, en2_t, gSl_l, gSl_t, gTupleOf_l, gTupleOf_t, gListOf_l, gListOf_t, zp1_ll, zp1_tt, gT, gC, gN, notIn, gKw, Ar.up, -List.map_map, gDivA_ii, truD_bl, truD_non, truD_int, truD_lst, truD_rol, truD_tup, truD_dct, gS, e1, e2, e4, q1, q2, q3, gNe_bl, i7, dt7, o1, o2, o3, o4, o5, s1]
end CROWDSAY_K30_SHARES

end
section
set_option Elab.async false
set_option linter.all false
set_option maxRecDepth 100000
set_option maxHeartbeats 8000000
set_option exponentiation.threshold 500
namespace CROWDSAY_K30_SHARES
open PySem PySem.Spec PyProof.Rows L2 DL
theorem fdiv_of {a t p : Int} (h : a = t * p) (p0 : p ≠ 0) : a.fdiv p = t := by
  rw [h, Int.mul_comm, Int.mul_fdiv_cancel_left _ p0]
theorem prt_six (a b : Int) : prt (a * 6) (b * 6) = prt a b * 6 := by
  have e : Nat.gcd (a * 6).natAbs (b * 6).natAbs = Nat.gcd a.natAbs b.natAbs * 6 := by
    rw [Int.natAbs_mul, Int.natAbs_mul]
    exact Nat.gcd_mul_right _ _ _
  unfold prt
  rw [e]
  by_cases h : b < 0
  · rw [if_pos h, if_pos (show b * 6 < 0 by omega)]; omega
  · rw [if_neg h, if_neg (show ¬ b * 6 < 0 by omega)]; omega
theorem shT_six {a b : Int} (h : b ≠ 0) : shT (a * 6) (b * 6) = shT a b := by
  have p0 := prt_ne (a := a) h
  unfold shT
  rw [prt_six]
  refine fdiv_of ?_ (by omega)
  have := shT_mul a b
  unfold shT at this
  rw [← Int.mul_assoc, this]
theorem shB_six {a b : Int} (h : b ≠ 0) : shB (a * 6) (b * 6) = shB a b := by
  have p0 := prt_ne (a := a) h
  unfold shB
  rw [prt_six]
  refine fdiv_of ?_ (by omega)
  have := shB_mul a b
  unfold shB at this
  rw [← Int.mul_assoc, this]
theorem prt_one (a : Int) : prt a 1 = 1 := by
  unfold prt
  rw [if_neg (by decide)]
  simp
theorem sh_one (a : Int) : shT a 1 = a ∧ shB a 1 = 1 := by
  unfold shT shB
  rw [prt_one]
  simp
theorem prt_zero (b : Int) : prt 0 b = b := by
  unfold prt
  split <;> simp <;> omega
theorem sh_zero {b : Int} (h : b ≠ 0) : shT 0 b = 0 ∧ shB 0 b = 1 := by
  unfold shT shB
  rw [prt_zero]
  exact ⟨by simp, Int.fdiv_self h⟩
theorem bd_le {x y : Int} (h : x.natAbs ≤ y.natAbs) (hy : Bd y) : Bd x := Nat.lt_of_le_of_lt h hy
theorem bd_59 {x : Int} (h : x.natAbs ≤ 10 ^ 59) : (x * 6).natAbs < 2 ^ 200 ∧ Bd x := by
  have : (10 : Nat) ^ 59 * 6 < 2 ^ 200 := by decide
  have e6 : (6 : Int).natAbs = 6 := rfl
  refine ⟨by rw [Int.natAbs_mul, e6]; omega, ?_⟩
  unfold Bd
  omega
def bdSh {a b : Int} (h : b ≠ 0) (ha : Bd a) : Bd (shT a b) := bd_le (shT_le h) ha
theorem lt402 {x : Int} (h : Bd x) : x.natAbs < 2 ^ 402 := Nat.lt_trans h (by decide)
/-- what the whole numbers are -/
def JW (mk : Int → List Sl) (j : Nat) (acc : List Dt) (ρ : List Sl) : Prop := ∃ (m : Int) (cs : List Int), acc = cs.map Dt.int ∧ cs.length = j ∧ (∀ c ∈ cs, c.natAbs ≤ 10 ^ 59) ∧ ρ = mk m
def J_law (S : Dt) (_ : Nat) (ρ : List Sl) : Prop := ∃ a b c d e f g h i j k, ρ = [.val S, a, b, c, d, e, f, g, h, i, j, k]
theorem dt_sh {K : Fg} {a b : Int} : (Od.ins (shA K) shNs [.int a, .int b]).dt = shD K a b := rfl
/-- what two numbers that make a share come to -/
structure Fx (K : Fg) (a b : Int) : Prop where
  i1 : ∀ Q : Po Sl, Run (m_share___init K) [.own (.ins (shA K) [] []), .val (.int a), .val (.int b)] Q = Q (.ok (.val .non)) [.own (.ins (shA K) shNs [.int (shT a b), .int (shB a b)]), .val (.int a), .val (.int b)]
  i2 : ∀ Q : Po Sl, Run (m_share___init K) [.own (.ins (shA K) [] []), .val (.int a), .val (.int 1)] Q = Q (.ok (.val .non)) [.own (.ins (shA K) shNs [.int a, .int 1]), .val (.int a), .val (.int 1)]
  i3 : ∀ Q : Po Sl, Run (m_share___init K) [.own (.ins (shA K) [] []), .val (.int 0), .val (.int b)] Q = Q (.ok (.val .non)) [.own (.ins (shA K) shNs [.int 0, .int 1]), .val (.int 0), .val (.int b)]
  i4 : ∀ Q : Po Sl, Run (m_share___init K) [.own (.ins (shA K) [] []), .val (.int (a * 6)), .val (.int (b * 6))] Q = Q (.ok (.val .non)) [.own (.ins (shA K) shNs [.int (shT a b), .int (shB a b)]), .val (.int (a * 6)), .val (.int (b * 6))]
  m1 : gMul2 (.int a) (.int 6) = some (.val (.int (a * 6)))
  m2 : gMul2 (.int b) (.int 6) = some (.val (.int (b * 6)))
  s : ∀ Q : Po Sl, Run (m_l_share K) [.val (.int a), .val (.int b)] Q = Q (.ok (.val (.tup [.int (shT a b), .int (shB a b)]))) [.val (.int a), .val (.int b)]
  t1 : ∀ Q : Po Sl, Run (m_l_is_share K) [.val (shD K (shT a b) (shB a b)), .val (.tup [.int (shT a b), .int (shB a b)])] Q = Q (.ok (.val (.bl true))) [.val (shD K (shT a b) (shB a b)), .val (.tup [.int (shT a b), .int (shB a b)])]
  t2 : ∀ Q : Po Sl, Run (m_l_is_share K) [.val (shD K a 1), .val (.tup [.int a, .int 1])] Q = Q (.ok (.val (.bl true))) [.val (shD K a 1), .val (.tup [.int a, .int 1])]
  t3 : ∀ Q : Po Sl, Run (m_l_is_share K) [.val (shD K 0 1), .val (.tup [.int 0, .int 1])] Q = Q (.ok (.val (.bl true))) [.val (shD K 0 1), .val (.tup [.int 0, .int 1])]
  r : ∀ Q : Po Sl, Run (m_l_refused K) [.val (.bl false), .val (.int a), .val (.int 0)] Q = Q (.ok (.val (.int a))) [.val (.bl false), .val (.int a), .val (.int 0)]
  bt : Bd (shT a b)
  bb : Bd (shB a b)
  b0 : shB a b ≠ 0
theorem mkFx (K : Fg) (kf : KfS K) (ob : ObjCls K (shA K)) (ki : PySem.W.kitOne K (.ref (shA K)) (.ref (shA K)) = some true) (kz : KfZ K) (a b : Int) (ha : a.natAbs ≤ 10 ^ 59) (hb : b.natAbs ≤ 10 ^ 59) (h0 : b ≠ 0) : Fx K a b := by
  obtain ⟨a6, ba⟩ := bd_59 ha
  obtain ⟨b6, bb⟩ := bd_59 hb
  have h6 : b * 6 ≠ 0 := by omega
  have B1 : Bd (1 : Int) := by unfold Bd; decide
  have B0 : Bd (0 : Int) := by unfold Bd; decide
  have B6 : Bd (6 : Int) := by unfold Bd; decide
  refine ⟨r_init K kf a b h0 (prt_log h0 (lt402 bb)), ?_, ?_, ?_, gMul2_w (sz_mul (bd_sz ba) (bd_sz B6)), gMul2_w (sz_mul (bd_sz bb) (bd_sz B6)), r_share K a b h0 (prt_log h0 (lt402 bb)), r_is_share K kf ob ki _ _ (fig_T h0 (lt402 ba)) (fig_B h0 (lt402 bb)),
    r_is_share K kf ob ki _ _ (fig_of (lt402 ba)) (fig_of (lt402 B1)), r_is_share K kf ob ki _ _ (fig_of (lt402 B0)) (fig_of (lt402 B1)), r_refused2 K kf kz a (ok_int ba), bd_le (shT_le h0) ba, bd_le (shB_le h0) bb, shB_ne h0⟩
  · have := r_init K kf a 1 (by decide) (prt_log (by decide) (lt402 B1))
    rwa [(sh_one a).1, (sh_one a).2] at this
  · have := r_init K kf 0 b h0 (prt_log h0 (lt402 bb))
    rwa [(sh_zero h0).1, (sh_zero h0).2] at this
  · have := r_init K kf (a * 6) (b * 6) h6 (prt_log h6 (lt402 b6))
    rwa [shT_six h0, shB_six h0] at this
theorem left_law (K : Fg) (kf : KfS K) (ob : ObjCls K (shA K)) (ki : PySem.W.kitOne K (.ref (shA K)) (.ref (shA K)) = some true) (kz : KfZ K) (kp : KfP K) (ns : List Int) (hl : ns.length ≤ 63) :
    Run (m_law K) [.val (.rol (ns.map Dt.int))] (fun r _ => r = .ok (.val (.bl true))) := by
  simp only [m_law, ex_law]
  have q1 : inRg (if (2 : Int) < (if (ns.length : Int) < 8 then (ns.length : Int) else 8) then (if (ns.length : Int) < 8 then (ns.length : Int) else 8) else 2) = true := inRg_of (by split <;> split <;> omega) (by split <;> split <;> omega)
  simp (maxSteps := 4000000) (maxDischargeDepth := 6) [↓run_fMtV, ↓run_fMtVP, ↓run_fKeep, ↓keepK_ok, ↓run_fFmt, ↓run_fFmtD, ↓run_fJoin, ↓run_fJCons, ↓jK_ok, ↓jK_ex, ↓run_fPar, ↓parK_ok, ↓wstepK_nx, ↓wK_true, ↓wK_false, ↓run_fOrU, ↓run_fAndU, ↓run_fNotU, ↓run_fTru, ↓run_orU, ↓run_andU, ↓orK_some, ↓andK_some, ↓run_mP, ↓run_none, ↓run_mB, ↓run_mO, ↓run_vl, ↓run_mU, ↓run_fVar, ↓run_fOp, ↓run_fUn, ↓run_fCons, ↓run_fCB, ↓run_fTup, ↓run_fLst, ↓run_fB, ↓run_fIf, ↓run_fAndT, ↓run_fOrT, ↓run_fNotT, ↓run_fAndV, ↓run_fOrV, ↓run_fNotV, ↓run_fIsN, ↓run_fNotN, ↓run_fChain, ↓run_fSeq, ↓run_fDrop, ↓run_fRet, ↓run_fRetV, ↓run_fSet, ↓run_fAsg, ↓run_fRg, ↓run_fISU, ↓run_fFor, ↓run_fLc, ↓run_fIxV, ↓run_fLenV, ↓run_fReprV, ↓run_fApp, ↓run_gSetL, ↓run_fBVar, ↓run_fBCons, ↓run_callD, ↓run_fCk, ↓run_fCkP, ↓run_mDef, ↓run_fPart, ↓run_fSl, ↓run_fRevL, ↓run_fLM, ↓run_fM1, ↓run_fDGet, ↓run_fDIn, ↓run_fLenSet, ↓run_fFldU, ↓run_fAugL, ↓run_fMk, ↓run_fSFld, ↓run_fXm, ↓run_fRs, ↓run_fXval, ↓run_fGive, ↓run_fDc, ↓run_fLc2, ↓bindK_ok, ↓bindK_ex, ↓optQ_some, ↓optQ_none, ↓upQ_some, ↓upQ_none, ↓vlQ_val, ↓vlQ_own, ↓vlQ_un, ↓vlQ_ex, ↓varQ_val, ↓varQ_own, ↓retQ_val, ↓retQ_own, ↓tupK_ok, ↓tupK_ex, ↓lstK_ok, ↓lstK_ex, ↓ifK_ok, ↓ifK_ex, ↓seqK_nx, ↓seqK_bk, ↓seqK_ct, ↓seqK_rt, ↓seqK_ex, ↓ixK_ok, ↓ixK_ex, ↓lenQ_int, ↓appQ_own, ↓appK_ok, ↓appK_ex, ↓setP_some, ↓setQ_own, ↓setK_ok, ↓barQ_val, ↓barQ_own, ↓ckK2_ok, ↓ckK2_ex, ↓ckK_ok, ↓ckK_ex, ↓ckPK2_ok, ↓ckPK2_ex, ↓ckPK_ok, ↓ckPK_ex, ↓okQ_ok, ↓okQ_ex, ↓backK_eq, ↓dfQ_nx, ↓dfQ_rt, ↓dfQ_ex, ↓forK_ok, ↓forK_ex, ↓fturnK_bk, ↓fturnK_rt, ↓fturnK_nx, ↓fturnK_ct, ↓fturnK_ex, ↓lcK_ok, ↓lcK_ex, ↓lturnK_ok, ↓ltestK_ok, ↓lkeepK_ok, ↓lkeepK_ex, ↓lstepK_ok, ↓lstepK_ex, ↓fstepK_nx, ↓fstepK_ct, ↓fstepK_bk, ↓fstepK_rt, ↓fstepK_ex, ↓bQ_t, ↓bQ_true, ↓bQ_false, ↓ifQ_t, ↓ifQ_f, ↓ifQ_true, ↓ifQ_false, ↓put_eq, ↓revM_l, ↓lmM_l, ↓m1M_s, ↓augK_ok, ↓augQ1_int, ↓augQ2_ok, ↓madeK_ok, ↓madeK_ex, ↓mkK_ok, ↓mkK2_ok, ↓sfQ_some, ↓sfK_ok, ↓xmK_ok, ↓rsK_ok, ↓xvK_ok, ↓giveK_ok, ↓dcK_ok, ↓dvalK_ok, ↓dkeyK_ok, ↓dstepK_ok, ↓lc2K_ok, ↓innK_ok, ↓inn1K_ok, ↓inn2K_ok, gEq_int, gNe_int, gPow_ii, atI_lit, atI_at, ixN_lit, ixN_at, gAdd_ii, gAdd_ss, gAdd_ll, gAdd_tt, gMinus_ii, gMul_ii, okMul_l, okMul_r, gMul_li, gMod_ii, gDiv_ii, gLt_ii, gLt_ss, gLe_ii, gLe_ss, gGt_ii, gGe_ii, gIxS_own, gIxS_val, gIx_l, gIx_r, gIx_t, gIx_s, seqOf_l, seqOf_r, seqOf_t, seqU_l, seqU_r, seqU_t, seqU_s, gLen_l, gLen_r, gLen_t, gLen_s, unOk_val, unOk_own, unOk_none, toB_bl, slB_bl, isOL_own, isOw_own, isSeen_own, isSeen_val, dt_lst, rg1_int, rg2_int, inRg_of, isNonD, DL.seen, norm, norms, pinL, backsD, backs, lent, arSl, gPos, small, wipeR, gMul2_ii, gMul2_s, gNeg_int, toI_int, en2_l, en2_t, gSl_l, gSl_t, gTupleOf_l, gTupleOf_t, gListOf_l, gListOf_t, zp1_ll, zp1_tt, gT, gC, gN, notIn, gKw, Ar.up, -List.map_map, gDivA_ii, truD_bl, truD_non, truD_int, truD_lst, truD_rol, truD_tup, truD_dct, gS, gMin2, gMax2, q1]
  refine run_for (J_law (.rol (ns.map Dt.int))) ⟨_, _, _, _, _, _, _, _, _, _, _, rfl⟩ ?_ ?_
  · rintro j dd ρ hd ⟨a, b, c, d, e, f, g, h, i, i', i'', rfl⟩
    obtain ⟨hj, rfl⟩ := rangeD_get hd
    simp (maxSteps := 4000000) (maxDischargeDepth := 6) [↓run_fMtV, ↓run_fMtVP, ↓run_fKeep, ↓keepK_ok, ↓run_fFmt, ↓run_fFmtD, ↓run_fJoin, ↓run_fJCons, ↓jK_ok, ↓jK_ex, ↓run_fPar, ↓parK_ok, ↓wstepK_nx, ↓wK_true, ↓wK_false, ↓run_fOrU, ↓run_fAndU, ↓run_fNotU, ↓run_fTru, ↓run_orU, ↓run_andU, ↓orK_some, ↓andK_some, ↓run_mP, ↓run_none, ↓run_mB, ↓run_mO, ↓run_vl, ↓run_mU, ↓run_fVar, ↓run_fOp, ↓run_fUn, ↓run_fCons, ↓run_fCB, ↓run_fTup, ↓run_fLst, ↓run_fB, ↓run_fIf, ↓run_fAndT, ↓run_fOrT, ↓run_fNotT, ↓run_fAndV, ↓run_fOrV, ↓run_fNotV, ↓run_fIsN, ↓run_fNotN, ↓run_fChain, ↓run_fSeq, ↓run_fDrop, ↓run_fRet, ↓run_fRetV, ↓run_fSet, ↓run_fAsg, ↓run_fRg, ↓run_fISU, ↓run_fFor, ↓run_fLc, ↓run_fIxV, ↓run_fLenV, ↓run_fReprV, ↓run_fApp, ↓run_gSetL, ↓run_fBVar, ↓run_fBCons, ↓run_callD, ↓run_fCk, ↓run_fCkP, ↓run_mDef, ↓run_fPart, ↓run_fSl, ↓run_fRevL, ↓run_fLM, ↓run_fM1, ↓run_fDGet, ↓run_fDIn, ↓run_fLenSet, ↓run_fFldU, ↓run_fAugL, ↓run_fMk, ↓run_fSFld, ↓run_fXm, ↓run_fRs, ↓run_fXval, ↓run_fGive, ↓run_fDc, ↓run_fLc2, ↓bindK_ok, ↓bindK_ex, ↓optQ_some, ↓optQ_none, ↓upQ_some, ↓upQ_none, ↓vlQ_val, ↓vlQ_own, ↓vlQ_un, ↓vlQ_ex, ↓varQ_val, ↓varQ_own, ↓retQ_val, ↓retQ_own, ↓tupK_ok, ↓tupK_ex, ↓lstK_ok, ↓lstK_ex, ↓ifK_ok, ↓ifK_ex, ↓seqK_nx, ↓seqK_bk, ↓seqK_ct, ↓seqK_rt, ↓seqK_ex, ↓ixK_ok, ↓ixK_ex, ↓lenQ_int, ↓appQ_own, ↓appK_ok, ↓appK_ex, ↓setP_some, ↓setQ_own, ↓setK_ok, ↓barQ_val, ↓barQ_own, ↓ckK2_ok, ↓ckK2_ex, ↓ckK_ok, ↓ckK_ex, ↓ckPK2_ok, ↓ckPK2_ex, ↓ckPK_ok, ↓ckPK_ex, ↓okQ_ok, ↓okQ_ex, ↓backK_eq, ↓dfQ_nx, ↓dfQ_rt, ↓dfQ_ex, ↓forK_ok, ↓forK_ex, ↓fturnK_bk, ↓fturnK_rt, ↓fturnK_nx, ↓fturnK_ct, ↓fturnK_ex, ↓lcK_ok, ↓lcK_ex, ↓lturnK_ok, ↓ltestK_ok, ↓lkeepK_ok, ↓lkeepK_ex, ↓lstepK_ok, ↓lstepK_ex, ↓fstepK_nx, ↓fstepK_ct, ↓fstepK_bk, ↓fstepK_rt, ↓fstepK_ex, ↓bQ_t, ↓bQ_true, ↓bQ_false, ↓ifQ_t, ↓ifQ_f, ↓ifQ_true, ↓ifQ_false, ↓put_eq, ↓revM_l, ↓lmM_l, ↓m1M_s, ↓augK_ok, ↓augQ1_int, ↓augQ2_ok, ↓madeK_ok, ↓madeK_ex, ↓mkK_ok, ↓mkK2_ok, ↓sfQ_some, ↓sfK_ok, ↓xmK_ok, ↓rsK_ok, ↓xvK_ok, ↓giveK_ok, ↓dcK_ok, ↓dvalK_ok, ↓dkeyK_ok, ↓dstepK_ok, ↓lc2K_ok, ↓innK_ok, ↓inn1K_ok, ↓inn2K_ok, gEq_int, gNe_int, gPow_ii, atI_lit, atI_at, ixN_lit, ixN_at, gAdd_ii, gAdd_ss, gAdd_ll, gAdd_tt, gMinus_ii, gMul_ii, okMul_l, okMul_r, gMul_li, gMod_ii, gDiv_ii, gLt_ii, gLt_ss, gLe_ii, gLe_ss, gGt_ii, gGe_ii, gIxS_own, gIxS_val, gIx_l, gIx_r, gIx_t, gIx_s, seqOf_l, seqOf_r, seqOf_t, seqU_l, seqU_r, seqU_t, seqU_s, gLen_l, gLen_r, gLen_t, gLen_s, unOk_val, unOk_own, unOk_none, toB_bl, slB_bl, isOL_own, isOw_own, isSeen_own, isSeen_val, dt_lst, rg1_int, rg2_int, inRg_of, isNonD, DL.seen, norm, norms, pinL, backsD, backs, lent, arSl, gPos, small, wipeR, gMul2_ii, gMul2_s, gNeg_int, toI_int, en2_l, en2_t, gSl_l, gSl_t, gTupleOf_l, gTupleOf_t, gListOf_l, gListOf_t, zp1_ll, zp1_tt, gT, gC, gN, notIn, gKw, Ar.up, -List.map_map, gDivA_ii, truD_bl, truD_non, truD_int, truD_lst, truD_rol, truD_tup, truD_dct, gS]
    refine (r_tape K ns j).mono ?_
    rintro r ρ ⟨n, rfl, rfl⟩
    have q2 : inRg 4 = true := by decide
    simp (maxSteps := 4000000) (maxDischargeDepth := 6) [↓run_fMtV, ↓run_fMtVP, ↓run_fKeep, ↓keepK_ok, ↓run_fFmt, ↓run_fFmtD, ↓run_fJoin, ↓run_fJCons, ↓jK_ok, ↓jK_ex, ↓run_fPar, ↓parK_ok, ↓wstepK_nx, ↓wK_true, ↓wK_false, ↓run_fOrU, ↓run_fAndU, ↓run_fNotU, ↓run_fTru, ↓run_orU, ↓run_andU, ↓orK_some, ↓andK_some, ↓run_mP, ↓run_none, ↓run_mB, ↓run_mO, ↓run_vl, ↓run_mU, ↓run_fVar, ↓run_fOp, ↓run_fUn, ↓run_fCons, ↓run_fCB, ↓run_fTup, ↓run_fLst, ↓run_fB, ↓run_fIf, ↓run_fAndT, ↓run_fOrT, ↓run_fNotT, ↓run_fAndV, ↓run_fOrV, ↓run_fNotV, ↓run_fIsN, ↓run_fNotN, ↓run_fChain, ↓run_fSeq, ↓run_fDrop, ↓run_fRet, ↓run_fRetV, ↓run_fSet, ↓run_fAsg, ↓run_fRg, ↓run_fISU, ↓run_fFor, ↓run_fLc, ↓run_fIxV, ↓run_fLenV, ↓run_fReprV, ↓run_fApp, ↓run_gSetL, ↓run_fBVar, ↓run_fBCons, ↓run_callD, ↓run_fCk, ↓run_fCkP, ↓run_mDef, ↓run_fPart, ↓run_fSl, ↓run_fRevL, ↓run_fLM, ↓run_fM1, ↓run_fDGet, ↓run_fDIn, ↓run_fLenSet, ↓run_fFldU, ↓run_fAugL, ↓run_fMk, ↓run_fSFld, ↓run_fXm, ↓run_fRs, ↓run_fXval, ↓run_fGive, ↓run_fDc, ↓run_fLc2, ↓bindK_ok, ↓bindK_ex, ↓optQ_some, ↓optQ_none, ↓upQ_some, ↓upQ_none, ↓vlQ_val, ↓vlQ_own, ↓vlQ_un, ↓vlQ_ex, ↓varQ_val, ↓varQ_own, ↓retQ_val, ↓retQ_own, ↓tupK_ok, ↓tupK_ex, ↓lstK_ok, ↓lstK_ex, ↓ifK_ok, ↓ifK_ex, ↓seqK_nx, ↓seqK_bk, ↓seqK_ct, ↓seqK_rt, ↓seqK_ex, ↓ixK_ok, ↓ixK_ex, ↓lenQ_int, ↓appQ_own, ↓appK_ok, ↓appK_ex, ↓setP_some, ↓setQ_own, ↓setK_ok, ↓barQ_val, ↓barQ_own, ↓ckK2_ok, ↓ckK2_ex, ↓ckK_ok, ↓ckK_ex, ↓ckPK2_ok, ↓ckPK2_ex, ↓ckPK_ok, ↓ckPK_ex, ↓okQ_ok, ↓okQ_ex, ↓backK_eq, ↓dfQ_nx, ↓dfQ_rt, ↓dfQ_ex, ↓forK_ok, ↓forK_ex, ↓fturnK_bk, ↓fturnK_rt, ↓fturnK_nx, ↓fturnK_ct, ↓fturnK_ex, ↓lcK_ok, ↓lcK_ex, ↓lturnK_ok, ↓ltestK_ok, ↓lkeepK_ok, ↓lkeepK_ex, ↓lstepK_ok, ↓lstepK_ex, ↓fstepK_nx, ↓fstepK_ct, ↓fstepK_bk, ↓fstepK_rt, ↓fstepK_ex, ↓bQ_t, ↓bQ_true, ↓bQ_false, ↓ifQ_t, ↓ifQ_f, ↓ifQ_true, ↓ifQ_false, ↓put_eq, ↓revM_l, ↓lmM_l, ↓m1M_s, ↓augK_ok, ↓augQ1_int, ↓augQ2_ok, ↓madeK_ok, ↓madeK_ex, ↓mkK_ok, ↓mkK2_ok, ↓sfQ_some, ↓sfK_ok, ↓xmK_ok, ↓rsK_ok, ↓xvK_ok, ↓giveK_ok, ↓dcK_ok, ↓dvalK_ok, ↓dkeyK_ok, ↓dstepK_ok, ↓lc2K_ok, ↓innK_ok, ↓inn1K_ok, ↓inn2K_ok, gEq_int, gNe_int, gPow_ii, atI_lit, atI_at, ixN_lit, ixN_at, gAdd_ii, gAdd_ss, gAdd_ll, gAdd_tt, gMinus_ii, gMul_ii, okMul_l, okMul_r, gMul_li, gMod_ii, gDiv_ii, gLt_ii, gLt_ss, gLe_ii, gLe_ss, gGt_ii, gGe_ii, gIxS_own, gIxS_val, gIx_l, gIx_r, gIx_t, gIx_s, seqOf_l, seqOf_r, seqOf_t, seqU_l, seqU_r, seqU_t, seqU_s, gLen_l, gLen_r, gLen_t, gLen_s, unOk_val, unOk_own, unOk_none, toB_bl, slB_bl, isOL_own, isOw_own, isSeen_own, isSeen_val, dt_lst, rg1_int, rg2_int, inRg_of, isNonD, DL.seen, norm, norms, pinL, backsD, backs, lent, arSl, gPos, small, wipeR, gMul2_ii, gMul2_s, gNeg_int, toI_int, en2_l, en2_t, gSl_l, gSl_t, gTupleOf_l, gTupleOf_t, gListOf_l, gListOf_t, zp1_ll, zp1_tt, gT, gC, gN, notIn, gKw, Ar.up, -List.map_map, gDivA_ii, truD_bl, truD_non, truD_int, truD_lst, truD_rol, truD_tup, truD_dct, gS, q2]
    refine runL_inv (JW fun m => [.val (.rol (ns.map Dt.int)), .val (.int j), .own (.lst [.int m]), c, d, e, f, g, h, i, i', .un]) ⟨n, [], rfl, rfl, (fun _ z => nomatch z), rfl⟩ ?_ ?_
    · rintro j' dd acc ρ hd' ⟨m, cs, rfl, hlen, hb, rfl⟩
      obtain ⟨hj', rfl⟩ := rangeD_get hd'
      have hz : cs.length < 1000000 := by omega
      simp (maxSteps := 4000000) (maxDischargeDepth := 6) [↓run_fMtV, ↓run_fMtVP, ↓run_fKeep, ↓keepK_ok, ↓run_fFmt, ↓run_fFmtD, ↓run_fJoin, ↓run_fJCons, ↓jK_ok, ↓jK_ex, ↓run_fPar, ↓parK_ok, ↓wstepK_nx, ↓wK_true, ↓wK_false, ↓run_fOrU, ↓run_fAndU, ↓run_fNotU, ↓run_fTru, ↓run_orU, ↓run_andU, ↓orK_some, ↓andK_some, ↓run_mP, ↓run_none, ↓run_mB, ↓run_mO, ↓run_vl, ↓run_mU, ↓run_fVar, ↓run_fOp, ↓run_fUn, ↓run_fCons, ↓run_fCB, ↓run_fTup, ↓run_fLst, ↓run_fB, ↓run_fIf, ↓run_fAndT, ↓run_fOrT, ↓run_fNotT, ↓run_fAndV, ↓run_fOrV, ↓run_fNotV, ↓run_fIsN, ↓run_fNotN, ↓run_fChain, ↓run_fSeq, ↓run_fDrop, ↓run_fRet, ↓run_fRetV, ↓run_fSet, ↓run_fAsg, ↓run_fRg, ↓run_fISU, ↓run_fFor, ↓run_fLc, ↓run_fIxV, ↓run_fLenV, ↓run_fReprV, ↓run_fApp, ↓run_gSetL, ↓run_fBVar, ↓run_fBCons, ↓run_callD, ↓run_fCk, ↓run_fCkP, ↓run_mDef, ↓run_fPart, ↓run_fSl, ↓run_fRevL, ↓run_fLM, ↓run_fM1, ↓run_fDGet, ↓run_fDIn, ↓run_fLenSet, ↓run_fFldU, ↓run_fAugL, ↓run_fMk, ↓run_fSFld, ↓run_fXm, ↓run_fRs, ↓run_fXval, ↓run_fGive, ↓run_fDc, ↓run_fLc2, ↓bindK_ok, ↓bindK_ex, ↓optQ_some, ↓optQ_none, ↓upQ_some, ↓upQ_none, ↓vlQ_val, ↓vlQ_own, ↓vlQ_un, ↓vlQ_ex, ↓varQ_val, ↓varQ_own, ↓retQ_val, ↓retQ_own, ↓tupK_ok, ↓tupK_ex, ↓lstK_ok, ↓lstK_ex, ↓ifK_ok, ↓ifK_ex, ↓seqK_nx, ↓seqK_bk, ↓seqK_ct, ↓seqK_rt, ↓seqK_ex, ↓ixK_ok, ↓ixK_ex, ↓lenQ_int, ↓appQ_own, ↓appK_ok, ↓appK_ex, ↓setP_some, ↓setQ_own, ↓setK_ok, ↓barQ_val, ↓barQ_own, ↓ckK2_ok, ↓ckK2_ex, ↓ckK_ok, ↓ckK_ex, ↓ckPK2_ok, ↓ckPK2_ex, ↓ckPK_ok, ↓ckPK_ex, ↓okQ_ok, ↓okQ_ex, ↓backK_eq, ↓dfQ_nx, ↓dfQ_rt, ↓dfQ_ex, ↓forK_ok, ↓forK_ex, ↓fturnK_bk, ↓fturnK_rt, ↓fturnK_nx, ↓fturnK_ct, ↓fturnK_ex, ↓lcK_ok, ↓lcK_ex, ↓lturnK_ok, ↓ltestK_ok, ↓lkeepK_ok, ↓lkeepK_ex, ↓lstepK_ok, ↓lstepK_ex, ↓fstepK_nx, ↓fstepK_ct, ↓fstepK_bk, ↓fstepK_rt, ↓fstepK_ex, ↓bQ_t, ↓bQ_true, ↓bQ_false, ↓ifQ_t, ↓ifQ_f, ↓ifQ_true, ↓ifQ_false, ↓put_eq, ↓revM_l, ↓lmM_l, ↓m1M_s, ↓augK_ok, ↓augQ1_int, ↓augQ2_ok, ↓madeK_ok, ↓madeK_ex, ↓mkK_ok, ↓mkK2_ok, ↓sfQ_some, ↓sfK_ok, ↓xmK_ok, ↓rsK_ok, ↓xvK_ok, ↓giveK_ok, ↓dcK_ok, ↓dvalK_ok, ↓dkeyK_ok, ↓dstepK_ok, ↓lc2K_ok, ↓innK_ok, ↓inn1K_ok, ↓inn2K_ok, gEq_int, gNe_int, gPow_ii, atI_lit, atI_at, ixN_lit, ixN_at, gAdd_ii, gAdd_ss, gAdd_ll, gAdd_tt, gMinus_ii, gMul_ii, okMul_l, okMul_r, gMul_li, gMod_ii, gDiv_ii, gLt_ii, gLt_ss, gLe_ii, gLe_ss, gGt_ii, gGe_ii, gIxS_own, gIxS_val, gIx_l, gIx_r, gIx_t, gIx_s, seqOf_l, seqOf_r, seqOf_t, seqU_l, seqU_r, seqU_t, seqU_s, gLen_l, gLen_r, gLen_t, gLen_s, unOk_val, unOk_own, unOk_none, toB_bl, slB_bl, isOL_own, isOw_own, isSeen_own, isSeen_val, dt_lst, rg1_int, rg2_int, inRg_of, isNonD, DL.seen, norm, norms, pinL, backsD, backs, lent, arSl, gPos, small, wipeR, gMul2_ii, gMul2_s, gNeg_int, toI_int, en2_l, en2_t, gSl_l, gSl_t, gTupleOf_l, gTupleOf_t, gListOf_l, gListOf_t, zp1_ll, zp1_tt, gT, gC, gN, notIn, gKw, Ar.up, -List.map_map, gDivA_ii, truD_bl, truD_non, truD_int, truD_lst, truD_rol, truD_tup, truD_dct, gS]
      refine (r_whole K m).mono ?_
      rintro r ρ ⟨m', x, hx, rfl, rfl⟩
      simp (maxSteps := 4000000) (maxDischargeDepth := 6) [↓run_fMtV, ↓run_fMtVP, ↓run_fKeep, ↓keepK_ok, ↓run_fFmt, ↓run_fFmtD, ↓run_fJoin, ↓run_fJCons, ↓jK_ok, ↓jK_ex, ↓run_fPar, ↓parK_ok, ↓wstepK_nx, ↓wK_true, ↓wK_false, ↓run_fOrU, ↓run_fAndU, ↓run_fNotU, ↓run_fTru, ↓run_orU, ↓run_andU, ↓orK_some, ↓andK_some, ↓run_mP, ↓run_none, ↓run_mB, ↓run_mO, ↓run_vl, ↓run_mU, ↓run_fVar, ↓run_fOp, ↓run_fUn, ↓run_fCons, ↓run_fCB, ↓run_fTup, ↓run_fLst, ↓run_fB, ↓run_fIf, ↓run_fAndT, ↓run_fOrT, ↓run_fNotT, ↓run_fAndV, ↓run_fOrV, ↓run_fNotV, ↓run_fIsN, ↓run_fNotN, ↓run_fChain, ↓run_fSeq, ↓run_fDrop, ↓run_fRet, ↓run_fRetV, ↓run_fSet, ↓run_fAsg, ↓run_fRg, ↓run_fISU, ↓run_fFor, ↓run_fLc, ↓run_fIxV, ↓run_fLenV, ↓run_fReprV, ↓run_fApp, ↓run_gSetL, ↓run_fBVar, ↓run_fBCons, ↓run_callD, ↓run_fCk, ↓run_fCkP, ↓run_mDef, ↓run_fPart, ↓run_fSl, ↓run_fRevL, ↓run_fLM, ↓run_fM1, ↓run_fDGet, ↓run_fDIn, ↓run_fLenSet, ↓run_fFldU, ↓run_fAugL, ↓run_fMk, ↓run_fSFld, ↓run_fXm, ↓run_fRs, ↓run_fXval, ↓run_fGive, ↓run_fDc, ↓run_fLc2, ↓bindK_ok, ↓bindK_ex, ↓optQ_some, ↓optQ_none, ↓upQ_some, ↓upQ_none, ↓vlQ_val, ↓vlQ_own, ↓vlQ_un, ↓vlQ_ex, ↓varQ_val, ↓varQ_own, ↓retQ_val, ↓retQ_own, ↓tupK_ok, ↓tupK_ex, ↓lstK_ok, ↓lstK_ex, ↓ifK_ok, ↓ifK_ex, ↓seqK_nx, ↓seqK_bk, ↓seqK_ct, ↓seqK_rt, ↓seqK_ex, ↓ixK_ok, ↓ixK_ex, ↓lenQ_int, ↓appQ_own, ↓appK_ok, ↓appK_ex, ↓setP_some, ↓setQ_own, ↓setK_ok, ↓barQ_val, ↓barQ_own, ↓ckK2_ok, ↓ckK2_ex, ↓ckK_ok, ↓ckK_ex, ↓ckPK2_ok, ↓ckPK2_ex, ↓ckPK_ok, ↓ckPK_ex, ↓okQ_ok, ↓okQ_ex, ↓backK_eq, ↓dfQ_nx, ↓dfQ_rt, ↓dfQ_ex, ↓forK_ok, ↓forK_ex, ↓fturnK_bk, ↓fturnK_rt, ↓fturnK_nx, ↓fturnK_ct, ↓fturnK_ex, ↓lcK_ok, ↓lcK_ex, ↓lturnK_ok, ↓ltestK_ok, ↓lkeepK_ok, ↓lkeepK_ex, ↓lstepK_ok, ↓lstepK_ex, ↓fstepK_nx, ↓fstepK_ct, ↓fstepK_bk, ↓fstepK_rt, ↓fstepK_ex, ↓bQ_t, ↓bQ_true, ↓bQ_false, ↓ifQ_t, ↓ifQ_f, ↓ifQ_true, ↓ifQ_false, ↓put_eq, ↓revM_l, ↓lmM_l, ↓m1M_s, ↓augK_ok, ↓augQ1_int, ↓augQ2_ok, ↓madeK_ok, ↓madeK_ex, ↓mkK_ok, ↓mkK2_ok, ↓sfQ_some, ↓sfK_ok, ↓xmK_ok, ↓rsK_ok, ↓xvK_ok, ↓giveK_ok, ↓dcK_ok, ↓dvalK_ok, ↓dkeyK_ok, ↓dstepK_ok, ↓lc2K_ok, ↓innK_ok, ↓inn1K_ok, ↓inn2K_ok, gEq_int, gNe_int, gPow_ii, atI_lit, atI_at, ixN_lit, ixN_at, gAdd_ii, gAdd_ss, gAdd_ll, gAdd_tt, gMinus_ii, gMul_ii, okMul_l, okMul_r, gMul_li, gMod_ii, gDiv_ii, gLt_ii, gLt_ss, gLe_ii, gLe_ss, gGt_ii, gGe_ii, gIxS_own, gIxS_val, gIx_l, gIx_r, gIx_t, gIx_s, seqOf_l, seqOf_r, seqOf_t, seqU_l, seqU_r, seqU_t, seqU_s, gLen_l, gLen_r, gLen_t, gLen_s, unOk_val, unOk_own, unOk_none, toB_bl, slB_bl, isOL_own, isOw_own, isSeen_own, isSeen_val, dt_lst, rg1_int, rg2_int, inRg_of, isNonD, DL.seen, norm, norms, pinL, backsD, backs, lent, arSl, gPos, small, wipeR, gMul2_ii, gMul2_s, gNeg_int, toI_int, en2_l, en2_t, gSl_l, gSl_t, gTupleOf_l, gTupleOf_t, gListOf_l, gListOf_t, zp1_ll, zp1_tt, gT, gC, gN, notIn, gKw, Ar.up, -List.map_map, gDivA_ii, truD_bl, truD_non, truD_int, truD_lst, truD_rol, truD_tup, truD_dct, gS, hz]
      refine ⟨m', cs ++ [x], by simp, by simp [hlen], ?_, rfl⟩
      intro c hc
      rcases List.mem_append.mp hc with hc | hc
      · exact hb c hc
      · rw [List.mem_singleton.mp hc]; exact hx
    rintro acc ρ ⟨m, cs, rfl, hlen, hb, rfl⟩
    rw [rangeD_len] at hlen
    match cs, hlen with
    | [A, B, C, D], _ =>
      have hA := hb A (by simp)
      have hB := hb B (by simp)
      have hC := hb C (by simp)
      have hD := hb D (by simp)
      clear hb
      by_cases b0 : B = 0
      · by_cases d0 : D = 0
        · skip
          have F := mkFx K kf ob ki kz A 1 hA (by decide) (by decide)
          have G := mkFx K kf ob ki kz C 7 hC (by decide) (by decide)
          have f1 := r_four K kf ob ki kz _ _ _ _ F.bt F.bb G.bt G.bb F.b0 G.b0
          have f2 := r_four K kf ob ki kz _ _ _ _ G.bt G.bb F.bt F.bb G.b0 F.b0
          have f3 := r_four K kf ob ki kz _ _ _ _ F.bt F.bb F.bt F.bb F.b0 F.b0
          have f4 := r_four K kf ob ki kz _ _ _ _ G.bt G.bb G.bt G.bb G.b0 G.b0
          have e1 := r_equal K kf ob ki kp _ _ (shT C 7) (shB C 7) (fig_of (lt402 F.bt)) (fig_of (lt402 F.bb))
          have e2 := r_equal K kf ob ki kp _ _ (shT A 1) (shB A 1) (fig_of (lt402 F.bt)) (fig_of (lt402 F.bb))
          obtain ⟨o1, o2⟩ := sh_one A
          have j1 := F.i1
          have j4 := F.i4
          have js := F.s
          rw [o1, o2] at f1 f2 f3 e1 e2 j1 js
          rw [Int.one_mul, o1, o2] at j4
          simp (maxSteps := 4000000) (maxDischargeDepth := 6) [↓run_fMtV, ↓run_fMtVP, ↓run_fKeep, ↓keepK_ok, ↓run_fFmt, ↓run_fFmtD, ↓run_fJoin, ↓run_fJCons, ↓jK_ok, ↓jK_ex, ↓run_fPar, ↓parK_ok, ↓wstepK_nx, ↓wK_true, ↓wK_false, ↓run_fOrU, ↓run_fAndU, ↓run_fNotU, ↓run_fTru, ↓run_orU, ↓run_andU, ↓orK_some, ↓andK_some, ↓run_mP, ↓run_none, ↓run_mB, ↓run_mO, ↓run_vl, ↓run_mU, ↓run_fVar, ↓run_fOp, ↓run_fUn, ↓run_fCons, ↓run_fCB, ↓run_fTup, ↓run_fLst, ↓run_fB, ↓run_fIf, ↓run_fAndT, ↓run_fOrT, ↓run_fNotT, ↓run_fAndV, ↓run_fOrV, ↓run_fNotV, ↓run_fIsN, ↓run_fNotN, ↓run_fChain, ↓run_fSeq, ↓run_fDrop, ↓run_fRet, ↓run_fRetV, ↓run_fSet, ↓run_fAsg, ↓run_fRg, ↓run_fISU, ↓run_fFor, ↓run_fLc, ↓run_fIxV, ↓run_fLenV, ↓run_fReprV, ↓run_fApp, ↓run_gSetL, ↓run_fBVar, ↓run_fBCons, ↓run_callD, ↓run_fCk, ↓run_fCkP, ↓run_mDef, ↓run_fPart, ↓run_fSl, ↓run_fRevL, ↓run_fLM, ↓run_fM1, ↓run_fDGet, ↓run_fDIn, ↓run_fLenSet, ↓run_fFldU, ↓run_fAugL, ↓run_fMk, ↓run_fSFld, ↓run_fXm, ↓run_fRs, ↓run_fXval, ↓run_fGive, ↓run_fDc, ↓run_fLc2, ↓bindK_ok, ↓bindK_ex, ↓optQ_some, ↓optQ_none, ↓upQ_some, ↓upQ_none, ↓vlQ_val, ↓vlQ_own, ↓vlQ_un, ↓vlQ_ex, ↓varQ_val, ↓varQ_own, ↓retQ_val, ↓retQ_own, ↓tupK_ok, ↓tupK_ex, ↓lstK_ok, ↓lstK_ex, ↓ifK_ok, ↓ifK_ex, ↓seqK_nx, ↓seqK_bk, ↓seqK_ct, ↓seqK_rt, ↓seqK_ex, ↓ixK_ok, ↓ixK_ex, ↓lenQ_int, ↓appQ_own, ↓appK_ok, ↓appK_ex, ↓setP_some, ↓setQ_own, ↓setK_ok, ↓barQ_val, ↓barQ_own, ↓ckK2_ok, ↓ckK2_ex, ↓ckK_ok, ↓ckK_ex, ↓ckPK2_ok, ↓ckPK2_ex, ↓ckPK_ok, ↓ckPK_ex, ↓okQ_ok, ↓okQ_ex, ↓backK_eq, ↓dfQ_nx, ↓dfQ_rt, ↓dfQ_ex, ↓forK_ok, ↓forK_ex, ↓fturnK_bk, ↓fturnK_rt, ↓fturnK_nx, ↓fturnK_ct, ↓fturnK_ex, ↓lcK_ok, ↓lcK_ex, ↓lturnK_ok, ↓ltestK_ok, ↓lkeepK_ok, ↓lkeepK_ex, ↓lstepK_ok, ↓lstepK_ex, ↓fstepK_nx, ↓fstepK_ct, ↓fstepK_bk, ↓fstepK_rt, ↓fstepK_ex, ↓bQ_t, ↓bQ_true, ↓bQ_false, ↓ifQ_t, ↓ifQ_f, ↓ifQ_true, ↓ifQ_false, ↓put_eq, ↓revM_l, ↓lmM_l, ↓m1M_s, ↓augK_ok, ↓augQ1_int, ↓augQ2_ok, ↓madeK_ok, ↓madeK_ex, ↓mkK_ok, ↓mkK2_ok, ↓sfQ_some, ↓sfK_ok, ↓xmK_ok, ↓rsK_ok, ↓xvK_ok, ↓giveK_ok, ↓dcK_ok, ↓dvalK_ok, ↓dkeyK_ok, ↓dstepK_ok, ↓lc2K_ok, ↓innK_ok, ↓inn1K_ok, ↓inn2K_ok, gEq_int, gNe_int, gPow_ii, atI_lit, atI_at, ixN_lit, ixN_at, gAdd_ii, gAdd_ss, gAdd_ll, gAdd_tt, gMinus_ii, gMul_ii, okMul_l, okMul_r, gMul_li, gMod_ii, gDiv_ii, gLt_ii, gLt_ss, gLe_ii, gLe_ss, gGt_ii, gGe_ii, gIxS_own, gIxS_val, gIx_l, gIx_r, gIx_t, gIx_s, seqOf_l, seqOf_r, seqOf_t, seqU_l, seqU_r, seqU_t, seqU_s, gLen_l, gLen_r, gLen_t, gLen_s, unOk_val, unOk_own, unOk_none, toB_bl, slB_bl, isOL_own, isOw_own, isSeen_own, isSeen_val, dt_lst, rg1_int, rg2_int, inRg_of, isNonD, DL.seen, norm, norms, pinL, backsD, backs, lent, arSl, gPos, small, wipeR, gMul2_ii, gMul2_s, gNeg_int, toI_int, en2_l, en2_t, gSl_l, gSl_t, gTupleOf_l, gTupleOf_t, gListOf_l, gListOf_t, zp1_ll, zp1_tt, gT, gC, gN, notIn, gKw, Ar.up, -List.map_map, gDivA_ii, truD_bl, truD_non, truD_int, truD_lst, truD_rol, truD_tup, truD_dct, gS, b0, d0, j1, F.i3, j4, F.m1, F.m2, js, F.t2, F.t3, F.r, G.i1, G.s, G.t1, G.r, f1, f2, f3, f4, e1, e2, dt_sh]
          exact ⟨_, _, _, _, _, _, _, _, _, _, _, rfl⟩
        · skip
          have F := mkFx K kf ob ki kz A 1 hA (by decide) (by decide)
          have G := mkFx K kf ob ki kz C D hC hD d0
          have f1 := r_four K kf ob ki kz _ _ _ _ F.bt F.bb G.bt G.bb F.b0 G.b0
          have f2 := r_four K kf ob ki kz _ _ _ _ G.bt G.bb F.bt F.bb G.b0 F.b0
          have f3 := r_four K kf ob ki kz _ _ _ _ F.bt F.bb F.bt F.bb F.b0 F.b0
          have f4 := r_four K kf ob ki kz _ _ _ _ G.bt G.bb G.bt G.bb G.b0 G.b0
          have e1 := r_equal K kf ob ki kp _ _ (shT C D) (shB C D) (fig_of (lt402 F.bt)) (fig_of (lt402 F.bb))
          have e2 := r_equal K kf ob ki kp _ _ (shT A 1) (shB A 1) (fig_of (lt402 F.bt)) (fig_of (lt402 F.bb))
          obtain ⟨o1, o2⟩ := sh_one A
          have j1 := F.i1
          have j4 := F.i4
          have js := F.s
          rw [o1, o2] at f1 f2 f3 e1 e2 j1 js
          rw [Int.one_mul, o1, o2] at j4
          simp (maxSteps := 4000000) (maxDischargeDepth := 6) [↓run_fMtV, ↓run_fMtVP, ↓run_fKeep, ↓keepK_ok, ↓run_fFmt, ↓run_fFmtD, ↓run_fJoin, ↓run_fJCons, ↓jK_ok, ↓jK_ex, ↓run_fPar, ↓parK_ok, ↓wstepK_nx, ↓wK_true, ↓wK_false, ↓run_fOrU, ↓run_fAndU, ↓run_fNotU, ↓run_fTru, ↓run_orU, ↓run_andU, ↓orK_some, ↓andK_some, ↓run_mP, ↓run_none, ↓run_mB, ↓run_mO, ↓run_vl, ↓run_mU, ↓run_fVar, ↓run_fOp, ↓run_fUn, ↓run_fCons, ↓run_fCB, ↓run_fTup, ↓run_fLst, ↓run_fB, ↓run_fIf, ↓run_fAndT, ↓run_fOrT, ↓run_fNotT, ↓run_fAndV, ↓run_fOrV, ↓run_fNotV, ↓run_fIsN, ↓run_fNotN, ↓run_fChain, ↓run_fSeq, ↓run_fDrop, ↓run_fRet, ↓run_fRetV, ↓run_fSet, ↓run_fAsg, ↓run_fRg, ↓run_fISU, ↓run_fFor, ↓run_fLc, ↓run_fIxV, ↓run_fLenV, ↓run_fReprV, ↓run_fApp, ↓run_gSetL, ↓run_fBVar, ↓run_fBCons, ↓run_callD, ↓run_fCk, ↓run_fCkP, ↓run_mDef, ↓run_fPart, ↓run_fSl, ↓run_fRevL, ↓run_fLM, ↓run_fM1, ↓run_fDGet, ↓run_fDIn, ↓run_fLenSet, ↓run_fFldU, ↓run_fAugL, ↓run_fMk, ↓run_fSFld, ↓run_fXm, ↓run_fRs, ↓run_fXval, ↓run_fGive, ↓run_fDc, ↓run_fLc2, ↓bindK_ok, ↓bindK_ex, ↓optQ_some, ↓optQ_none, ↓upQ_some, ↓upQ_none, ↓vlQ_val, ↓vlQ_own, ↓vlQ_un, ↓vlQ_ex, ↓varQ_val, ↓varQ_own, ↓retQ_val, ↓retQ_own, ↓tupK_ok, ↓tupK_ex, ↓lstK_ok, ↓lstK_ex, ↓ifK_ok, ↓ifK_ex, ↓seqK_nx, ↓seqK_bk, ↓seqK_ct, ↓seqK_rt, ↓seqK_ex, ↓ixK_ok, ↓ixK_ex, ↓lenQ_int, ↓appQ_own, ↓appK_ok, ↓appK_ex, ↓setP_some, ↓setQ_own, ↓setK_ok, ↓barQ_val, ↓barQ_own, ↓ckK2_ok, ↓ckK2_ex, ↓ckK_ok, ↓ckK_ex, ↓ckPK2_ok, ↓ckPK2_ex, ↓ckPK_ok, ↓ckPK_ex, ↓okQ_ok, ↓okQ_ex, ↓backK_eq, ↓dfQ_nx, ↓dfQ_rt, ↓dfQ_ex, ↓forK_ok, ↓forK_ex, ↓fturnK_bk, ↓fturnK_rt, ↓fturnK_nx, ↓fturnK_ct, ↓fturnK_ex, ↓lcK_ok, ↓lcK_ex, ↓lturnK_ok, ↓ltestK_ok, ↓lkeepK_ok, ↓lkeepK_ex, ↓lstepK_ok, ↓lstepK_ex, ↓fstepK_nx, ↓fstepK_ct, ↓fstepK_bk, ↓fstepK_rt, ↓fstepK_ex, ↓bQ_t, ↓bQ_true, ↓bQ_false, ↓ifQ_t, ↓ifQ_f, ↓ifQ_true, ↓ifQ_false, ↓put_eq, ↓revM_l, ↓lmM_l, ↓m1M_s, ↓augK_ok, ↓augQ1_int, ↓augQ2_ok, ↓madeK_ok, ↓madeK_ex, ↓mkK_ok, ↓mkK2_ok, ↓sfQ_some, ↓sfK_ok, ↓xmK_ok, ↓rsK_ok, ↓xvK_ok, ↓giveK_ok, ↓dcK_ok, ↓dvalK_ok, ↓dkeyK_ok, ↓dstepK_ok, ↓lc2K_ok, ↓innK_ok, ↓inn1K_ok, ↓inn2K_ok, gEq_int, gNe_int, gPow_ii, atI_lit, atI_at, ixN_lit, ixN_at, gAdd_ii, gAdd_ss, gAdd_ll, gAdd_tt, gMinus_ii, gMul_ii, okMul_l, okMul_r, gMul_li, gMod_ii, gDiv_ii, gLt_ii, gLt_ss, gLe_ii, gLe_ss, gGt_ii, gGe_ii, gIxS_own, gIxS_val, gIx_l, gIx_r, gIx_t, gIx_s, seqOf_l, seqOf_r, seqOf_t, seqU_l, seqU_r, seqU_t, seqU_s, gLen_l, gLen_r, gLen_t, gLen_s, unOk_val, unOk_own, unOk_none, toB_bl, slB_bl, isOL_own, isOw_own, isSeen_own, isSeen_val, dt_lst, rg1_int, rg2_int, inRg_of, isNonD, DL.seen, norm, norms, pinL, backsD, backs, lent, arSl, gPos, small, wipeR, gMul2_ii, gMul2_s, gNeg_int, toI_int, en2_l, en2_t, gSl_l, gSl_t, gTupleOf_l, gTupleOf_t, gListOf_l, gListOf_t, zp1_ll, zp1_tt, gT, gC, gN, notIn, gKw, Ar.up, -List.map_map, gDivA_ii, truD_bl, truD_non, truD_int, truD_lst, truD_rol, truD_tup, truD_dct, gS, b0, d0, j1, F.i3, j4, F.m1, F.m2, js, F.t2, F.t3, F.r, G.i1, G.s, G.t1, G.r, f1, f2, f3, f4, e1, e2, dt_sh]
          exact ⟨_, _, _, _, _, _, _, _, _, _, _, rfl⟩
      · by_cases d0 : D = 0
        · skip
          have F := mkFx K kf ob ki kz A B hA hB b0
          have G := mkFx K kf ob ki kz C 7 hC (by decide) (by decide)
          have f1 := r_four K kf ob ki kz _ _ _ _ F.bt F.bb G.bt G.bb F.b0 G.b0
          have f2 := r_four K kf ob ki kz _ _ _ _ G.bt G.bb F.bt F.bb G.b0 F.b0
          have f3 := r_four K kf ob ki kz _ _ _ _ F.bt F.bb F.bt F.bb F.b0 F.b0
          have f4 := r_four K kf ob ki kz _ _ _ _ G.bt G.bb G.bt G.bb G.b0 G.b0
          have e1 := r_equal K kf ob ki kp _ _ (shT C 7) (shB C 7) (fig_of (lt402 F.bt)) (fig_of (lt402 F.bb))
          have e2 := r_equal K kf ob ki kp _ _ (shT A B) (shB A B) (fig_of (lt402 F.bt)) (fig_of (lt402 F.bb))
          simp (maxSteps := 4000000) (maxDischargeDepth := 6) [↓run_fMtV, ↓run_fMtVP, ↓run_fKeep, ↓keepK_ok, ↓run_fFmt, ↓run_fFmtD, ↓run_fJoin, ↓run_fJCons, ↓jK_ok, ↓jK_ex, ↓run_fPar, ↓parK_ok, ↓wstepK_nx, ↓wK_true, ↓wK_false, ↓run_fOrU, ↓run_fAndU, ↓run_fNotU, ↓run_fTru, ↓run_orU, ↓run_andU, ↓orK_some, ↓andK_some, ↓run_mP, ↓run_none, ↓run_mB, ↓run_mO, ↓run_vl, ↓run_mU, ↓run_fVar, ↓run_fOp, ↓run_fUn, ↓run_fCons, ↓run_fCB, ↓run_fTup, ↓run_fLst, ↓run_fB, ↓run_fIf, ↓run_fAndT, ↓run_fOrT, ↓run_fNotT, ↓run_fAndV, ↓run_fOrV, ↓run_fNotV, ↓run_fIsN, ↓run_fNotN, ↓run_fChain, ↓run_fSeq, ↓run_fDrop, ↓run_fRet, ↓run_fRetV, ↓run_fSet, ↓run_fAsg, ↓run_fRg, ↓run_fISU, ↓run_fFor, ↓run_fLc, ↓run_fIxV, ↓run_fLenV, ↓run_fReprV, ↓run_fApp, ↓run_gSetL, ↓run_fBVar, ↓run_fBCons, ↓run_callD, ↓run_fCk, ↓run_fCkP, ↓run_mDef, ↓run_fPart, ↓run_fSl, ↓run_fRevL, ↓run_fLM, ↓run_fM1, ↓run_fDGet, ↓run_fDIn, ↓run_fLenSet, ↓run_fFldU, ↓run_fAugL, ↓run_fMk, ↓run_fSFld, ↓run_fXm, ↓run_fRs, ↓run_fXval, ↓run_fGive, ↓run_fDc, ↓run_fLc2, ↓bindK_ok, ↓bindK_ex, ↓optQ_some, ↓optQ_none, ↓upQ_some, ↓upQ_none, ↓vlQ_val, ↓vlQ_own, ↓vlQ_un, ↓vlQ_ex, ↓varQ_val, ↓varQ_own, ↓retQ_val, ↓retQ_own, ↓tupK_ok, ↓tupK_ex, ↓lstK_ok, ↓lstK_ex, ↓ifK_ok, ↓ifK_ex, ↓seqK_nx, ↓seqK_bk, ↓seqK_ct, ↓seqK_rt, ↓seqK_ex, ↓ixK_ok, ↓ixK_ex, ↓lenQ_int, ↓appQ_own, ↓appK_ok, ↓appK_ex, ↓setP_some, ↓setQ_own, ↓setK_ok, ↓barQ_val, ↓barQ_own, ↓ckK2_ok, ↓ckK2_ex, ↓ckK_ok, ↓ckK_ex, ↓ckPK2_ok, ↓ckPK2_ex, ↓ckPK_ok, ↓ckPK_ex, ↓okQ_ok, ↓okQ_ex, ↓backK_eq, ↓dfQ_nx, ↓dfQ_rt, ↓dfQ_ex, ↓forK_ok, ↓forK_ex, ↓fturnK_bk, ↓fturnK_rt, ↓fturnK_nx, ↓fturnK_ct, ↓fturnK_ex, ↓lcK_ok, ↓lcK_ex, ↓lturnK_ok, ↓ltestK_ok, ↓lkeepK_ok, ↓lkeepK_ex, ↓lstepK_ok, ↓lstepK_ex, ↓fstepK_nx, ↓fstepK_ct, ↓fstepK_bk, ↓fstepK_rt, ↓fstepK_ex, ↓bQ_t, ↓bQ_true, ↓bQ_false, ↓ifQ_t, ↓ifQ_f, ↓ifQ_true, ↓ifQ_false, ↓put_eq, ↓revM_l, ↓lmM_l, ↓m1M_s, ↓augK_ok, ↓augQ1_int, ↓augQ2_ok, ↓madeK_ok, ↓madeK_ex, ↓mkK_ok, ↓mkK2_ok, ↓sfQ_some, ↓sfK_ok, ↓xmK_ok, ↓rsK_ok, ↓xvK_ok, ↓giveK_ok, ↓dcK_ok, ↓dvalK_ok, ↓dkeyK_ok, ↓dstepK_ok, ↓lc2K_ok, ↓innK_ok, ↓inn1K_ok, ↓inn2K_ok, gEq_int, gNe_int, gPow_ii, atI_lit, atI_at, ixN_lit, ixN_at, gAdd_ii, gAdd_ss, gAdd_ll, gAdd_tt, gMinus_ii, gMul_ii, okMul_l, okMul_r, gMul_li, gMod_ii, gDiv_ii, gLt_ii, gLt_ss, gLe_ii, gLe_ss, gGt_ii, gGe_ii, gIxS_own, gIxS_val, gIx_l, gIx_r, gIx_t, gIx_s, seqOf_l, seqOf_r, seqOf_t, seqU_l, seqU_r, seqU_t, seqU_s, gLen_l, gLen_r, gLen_t, gLen_s, unOk_val, unOk_own, unOk_none, toB_bl, slB_bl, isOL_own, isOw_own, isSeen_own, isSeen_val, dt_lst, rg1_int, rg2_int, inRg_of, isNonD, DL.seen, norm, norms, pinL, backsD, backs, lent, arSl, gPos, small, wipeR, gMul2_ii, gMul2_s, gNeg_int, toI_int, en2_l, en2_t, gSl_l, gSl_t, gTupleOf_l, gTupleOf_t, gListOf_l, gListOf_t, zp1_ll, zp1_tt, gT, gC, gN, notIn, gKw, Ar.up, -List.map_map, gDivA_ii, truD_bl, truD_non, truD_int, truD_lst, truD_rol, truD_tup, truD_dct, gS, b0, d0, F.i1, F.i2, F.i3, F.i4, F.m1, F.m2, F.s, F.t1, F.t2, F.t3, F.r, G.i1, G.s, G.t1, G.r, f1, f2, f3, f4, e1, e2, dt_sh]
          exact ⟨_, _, _, _, _, _, _, _, _, _, _, rfl⟩
        · skip
          have F := mkFx K kf ob ki kz A B hA hB b0
          have G := mkFx K kf ob ki kz C D hC hD d0
          have f1 := r_four K kf ob ki kz _ _ _ _ F.bt F.bb G.bt G.bb F.b0 G.b0
          have f2 := r_four K kf ob ki kz _ _ _ _ G.bt G.bb F.bt F.bb G.b0 F.b0
          have f3 := r_four K kf ob ki kz _ _ _ _ F.bt F.bb F.bt F.bb F.b0 F.b0
          have f4 := r_four K kf ob ki kz _ _ _ _ G.bt G.bb G.bt G.bb G.b0 G.b0
          have e1 := r_equal K kf ob ki kp _ _ (shT C D) (shB C D) (fig_of (lt402 F.bt)) (fig_of (lt402 F.bb))
          have e2 := r_equal K kf ob ki kp _ _ (shT A B) (shB A B) (fig_of (lt402 F.bt)) (fig_of (lt402 F.bb))
          simp (maxSteps := 4000000) (maxDischargeDepth := 6) [↓run_fMtV, ↓run_fMtVP, ↓run_fKeep, ↓keepK_ok, ↓run_fFmt, ↓run_fFmtD, ↓run_fJoin, ↓run_fJCons, ↓jK_ok, ↓jK_ex, ↓run_fPar, ↓parK_ok, ↓wstepK_nx, ↓wK_true, ↓wK_false, ↓run_fOrU, ↓run_fAndU, ↓run_fNotU, ↓run_fTru, ↓run_orU, ↓run_andU, ↓orK_some, ↓andK_some, ↓run_mP, ↓run_none, ↓run_mB, ↓run_mO, ↓run_vl, ↓run_mU, ↓run_fVar, ↓run_fOp, ↓run_fUn, ↓run_fCons, ↓run_fCB, ↓run_fTup, ↓run_fLst, ↓run_fB, ↓run_fIf, ↓run_fAndT, ↓run_fOrT, ↓run_fNotT, ↓run_fAndV, ↓run_fOrV, ↓run_fNotV, ↓run_fIsN, ↓run_fNotN, ↓run_fChain, ↓run_fSeq, ↓run_fDrop, ↓run_fRet, ↓run_fRetV, ↓run_fSet, ↓run_fAsg, ↓run_fRg, ↓run_fISU, ↓run_fFor, ↓run_fLc, ↓run_fIxV, ↓run_fLenV, ↓run_fReprV, ↓run_fApp, ↓run_gSetL, ↓run_fBVar, ↓run_fBCons, ↓run_callD, ↓run_fCk, ↓run_fCkP, ↓run_mDef, ↓run_fPart, ↓run_fSl, ↓run_fRevL, ↓run_fLM, ↓run_fM1, ↓run_fDGet, ↓run_fDIn, ↓run_fLenSet, ↓run_fFldU, ↓run_fAugL, ↓run_fMk, ↓run_fSFld, ↓run_fXm, ↓run_fRs, ↓run_fXval, ↓run_fGive, ↓run_fDc, ↓run_fLc2, ↓bindK_ok, ↓bindK_ex, ↓optQ_some, ↓optQ_none, ↓upQ_some, ↓upQ_none, ↓vlQ_val, ↓vlQ_own, ↓vlQ_un, ↓vlQ_ex, ↓varQ_val, ↓varQ_own, ↓retQ_val, ↓retQ_own, ↓tupK_ok, ↓tupK_ex, ↓lstK_ok, ↓lstK_ex, ↓ifK_ok, ↓ifK_ex, ↓seqK_nx, ↓seqK_bk, ↓seqK_ct, ↓seqK_rt, ↓seqK_ex, ↓ixK_ok, ↓ixK_ex, ↓lenQ_int, ↓appQ_own, ↓appK_ok, ↓appK_ex, ↓setP_some, ↓setQ_own, ↓setK_ok, ↓barQ_val, ↓barQ_own, ↓ckK2_ok, ↓ckK2_ex, ↓ckK_ok, ↓ckK_ex, ↓ckPK2_ok, ↓ckPK2_ex, ↓ckPK_ok, ↓ckPK_ex, ↓okQ_ok, ↓okQ_ex, ↓backK_eq, ↓dfQ_nx, ↓dfQ_rt, ↓dfQ_ex, ↓forK_ok, ↓forK_ex, ↓fturnK_bk, ↓fturnK_rt, ↓fturnK_nx, ↓fturnK_ct, ↓fturnK_ex, ↓lcK_ok, ↓lcK_ex, ↓lturnK_ok, ↓ltestK_ok, ↓lkeepK_ok, ↓lkeepK_ex, ↓lstepK_ok, ↓lstepK_ex, ↓fstepK_nx, ↓fstepK_ct, ↓fstepK_bk, ↓fstepK_rt, ↓fstepK_ex, ↓bQ_t, ↓bQ_true, ↓bQ_false, ↓ifQ_t, ↓ifQ_f, ↓ifQ_true, ↓ifQ_false, ↓put_eq, ↓revM_l, ↓lmM_l, ↓m1M_s, ↓augK_ok, ↓augQ1_int, ↓augQ2_ok, ↓madeK_ok, ↓madeK_ex, ↓mkK_ok, ↓mkK2_ok, ↓sfQ_some, ↓sfK_ok, ↓xmK_ok, ↓rsK_ok, ↓xvK_ok, ↓giveK_ok, ↓dcK_ok, ↓dvalK_ok, ↓dkeyK_ok, ↓dstepK_ok, ↓lc2K_ok, ↓innK_ok, ↓inn1K_ok, ↓inn2K_ok, gEq_int, gNe_int, gPow_ii, atI_lit, atI_at, ixN_lit, ixN_at, gAdd_ii, gAdd_ss, gAdd_ll, gAdd_tt, gMinus_ii, gMul_ii, okMul_l, okMul_r, gMul_li, gMod_ii, gDiv_ii, gLt_ii, gLt_ss, gLe_ii, gLe_ss, gGt_ii, gGe_ii, gIxS_own, gIxS_val, gIx_l, gIx_r, gIx_t, gIx_s, seqOf_l, seqOf_r, seqOf_t, seqU_l, seqU_r, seqU_t, seqU_s, gLen_l, gLen_r, gLen_t, gLen_s, unOk_val, unOk_own, unOk_none, toB_bl, slB_bl, isOL_own, isOw_own, isSeen_own, isSeen_val, dt_lst, rg1_int, rg2_int, inRg_of, isNonD, DL.seen, norm, norms, pinL, backsD, backs, lent, arSl, gPos, small, wipeR, gMul2_ii, gMul2_s, gNeg_int, toI_int, en2_l, en2_t, gSl_l, gSl_t, gTupleOf_l, gTupleOf_t, gListOf_l, gListOf_t, zp1_ll, zp1_tt, gT, gC, gN, notIn, gKw, Ar.up, -List.map_map, gDivA_ii, truD_bl, truD_non, truD_int, truD_lst, truD_rol, truD_tup, truD_dct, gS, b0, d0, F.i1, F.i2, F.i3, F.i4, F.m1, F.m2, F.s, F.t1, F.t2, F.t3, F.r, G.i1, G.s, G.t1, G.r, f1, f2, f3, f4, e1, e2, dt_sh]
          exact ⟨_, _, _, _, _, _, _, _, _, _, _, rfl⟩
  · rintro ρ ⟨a, b, c, d, e, f, g, h, i, i', i'', rfl⟩
    simp (maxSteps := 4000000) (maxDischargeDepth := 6) [↓run_fMtV, ↓run_fMtVP, ↓run_fKeep, ↓keepK_ok, ↓run_fFmt, ↓run_fFmtD, ↓run_fJoin, ↓run_fJCons, ↓jK_ok, ↓jK_ex, ↓run_fPar, ↓parK_ok, ↓wstepK_nx, ↓wK_true, ↓wK_false, ↓run_fOrU, ↓run_fAndU, ↓run_fNotU, ↓run_fTru, ↓run_orU, ↓run_andU, ↓orK_some, ↓andK_some, ↓run_mP, ↓run_none, ↓run_mB, ↓run_mO, ↓run_vl, ↓run_mU, ↓run_fVar, ↓run_fOp, ↓run_fUn, ↓run_fCons, ↓run_fCB, ↓run_fTup, ↓run_fLst, ↓run_fB, ↓run_fIf, ↓run_fAndT, ↓run_fOrT, ↓run_fNotT, ↓run_fAndV, ↓run_fOrV, ↓run_fNotV, ↓run_fIsN, ↓run_fNotN, ↓run_fChain, ↓run_fSeq, ↓run_fDrop, ↓run_fRet, ↓run_fRetV, ↓run_fSet, ↓run_fAsg, ↓run_fRg, ↓run_fISU, ↓run_fFor, ↓run_fLc, ↓run_fIxV, ↓run_fLenV, ↓run_fReprV, ↓run_fApp, ↓run_gSetL, ↓run_fBVar, ↓run_fBCons, ↓run_callD, ↓run_fCk, ↓run_fCkP, ↓run_mDef, ↓run_fPart, ↓run_fSl, ↓run_fRevL, ↓run_fLM, ↓run_fM1, ↓run_fDGet, ↓run_fDIn, ↓run_fLenSet, ↓run_fFldU, ↓run_fAugL, ↓run_fMk, ↓run_fSFld, ↓run_fXm, ↓run_fRs, ↓run_fXval, ↓run_fGive, ↓run_fDc, ↓run_fLc2, ↓bindK_ok, ↓bindK_ex, ↓optQ_some, ↓optQ_none, ↓upQ_some, ↓upQ_none, ↓vlQ_val, ↓vlQ_own, ↓vlQ_un, ↓vlQ_ex, ↓varQ_val, ↓varQ_own, ↓retQ_val, ↓retQ_own, ↓tupK_ok, ↓tupK_ex, ↓lstK_ok, ↓lstK_ex, ↓ifK_ok, ↓ifK_ex, ↓seqK_nx, ↓seqK_bk, ↓seqK_ct, ↓seqK_rt, ↓seqK_ex, ↓ixK_ok, ↓ixK_ex, ↓lenQ_int, ↓appQ_own, ↓appK_ok, ↓appK_ex, ↓setP_some, ↓setQ_own, ↓setK_ok, ↓barQ_val, ↓barQ_own, ↓ckK2_ok, ↓ckK2_ex, ↓ckK_ok, ↓ckK_ex, ↓ckPK2_ok, ↓ckPK2_ex, ↓ckPK_ok, ↓ckPK_ex, ↓okQ_ok, ↓okQ_ex, ↓backK_eq, ↓dfQ_nx, ↓dfQ_rt, ↓dfQ_ex, ↓forK_ok, ↓forK_ex, ↓fturnK_bk, ↓fturnK_rt, ↓fturnK_nx, ↓fturnK_ct, ↓fturnK_ex, ↓lcK_ok, ↓lcK_ex, ↓lturnK_ok, ↓ltestK_ok, ↓lkeepK_ok, ↓lkeepK_ex, ↓lstepK_ok, ↓lstepK_ex, ↓fstepK_nx, ↓fstepK_ct, ↓fstepK_bk, ↓fstepK_rt, ↓fstepK_ex, ↓bQ_t, ↓bQ_true, ↓bQ_false, ↓ifQ_t, ↓ifQ_f, ↓ifQ_true, ↓ifQ_false, ↓put_eq, ↓revM_l, ↓lmM_l, ↓m1M_s, ↓augK_ok, ↓augQ1_int, ↓augQ2_ok, ↓madeK_ok, ↓madeK_ex, ↓mkK_ok, ↓mkK2_ok, ↓sfQ_some, ↓sfK_ok, ↓xmK_ok, ↓rsK_ok, ↓xvK_ok, ↓giveK_ok, ↓dcK_ok, ↓dvalK_ok, ↓dkeyK_ok, ↓dstepK_ok, ↓lc2K_ok, ↓innK_ok, ↓inn1K_ok, ↓inn2K_ok, gEq_int, gNe_int, gPow_ii, atI_lit, atI_at, ixN_lit, ixN_at, gAdd_ii, gAdd_ss, gAdd_ll, gAdd_tt, gMinus_ii, gMul_ii, okMul_l, okMul_r, gMul_li, gMod_ii, gDiv_ii, gLt_ii, gLt_ss, gLe_ii, gLe_ss, gGt_ii, gGe_ii, gIxS_own, gIxS_val, gIx_l, gIx_r, gIx_t, gIx_s, seqOf_l, seqOf_r, seqOf_t, seqU_l, seqU_r, seqU_t, seqU_s, gLen_l, gLen_r, gLen_t, gLen_s, unOk_val, unOk_own, unOk_none, toB_bl, slB_bl, isOL_own, isOw_own, isSeen_own, isSeen_val, dt_lst, rg1_int, rg2_int, inRg_of, isNonD, DL.seen, norm, norms, pinL, backsD, backs, lent, arSl, gPos, small, wipeR, gMul2_ii, gMul2_s, gNeg_int, toI_int, en2_l, en2_t, gSl_l, gSl_t, gTupleOf_l, gTupleOf_t, gListOf_l, gListOf_t, zp1_ll, zp1_tt, gT, gC, gN, notIn, gKw, Ar.up, -List.map_map, gDivA_ii, truD_bl, truD_non, truD_int, truD_lst, truD_rol, truD_tup, truD_dct, gS]
end CROWDSAY_K30_SHARES

end
section
-- FXOF H30a
set_option Elab.async false
set_option linter.all false
set_option maxRecDepth 100000
set_option maxHeartbeats 8000000
namespace CROWDSAY_K30_SHARES
open PySem PySem.Spec PyProof.Rows L2 DL
theorem left_run (K : Fg) (w : World) (h : Heap) (c : He.SaysX fa fn [] [] ex w h K) (ns : List Int) (hl : ns.length ≤ 63) : ∃ as', m_law K [.val (.rol (ns.map Dt.int))] = some (.ok (.val (.bl true)), as') := by
  have cd := c.t.d
  have mo : ex K = true := c.more
  unfold ex at mo
  obtain ⟨mo, mb⟩ := (Bool.and_eq_true _ _ ▸ mo : exA K = true ∧ (exL K).all id = true)
  unfold exA at mo
  have X := xclsB_ok mo
  have O := clsxB_ok (fxb mb 0 rfl)
  have cl := He.cls_ok (cd.fact 37 (f := .cls "Share") rfl)
  have kf : KfS K := ⟨cl, He.noat_ok (cd.fact 39 (f := .noat "Share" "top") rfl), He.noat_ok (cd.fact 40 (f := .noat "Share" "bottom") rfl)⟩
  have kz : KfZ K := ⟨of_decide_eq_true (fxb mb 1 rfl), of_decide_eq_true (fxb mb 20 rfl), of_decide_eq_true (fxb mb 22 rfl),
    of_decide_eq_true (fxb mb 23 rfl), X.ec, X.xf, X.no⟩
  have kp : KfP K := ⟨O.pi, O.ps, O.pt, O.pl⟩
  obtain ⟨r, ρ', e, rfl⟩ := left_law K kf (O.ob cl) O.ki kz kp ns hl
  exact ⟨ρ', e⟩
end CROWDSAY_K30_SHARES

end
section
set_option Elab.async false
theorem PySem.Challenge.cw_crowdsay_k30_shares_holds : PySem.Challenge.rw_crowdsay_k30_shares.Holds := by
  exact k30_holds fun K w h _ c ns hl => CROWDSAY_K30_SHARES.left_run K w h c ns hl

end