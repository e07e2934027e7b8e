import PyProof.Rows.All
import Wide.All
import OpenK.AllK
import Wide.FinOn
import HandS.ForMost
import HandS.ForExc
import HandS.OwnEq
import HandS.Wide
import HandS.SetFor
import HandS.Strs
import HandS.IsInst
import HandS.TupAny
import HandS.Style
import HandS.Codes
import HandS.Flow
import HandS.Evl
import HandS.Conv
import KE.KEqDeep
import HandS.ExcInit
import HandS.ExcField
import HandS.ExcIs
import HandS.FStr
import HandS.TryMany
import HandS.Defaults
import HandS.Iter
import HandS.Zip
import HandS.Text
import HandS.RevRange
import HandS.Deep
import HandS.HotCalls
import HandS.Words
import HandS.Comp
import KE.GoesEnumKw
import HandS.Dict
import HandS.WordsDict
import HandS.GenList
import KE.KOpsOwn
import HandS.Sort
import HandS.Property
import HandS.Gcd
import HandS.TryOnly
import KE.KCallOwn
import PyProof.Conv_bool
import HandS.More
import HandS.NoneIn
import HandS.StrMore
import KE.IntTextText
import KE.KTupSum
import HandS.TupMul
import HandS.Star
import KE.KeyNested
import KE.KDictKeyed
import PyProof.DictMoreH
import HandS.TupSets
import HandS.FStrTup
import HandS.ExcValue
import KE.OsRunLaw
import KE.KNestM
import PySem.Challenge.RW_steppedtests_k84_each_error
set_option Elab.async false
set_option linter.all false
set_option maxRecDepth 100000
set_option exponentiation.threshold 1000
set_option maxHeartbeats 4000000
namespace L2
open PySem PySem.Spec PyProof.Rows
/-! ## own special methods of a class: | & - by __or__ .., <= == by __le__ .., in by __contains__, len by __len__ -/
end L2
namespace L2
open PySem PySem.Spec PyProof.Rows
/-! ## heaps that keep all but the pool -/
def isPool (o : HO) : Prop := ∃ (a : Addr) (c i b s : Int), o = .lst [.ref a, .int c, .int i, .int b, .int s]
def Gd (H H' : Hp) : Prop := (∀ b o, ¬ isPool o → H b = some o → H' b = some o) ∧ ∀ b o, isPool o → H b = some o → ∃ o', isPool o' ∧ H' b = some o'
theorem Gd.refl (H : Hp) : Gd H H := ⟨fun _ _ _ h => h, fun _ o n h => ⟨o, n, h⟩⟩
theorem Gd.trans {H H1 H2 : Hp} (a : Gd H H1) (b : Gd H1 H2) : Gd H H2 := ⟨fun x o n h => b.1 x o n (a.1 x o n h), fun x o n h => let ⟨o', n', h'⟩ := a.2 x o n h; b.2 x o' n' h'⟩
theorem Same.gd {H H' : Hp} (h : Same H H') : Gd H H' := ⟨fun b o _ e => h b o e, fun b o n e => ⟨o, n, h b o e⟩⟩
theorem fresh_gd {H H' : Hp} {p : Addr} (e : Gd H H') (h : H' p = none) : H p = none := by
  cases q : H p with
  | none => rfl
  | some o =>
    exfalso
    by_cases n : isPool o
    · obtain ⟨o', _, h'⟩ := e.2 p o n q
      rw [h] at h'
      cases h'
    · have := e.1 p o n q
      rw [h] at this
      cases this
theorem np_ints (ns : List Int) : ¬ isPool (.lst (ns.map V.int)) := by
  rintro ⟨a, c, i, b, s, h⟩
  cases ns with
  | nil => cases h
  | cons x r => injection h with h; injection h with h _; cases h
theorem np_frz (o : Obj) (u : HO) : ¬ isPool (.frz o u) := by rintro ⟨a, c, i, b, s, h⟩; cases h
theorem np_tup (xs : List V) : ¬ isPool (.tup xs) := by rintro ⟨a, c, i, b, s, h⟩; cases h
theorem np_ins (C dx : Addr) (fs : List (Str × V)) : ¬ isPool (.ins C dx fs) := by rintro ⟨a, c, i, b, s, h⟩; cases h
theorem Gd.seq {K : PySem.W.Frag} {H H' : Hp} {a : Addr} {ns : List Int} (e : Gd H H') (h : SqL K H a (ns.map V.int)) : SqL K H' a (ns.map V.int) := by
  rcases h with (h | ⟨o, h⟩) | h
  · exact .inl (.inl (e.1 _ _ (np_ints ns) h))
  · exact .inl (.inr ⟨o, e.1 _ _ (np_frz _ _) h⟩)
  · exact .inr h
theorem Same.seqT {K : PySem.W.Frag} {H H' : Hp} {a : Addr} {xs : List V} (e : Same H H') (h : SqT K H a xs) : SqT K H' a xs := by
  rcases h with (h | ⟨o, h⟩) | h
  · exact .inl (.inl (e _ _ h))
  · exact .inl (.inr ⟨o, e _ _ h⟩)
  · exact .inr h
theorem same_upd {H : Hp} {p : Addr} {o : HO} (h : H p = none) : Same H (upd H p o) := fun b x e => by
  rw [upd_ne (ne_of_none e h)]
  exact e
/-- a heap made from H' by changing p, which H did not know -/
theorem Same.mut {H H' : Hp} {p : Addr} {o : HO} (e : Same H H') (h : H p = none) : Same H (upd H' p o) := fun a u ha => by
  rw [upd_ne (ne_of_none ha h)]
  exact e a u ha
theorem Gd.mut {H H' : Hp} {p : Addr} {o : HO} (e : Gd H H') (h : H p = none) : Gd H (upd H' p o) := ⟨fun a u n ha => by
  rw [upd_ne (ne_of_none ha h)]
  exact e.1 a u n ha, fun a u n ha => by
  rw [upd_ne (ne_of_none ha h)]
  exact e.2 a u n ha⟩
theorem Gd.upd {H H' : Hp} {p : Addr} {o : HO} (e : Gd H H') (h : H' p = none) : Gd H (upd H' p o) := e.mut (fresh_gd e h)
/-- the script: known to the object, or of the written part -/
def ScrAt (K : PySem.W.Frag) (H : Hp) (a : Addr) (xs : List V) : Prop :=
  (∃ o, H a = some (.frz o (.lst xs))) ∨ ∃ (o : Obj) (its : Array Value) (n : Nat), K.lookup a = some o ∧ o.cls = .type "list" ∧ o.dict = none ∧ o.data = .seq its n ∧ its.size ≤ sizeLine ∧ Vals xs its.toList
theorem ScrAt.seq {K : PySem.W.Frag} {H : Hp} {a : Addr} {xs : List V} (h : ScrAt K H a xs) : SqL K H a xs := h.elim (fun ⟨o, h⟩ => .inl (.inr ⟨o, h⟩)) fun h => .inr h
theorem ScrAt.gd {K : PySem.W.Frag} {H H' : Hp} {a : Addr} {xs : List V} (e : Gd H H') (h : ScrAt K H a xs) : ScrAt K H' a xs := h.elim (fun ⟨o, h⟩ => .inl ⟨o, e.1 _ _ (np_frz _ _) h⟩) fun h => .inr h
theorem ScrAt.mut {K : PySem.W.Frag} {H : Hp} {a D : Addr} {xs ys : List V} {o : HO} (hD : H D = some (.lst ys)) (h : ScrAt K H a xs) : ScrAt K (upd H D o) a xs :=
  h.elim (fun ⟨u, h⟩ => .inl ⟨u, by rw [upd_ne (ne_of h hD (by intro z; cases z))]; exact h⟩) fun h => .inr h
theorem scr_of {K : PySem.W.Frag} {H : Hp} {a : Addr} {xs : List V} (hO : Only H) (h : SqL K H a xs) : ScrAt K H a xs := by
  rcases h with (h | ⟨o, h⟩) | h
  · rcases hO a with z | ⟨o, ys, z⟩
    · rw [h] at z; cases z
    · rw [h] at z; cases z
  · exact .inl ⟨o, h⟩
  · exact .inr h
/-- the pool at p has drawn at most c times -/
def PoolOk (K : PySem.W.Frag) (p : Addr) (c : Nat) (H : Hp) : Prop := ∃ (sa : Addr) (ns : List Int) (c' i b s : Int), ScrAt K H sa (ns.map V.int) ∧ H p = some (.lst [.ref sa, .int c', .int i, .int b, .int s]) ∧ 0 ≤ c' ∧ c' ≤ (c : Int) ∧ 0 ≤ i ∧ i ≤ (ns.length : Int) ∧ 0 ≤ b ∧ 0 ≤ s ∧ s < 2147483629
theorem PoolOk.same {K : PySem.W.Frag} {p : Addr} {c : Nat} {H H' : Hp} (h : PoolOk K p c H) (e : Same H H') : PoolOk K p c H' := by
  obtain ⟨sa, ns, c', i, b, s, h1, h2, h3⟩ := h
  exact ⟨sa, ns, c', i, b, s, h1.gd e.gd, e _ _ h2, h3⟩
theorem PoolOk.mono {K : PySem.W.Frag} {p : Addr} {c d : Nat} {H : Hp} (h : PoolOk K p c H) (e : c ≤ d) : PoolOk K p d H := by
  obtain ⟨sa, ns, c', i, b, s, h1, h2, h3, h4, h5⟩ := h
  exact ⟨sa, ns, c', i, b, s, h1, h2, h3, by omega, h5⟩
/-- the pool is known, so a new address is another one -/
theorem PoolOk.ne {K : PySem.W.Frag} {p q : Addr} {c : Nat} {H : Hp} (h : PoolOk K p c H) (e : H q = none) : p ≠ q := by
  obtain ⟨sa, ns, c', i, b, s, h1, h2, h3⟩ := h
  exact ne_of_none h2 e
theorem PoolOk.upd {K : PySem.W.Frag} {p q : Addr} {c : Nat} {H : Hp} {o : HO} (h : PoolOk K p c H) (e : H q = none) : PoolOk K p c (upd H q o) := h.same (same_upd e)
/-- a list that stands (not the pool's) is changed: the pool stays -/
theorem PoolOk.mut {K : PySem.W.Frag} {p D : Addr} {c : Nat} {H : Hp} {ys : List V} {o : HO} (h : PoolOk K p c H) (hD : H D = some (.lst ys)) (n : ¬ isPool (.lst ys)) : PoolOk K p c (L2.upd H D o) := by
  obtain ⟨sa, ns, c', i, b, s, h1, h2, h3⟩ := h
  refine ⟨sa, ns, c', i, b, s, h1.mut hD, ?_, h3⟩
  rw [upd_ne (fun e => by
    subst e
    rw [h2] at hD
    injection hD with hD
    exact n ⟨sa, c', i, b, s, hD.symm⟩)]
  exact h2
theorem tyes {σ : St} {H : Hp} {A B : Hp → Prop} (h : A H) : tYes σ H fun b H3 => if b = true then A H3 else B H3 := by
  unfold tYes
  dsimp only
  rw [if_pos rfl]
  exact h
def pl (sa : Addr) (c i b s : Int) : HO := .lst [.ref sa, .int c, .int i, .int b, .int s]
theorem pl_pool (sa : Addr) (c i b s : Int) : isPool (pl sa c i b s) := ⟨sa, c, i, b, s, rfl⟩
theorem gd_pool {H : Hp} {p sa sa' : Addr} {c i b s c' i' b' s' : Int} (h : H p = some (pl sa c i b s)) : Gd H (upd H p (pl sa' c' i' b' s')) := ⟨fun x u n e => by
  have hx : x ≠ p := fun z => by
    subst z
    rw [h] at e
    injection e with e
    exact n ⟨sa, c, i, b, s, e.symm⟩
  rw [upd_ne hx]
  exact e, fun x u n e => by
  by_cases hx : x = p
  · subst hx
    exact ⟨_, pl_pool _ _ _ _ _, upd_same⟩
  · exact ⟨u, n, by rw [upd_ne hx]; exact e⟩⟩
def LIM : Nat := 1099511627776
def spDraw (K : PySem.W.Frag) : Sp := fun vs H Q _ => ∃ (p : Addr) (c : Nat) (lim : Int), vs = [.ref p, .int lim] ∧ PoolOk K p c H ∧ c < LIM ∧ 0 < lim ∧ lim < 2 ^ 200 ∧
  ∀ H' r, Gd H H' → PoolOk K p (c + 1) H' → 0 ≤ r → r < lim → Q (.int r) H'
def spPool (K : PySem.W.Frag) : Sp := fun vs H Q _ => ∃ (x : Addr) (ns : List Int), vs = [.ref x] ∧ ScrAt K H x (ns.map V.int) ∧ ∀ p H', H p = none → Same H H' → PoolOk K p 0 H' → Q (.ref p) H'
theorem atI0 {α : Type} {x : α} {r : List α} : atI (x :: r) 0 = some x := atI_nat (j := 0) rfl
theorem atI1 {α : Type} {x y : α} {r : List α} : atI (x :: y :: r) 1 = some y := atI_nat (j := 1) rfl
theorem atI2 {α : Type} {x y z : α} {r : List α} : atI (x :: y :: z :: r) 2 = some z := atI_nat (j := 2) rfl
theorem atI3 {α : Type} {x y z u : α} {r : List α} : atI (x :: y :: z :: u :: r) 3 = some u := atI_nat (j := 3) rfl
theorem atI4 {α : Type} {x y z u v : α} {r : List α} : atI (x :: y :: z :: u :: v :: r) 4 = some v := atI_nat (j := 4) rfl
/-! ## sets of questions by their ascending lists -/
def ask48 : List Int := (List.range 48).map fun i => ((i : Nat) : Int)
def norm (l : List Int) : List Int := ask48.filter fun x => decide (x ∈ l)
/-! ## values -/
theorem dpAll_ints {K : PySem.W.Frag} {H : Hp} : ∀ ns : List Int, DpAll K H (ns.map V.int) (ns.map PyData.int)
  | [] => .nil
  | n :: r => .cons (.int n) (dpAll_ints r)
theorem canLay_ints : ∀ ns : List Int, PyData.canLayAll0 (ns.map PyData.int) = true
  | [] => by rw [List.map_nil, PyData.canLayAll0]
  | n :: r => by
    rw [List.map_cons, PyData.canLayAll0, canLay_ints r]
    rfl
theorem depth_ints : ∀ ns : List Int, PyData.depthAll (ns.map PyData.int) = 0
  | [] => by rw [List.map_nil, PyData.depthAll]
  | n :: r => by
    rw [List.map_cons, PyData.depthAll, depth_ints r]
    rfl
theorem shT (ns : List Int) : SeqAt.shaped (.tuple (ns.map PyData.int)) = true := by
  simp [SeqAt.shaped, PyData.canLay0, canLay_ints, PyData.depth, depth_ints]
theorem evT (ns ms : List Int) : PyData.eqv (.tuple (ns.map PyData.int)) (.tuple (ms.map PyData.int)) = decide (ns = ms) := by
  rw [PyData.eqv, PySem.W.ked_eqvAll]
theorem neD_tup {K : PySem.W.Frag} {H : Hp} {a b : Addr} {ns ms : List Int} {Q : VK} (h1 : SqT K H a (ns.map V.int)) (h2 : SqT K H b (ms.map V.int)) (q : Q (.bl (!decide (ns = ms))) H) : rNeD K (.ref a) (.ref b) H Q :=
  ⟨_, _, .tup h1 (dpAll_ints ns), .tup h2 (dpAll_ints ms), shT ns, shT ms, by rw [evT]; exact q⟩
/-! ## pupils -/
/-- at a a pupil whose rights are the ascending list of l -/
def PupAt (C : Addr) (H : Hp) (a : Addr) (l : List Int) : Prop := ∃ dx t, H a = some (.ins C dx [("rights", .ref t)]) ∧ H t = some (.tup ((norm l).map V.int))
theorem PupAt.same {C a : Addr} {H H' : Hp} {l : List Int} (e : Same H H') (h : PupAt C H a l) : PupAt C H' a l := by
  obtain ⟨dx, t, h1, h2⟩ := h
  exact ⟨dx, t, e _ _ h1, e _ _ h2⟩
theorem PupAt.gd {C a : Addr} {H H' : Hp} {l : List Int} (e : Gd H H') (h : PupAt C H a l) : PupAt C H' a l := by
  obtain ⟨dx, t, h1, h2⟩ := h
  exact ⟨dx, t, e.1 _ _ (np_ins _ _ _) h1, e.1 _ _ (np_tup _) h2⟩
theorem PupAt.eq {C a : Addr} {H : Hp} {l l' : List Int} (h : PupAt C H a l) (e : norm l = norm l') : PupAt C H a l' := by
  obtain ⟨dx, t, h1, h2⟩ := h
  exact ⟨dx, t, h1, by rw [← e]; exact h2⟩
/-- questions: each from 0 to 47 -/
def Qn (l : List Int) : Prop := ∀ k ∈ l, 0 ≤ k ∧ k < 48
def SqA (K : PySem.W.Frag) (H : Hp) (q : Addr) (xs : List V) : Prop := SqL K H q xs ∨ SqT K H q xs
theorem SqA.same {K : PySem.W.Frag} {H H' : Hp} {q : Addr} {xs : List V} (e : Same H H') (h : SqA K H q xs) : SqA K H' q xs := h.elim (fun h => .inl (e.seq h)) fun h => .inr (e.seqT h)
section
variable {K : PySem.W.Frag} {a : Addr} {tt : TT} {te : TE} {vs : List Nat} {σ : St} {H1 : Hp} {D : Addr} {Qd : Hp → Prop} {j : Nat}
theorem tup_of {K : PySem.W.Frag} {H : Hp} {q : Addr} {xs : List V} (h : H q = some (.tup xs)) : SqT K H q xs := .inl (.inl h)
theorem lst_of {K : PySem.W.Frag} {H : Hp} {q : Addr} {xs : List V} (h : H q = some (.lst xs)) : SqL K H q xs := .inl (.inl h)
end
/-! the pure facts -/
/-- a list of questions at r -/
def QsAt (H : Hp) (r : Addr) (l : List Int) : Prop := H r = some (.lst (l.map V.int)) ∧ Qn l ∧ l.length ≤ 200
theorem QsAt.gd {H H' : Hp} {r : Addr} {l : List Int} (e : Gd H H') (h : QsAt H r l) : QsAt H' r l := ⟨e.1 _ _ (np_ints l) h.1, h.2⟩
theorem QsAt.same {H H' : Hp} {r : Addr} {l : List Int} (e : Same H H') (h : QsAt H r l) : QsAt H' r l := h.gd e.gd
/-! ## a pupil beside the ascending list of its questions -/
theorem np_refs (xs : List Addr) : ¬ isPool (.lst (xs.map V.ref)) := by
  rintro ⟨a, c, i, b, s, h⟩
  cases xs with
  | nil => cases h
  | cons x r =>
    injection h with h
    injection h with _ h
    cases r with
    | nil => cases h
    | cons y r => injection h with h _; cases h
def Pr (C : Addr) (H : Hp) (x y : Addr) : Prop := ∃ l, PupAt C H x l ∧ H y = some (.lst ((norm l).map V.int))
theorem Pr.same {C x y : Addr} {H H' : Hp} (e : Same H H') (h : Pr C H x y) : Pr C H' x y := let ⟨l, a, b⟩ := h; ⟨l, a.same e, e _ _ b⟩
theorem Pr.gd {C x y : Addr} {H H' : Hp} (e : Gd H H') (h : Pr C H x y) : Pr C H' x y := let ⟨l, a, b⟩ := h; ⟨l, a.gd e, e.1 _ _ (np_ints _) b⟩
theorem PupAt.mut {C x q : Addr} {H : Hp} {l : List Int} {zs : List V} {o : HO} (hq : H q = some (.lst zs)) (h : PupAt C H x l) : PupAt C (upd H q o) x l := by
  obtain ⟨dx, t, h1, h2⟩ := h
  exact ⟨dx, t, by rw [upd_ne (ne_of h1 hq (by intro z; cases z))]; exact h1, by rw [upd_ne (ne_of h2 hq (by intro z; cases z))]; exact h2⟩
theorem Pr.mut {C x y q : Addr} {H : Hp} {zs : List V} {o : HO} (hq : H q = some (.lst zs)) (ne : y ≠ q) (h : Pr C H x y) : Pr C (upd H q o) x y := let ⟨l, a, b⟩ := h; ⟨l, a.mut hq, by rw [upd_ne ne]; exact b⟩
theorem Pr.ne {C x y q z : Addr} {H : Hp} {zs : List V} (h : Pr C H x y) (hq : H q = some (.lst (.ref z :: zs))) : y ≠ q := by
  obtain ⟨l, a, b⟩ := h
  refine ne_of b hq fun e => ?_
  injection e with e
  cases hn : norm l with
  | nil => rw [hn] at e; cases e
  | cons u r => rw [hn] at e; injection e with e _; cases e
def Tri (C : Addr) (H : Hp) (PL SL : Addr) (xs ys : List Addr) : Prop := H PL = some (.lst (xs.map V.ref)) ∧ H SL = some (.lst (ys.map V.ref)) ∧ xs.length = 3 ∧ ys.length = 3 ∧ ∀ (k : Nat) x y, xs[k]? = some x → ys[k]? = some y → Pr C H x y
theorem Tri.gd {C PL SL : Addr} {H H' : Hp} {xs ys : List Addr} (e : Gd H H') (h : Tri C H PL SL xs ys) : Tri C H' PL SL xs ys :=
  ⟨e.1 _ _ (np_refs _) h.1, e.1 _ _ (np_refs _) h.2.1, h.2.2.1, h.2.2.2.1, fun k x y a b => (h.2.2.2.2 k x y a b).gd e⟩
theorem dpAll_bls {K : PySem.W.Frag} {H : Hp} : ∀ bs : List Bool, DpAll K H (bs.map V.bl) (bs.map PyData.bool)
  | [] => .nil
  | n :: r => .cons (.bl n) (dpAll_bls r)
theorem canLay_bls : ∀ ns : List Bool, PyData.canLayAll0 (ns.map PyData.bool) = true
  | [] => by rw [List.map_nil, PyData.canLayAll0]
  | n :: r => by
    rw [List.map_cons, PyData.canLayAll0, canLay_bls r]
    rfl
theorem depth_bls : ∀ ns : List Bool, PyData.depthAll (ns.map PyData.bool) = 0
  | [] => by rw [List.map_nil, PyData.depthAll]
  | n :: r => by
    rw [List.map_cons, PyData.depthAll, depth_bls r]
    rfl
theorem shB (ns : List Bool) : SeqAt.shaped (.list (ns.map PyData.bool)) = true := by
  simp [SeqAt.shaped, PyData.canLay0, canLay_bls, PyData.depth, depth_bls]
theorem evAll_bls : ∀ ns : List Bool, PyData.eqvAll (ns.map PyData.bool) (ns.map PyData.bool) = true
  | [] => by rw [List.map_nil, PyData.eqvAll]
  | n :: r => by
    rw [List.map_cons, PyData.eqvAll, evAll_bls r]
    cases n <;> simp [PyData.eqv]
theorem neD_bls {K : PySem.W.Frag} {H : Hp} {a b : Addr} {ns : List Bool} {Q : VK} (h1 : SqL K H a (ns.map V.bl)) (h2 : SqL K H b (ns.map V.bl)) (q : Q (.bl false) H) : rNeD K (.ref a) (.ref b) H Q :=
  ⟨_, _, .lst h1 (dpAll_bls ns), .lst h2 (dpAll_bls ns), shB ns, shB ns, by rw [PyData.eqv, evAll_bls]; exact q⟩
end L2
namespace L2
open PySem PySem.Spec PyProof.Rows
/-! ## own errors whose __init__ calls the base's by the base's name -/
/-- what the base class B says of B.__init__ -/
structure BaseI (K : PySem.W.Frag) (B : Addr) : Prop where
  ga : PySem.W.specialIn K (.ref B) "__getattribute__" = some (some (.builtin "type.__getattribute__"))
  ty : PySem.W.typeIn K (.ref B) = some (.type "type")
  rd : PySem.W.readsIn K B (.type "type") = true
  fi : PySem.W.findCls K (.ref B) (.type "type") "__init__" = some (.val (.builtin "ValueError.__init__"))
section
variable {X : Cx} {o e : Expr} {es : List Expr} {to te : TE} {ta : TA} {f x : Str} {p p' p1 p2 pos : Pos} {B : Addr}
theorem pe_binit {pl : Sem Bool} (T : BaseI X.K B) (hg : Gl X x) (hm : X.mg x = some (.ref B)) (ha : PA X (e :: es) ta) (hdb : (x == ("__debug__" : Str)) = false := by decide)
    (hc : eval (.Call (.Attribute (.Name x p1) "__init__" p2) (e :: es) [] pos) X.env = (do
      let ov ← eval (.Name x p1) X.env
      standAt p2.atName
      let (f, first) ← holding [ov] (getMethod ov "__init__" pl)
      callWith pos f first (backTo pos (starEach (e :: es) X.env)) (backToKw pos (keywordEach [] X.env))) := by rfl)
    (he : starEach (e :: es) X.env = (false, eval e X.env) :: starEach es X.env := by rfl) (hpl : (backTo pos (starEach es X.env)).any (·.1) = false := by rfl) :
    PE X (.Call (.Attribute (.Name x p1) "__init__" p2) (e :: es) [] pos) (tVeI X.K ta) := by
  refine ⟨fun pins s σ H Q I h => ?_⟩
  refine PySem.W.methodCall_KW (ld_glob I hg hm ?_ hdb) hc
  obtain ⟨m, fr⟩ := I.fr
  refine PySem.W.method_of_cls fr I.ok.mod.kin T.ga (PySem.W.cls_val fr I.ok.mod.kin T.ty T.rd T.fi (by decide +kernel) ?_)
  show wpAny _ _ (callWith pos (Value.builtin "ValueError.__init__") [] (backTo pos (starEach (e :: es) X.env)) []) _ _ _
  refine callWith_method1 (thn (ha.run pos pins _ σ H _ (I.tok _) h) fun us s1 ⟨vs, H1, I1, r1, a, C, ws, ev, hl, T, ea, q⟩ => ?_) he hpl
  subst ev
  cases r1 with
  | @cons _ u0 _ ur ra rw' =>
    obtain rfl : u0 = Value.ref a := ra
    exact oinit_ok T I1 ea (by rw [← Paired.length rw', sizeLine_eq]; omega) fun s' J => ⟨.non, H1, J, rfl, q⟩
end
/-! ## a class made, a method called, where what is raised is wished for at the slots -/
/-! ## an error is made and raised: its dict d holds its one field -/
/-- X.__init__(self, v): the base's __init__, then self.f = v -/
def spErr (C : Addr) (f : Str) (ok : V → Prop) : Sp := fun vs H Q _ => ∃ (a : Addr) (v : V), vs = [.ref a, v] ∧ ok v ∧ H a = some (exo a C none) ∧
  ∀ dx, H dx = none → dx ≠ a → Q .non (upd (upd H dx (exd dx [(f, v)])) a (exo a C (some dx)))
theorem err_make {C : Addr} {f : Str} {ok : V → Prop} {v : V} {H : Hp} {W : Value → Option Addr → Hp → Prop} {E : XK} (hv : ok v) (k : ∀ d, H d = none → W (.ref C) (some d) (upd H d (.xd [(f, v)]))) :
    [v].length ≤ 1000 ∧ ∀ a, H a = none → spErr C f ok (.ref a :: ([v] ++ [])) (upd H a (exo a C none))
      (fun u H2 => u = .non ∧ ∃ (d : Addr) (fs : List (Str × V)), H2 a = some (exo a C (some d)) ∧ H2 d = some (exd d fs) ∧ H d = none ∧ W (.ref C) (some d) (upd (del H2 a) d (.xd fs))) E := by
  refine ⟨by show 1 ≤ 1000; decide, fun a na => ⟨a, v, rfl, hv, upd_same, fun dx ndx ne => ⟨rfl, dx, [(f, v)], upd_same, ?_, ?_, ?_⟩⟩⟩
  · rw [upd_ne ne, upd_same]
  · rw [upd_ne ne] at ndx
    exact ndx
  · rw [upd_ne ne] at ndx
    have e : upd (del (upd (upd (upd H a (exo a C none)) dx (exd dx [(f, v)])) a (exo a C (some dx))) a) dx (.xd [(f, v)]) = upd H dx (.xd [(f, v)]) := by
      funext b
      by_cases hb : b = dx
      · subst hb
        rw [upd_same, upd_same]
      · rw [upd_ne hb, upd_ne hb]
        by_cases ha : b = a
        · subst ha
          rw [del_same, na]
        · rw [del_ne ha, upd_ne ha, upd_ne hb, upd_ne ha]
    rw [e]
    exact k dx ndx
end L2
namespace PySem.W
open PySem PySem.Spec PySem.Calls PyProof.Rows
section
variable {prog : Program} {w : World} {A : Around} {E : Value → Shared → Prop} {s : Shared} {K : Frag} {x D : Addr} {ox : Obj} {od : Option Obj}
/-- what the class of an error says of __class__ and of its own getter -/
structure ErrK (K : Frag) (D : Addr) : Prop where
  ga : findIn K (.ref D) "__getattribute__" = some (some (.builtin "BaseException.__getattribute__"))
  gg : findIn K (.ref D) "__getattr__" = some none
  sb : subIn K (.ref D) (.type "BaseException") = some true
  hd : hasDictIn K D = true
  cl : findIn K (.ref D) "__class__" = some (some (.builtin "object.__class__"))
  gt : specialIn K (.builtin "object.__class__") "__get__" = some (some (.builtin "getset_descriptor.__get__"))
  tk : takesIn K (.builtin "object.__class__") = some true
  mr : mroIn K D (.type "object") = some true
/-- e.__class__ of an error, with a dict of its own or without -/
theorem err_cls {Q : Option Value → Shared → Prop} (Z : ErrK K D) (X : K.In s.heap) (I : InstAt s.heap x ox D od) (h : Q (some (.ref D)) { s with toks := s.toks + 1 }) : wpAny (model prog w) A (getAttr? (.ref x) "__class__") Q E s := by
  have found : findObj K D od "__class__" = some (.bind (.builtin "getset_descriptor.__get__") (.builtin "object.__class__")) := by
    obtain ⟨cd, hc, _⟩ := any_some Z.hd
    unfold findObj
    rw [hc, Option.bind_some, Z.cl, Option.bind_some]
    simp [Z.gt, Z.tk]
  rcases s with ⟨hp, gs, dr, tk, os⟩
  have la := I.type (M := model prog w); have lb := looks_findIn (M := model prog w) X Z.ga; have lc := looks_findIn (M := model prog w) X Z.gg; have ld := looks_find (M := model prog w) X I found
  have isB : Looks (model prog w) hp (isInstance (.ref x) (.type "BaseException")) true := la.andThen (looks_subIn X Z.sb)
  have n2 : (Value.builtin "BaseException.__getattribute__" == Value.builtin "object.__getattribute__") = false := by decide +kernel
  have n1 : (onTheHeap (Value.ref D) && Value.builtin "BaseException.__getattribute__" == Value.builtin "object.__getattribute__") = false := by rw [n2, Bool.and_false]
  unfold getAttr? getAttrBy? getAttrBy
  refine wpAny_bind (wpAny_mkText (wpAny_bind (wpAny_attempt (wpAny_holding (wpAny_bind (la.at (wpAny_bind (lb.at (?_ : wpAny _ _ (if (onTheHeap (Value.ref D) && Value.builtin "BaseException.__getattribute__" == Value.builtin "object.__getattribute__") = true then _ else _) _ _ _)))))))))
  rw [n1, if_neg Bool.false_ne_true]
  unfold getAttrByItsOwn hookBefore
  refine wpAny_bind (?_ : wpAny _ _ (if onTheHeap (Value.ref D) = true then _ else _) _ _ _)
  have oh : onTheHeap (Value.ref D) = true := rfl
  rw [if_pos oh]
  refine lc.at (wpAny_bind (wpAny_attempt (wpAny_holding ?_)))
  unfold callGetattribute
  rw [show (false && onTheHeap (Value.builtin "BaseException.__getattribute__")) = false from rfl, if_neg Bool.false_ne_true]
  unfold boundAndCalled
  rw [PySem.F.excAttr_ValueError.ga.bind (.ref x)]
  refine wpAny_bind (wpAny_pure (?_ : wpAny _ _ (call (.builtin "BaseException.__getattribute__") [.ref x, .str "__class__" tk]) _ _ _))
  refine wpAny_call (codeAny_call_builtin PySem.F.excAttr_ValueError.ga.plain PySem.F.entry_bexc_ga (@check_slot (model prog w) _ _ ⟨hp, gs, dr, tk + 1, os⟩ "BaseException.__getattribute__" "BaseException" "__getattribute__" (.ref x) [.str "__class__" tk] [] _ (by decide +kernel) (by decide +kernel) isB (PySem.F.args_bexc_ga (.ref x) (.str "__class__" tk)) ?_))
  unfold Builtin.«object.__getattribute__»
  refine wpAny_bind (wpAny_of_eq (a := ((Value.ref x : Value), [Value.str "__class__" tk])) (by first | rfl | (simp only [slotArgs]; rfl)) (wpAny_bind (wpAny_pure (wpAny_bind (la.at (wpAny_bind (ld.at ?_)))))))
  refine (?_ : wpAny _ _ (holding [Value.builtin "object.__class__"] (call (.builtin "getset_descriptor.__get__") [.builtin "object.__class__", .ref x, .ref D]) >>= ret) _ _ _)
  refine wpAny_bind (wpAny_holding (wpAny_call (class_get (s := ⟨hp, gs, dr, tk + 1, os⟩) (ox := ox) (od := od) X I Z.mr (wpAny_pure (?_ : wpAny _ _ (handedOut (.ref D)) _ _ _)))))
  rw [handedOut_of (v := .ref D) rfl]
  first
    | exact wpAny_pure (wpAny_pure h)
    | exact wpAny_pure h
    | exact wpAny_pure (wpAny_bind (wpAny_pure (wpAny_pure h)))
theorem err_kit (Z : ErrK K D) : KitX K (.ref x) (.ref D) (fun h => ∃ ox od, InstAt h x ox D od) := by
  have own : ∃ c' d' cd' sl', K.lookup D = some ⟨c', d', .cls cd', sl'⟩ := by
    obtain ⟨cd, hc, _⟩ := any_some Z.hd
    unfold clsIn at hc
    split at hc
    · rename_i c' d' cd' sl' ho
      exact ⟨_, _, _, _, ho⟩
    · cases hc
  obtain ⟨c', d', cd', sl', ho⟩ := own
  refine ⟨fun _ _ _ ⟨_, _, I⟩ => I.type, fun _ _ X _ A' Q' E' s' k q => ?_, fun h tp dd its n sl X htp => Bool.eq_false_iff.mpr fun q => ?_, fun X ⟨_, _, I⟩ k => err_cls Z X I k⟩
  · unfold isType loadHead
    exact wpAny_bind (wpAny_loadPart (k _ _ (X _ _ ho)) (wpAny_pure q))
  · have e : D = tp := Value.ref.inj (beq_iff_eq.mp q)
    subst e
    have z := (X _ _ ho).symm.trans htp
    cases z
end
end PySem.W
namespace L2
open PySem PySem.Spec PyProof.Rows
end L2
namespace L2
open PySem PySem.Spec PyProof.Rows
/-! ## how long the words of an error are -/
theorem len_nat {n k : Nat} (hk : 0 < k) (h : n < 10 ^ k) : (Nat.repr n).toList.length ≤ k := by
  unfold Nat.repr
  rw [String.toList_ofList]
  exact (Nat.length_toDigits_le_iff (by decide) hk).mpr h
theorem len_toString {i : Int} {k : Nat} (hk : 0 < k) (h : i.natAbs < 10 ^ k) : (toString i).toList.length ≤ k + 1 := by
  show (Int.repr i).toList.length ≤ k + 1
  unfold Int.repr
  cases i with
  | ofNat m => exact Nat.le_succ_of_le (len_nat hk h)
  | negSucc m =>
    show ("-" ++ Nat.repr (m + 1)).toList.length ≤ k + 1
    rw [String.toList_append, List.length_append]
    have := len_nat hk (show m + 1 < 10 ^ k from h)
    show 1 + _ ≤ _
    omega
theorem len_app (a b : PySem.Str) : (a ++ b).length = a.length + b.length := by
  have e1 : (a ++ b).cps.toList.length = (a ++ b).length := Array.length_toList
  have e2 : a.cps.toList.length = a.length := Array.length_toList
  have e3 : b.cps.toList.length = b.length := Array.length_toList
  rw [PySem.W.KT.app_list, List.length_append, e2, e3] at e1
  exact e1.symm
/-- a number that an error may carry -/
def Bd (i : Int) : Prop := i.natAbs < 2 ^ 400
theorem Bd.log {i : Int} (h : Bd i) : i.natAbs.log2 < 1920 := by
  by_cases h0 : i.natAbs = 0
  · rw [h0]; decide
  · exact (Nat.log2_lt h0).mpr (Nat.lt_of_lt_of_le h (Nat.pow_le_pow_right (by decide) (by decide)))
theorem Bd.len {i : Int} (h : Bd i) : (PySem.Str.ofString (toString i)).length ≤ 200 := by
  rw [PySem.ofString_length]
  exact Nat.le_trans (len_toString (k := 150) (by decide) (Nat.lt_of_lt_of_le h (by decide +kernel))) (by decide)
def okB (v : V) : Prop := ∃ i : Int, v = .int i ∧ Bd i
/-! ## a pupil made of questions of which some may be none -/
theorem kit_sub {K : PySem.W.Frag} {C B : Addr} (h : PySem.W.subIn K (.ref C) (.ref B) = some true) (h2 : PySem.W.isClsIn K B = true) (h3 : PySem.W.typeIn K (.ref B) = some (.type "type")) : PySem.W.kitOne K (.ref C) (.ref B) = some true := by
  unfold PySem.W.kitOne
  split
  · rfl
  · show (if ((PySem.W.clsIn K B).isSome && PySem.W.typeIn K (.ref B) == some (.type "type")) = true then PySem.W.subIn K (.ref C) (.ref B) else none) = some true
    rw [show (PySem.W.clsIn K B).isSome = true from h2, h3, h]
    rfl
end L2
namespace L2
open PySem PySem.Spec PyProof.Rows
/-! ## an object of an own class made by C(e, .., k=v) -/
end L2
namespace PySem
open PySem PySem.Spec PyProof.Rows L2
end PySem
namespace L2
open PySem PySem.Spec PyProof.Rows
end L2
namespace L2
open PySem PySem.Spec PyProof.Rows
/-! ## webs -/
/-- a row: a question and two or three targets -/
def RowOk (i n : Nat) (e : Int) (row : List Int) : Prop := ∃ q r, row = q :: r ∧ (r.length = 2 ∨ r.length = 3) ∧ 0 ≤ q ∧ q < 48 ∧ ∀ t ∈ r, -e ≤ t ∧ t < n ∧ ¬ (0 ≤ t ∧ t ≤ i)
/-- nothing is asked again behind a node: A i holds the questions that may be asked from node i on -/
def Cert (rows : List (List Int)) : Prop := ∃ A : Nat → Int → Prop, ∀ i q r, rows[i]? = some (q :: r) → A i q ∧ ∀ t ∈ r, 0 ≤ t → ¬ A t.toNat q ∧ ∀ z, A t.toNat z → A i z
structure GoodW (rows : List (List Int)) (e o : Int) : Prop where
  e1 : 1 ≤ e
  e2 : e ≤ 60
  len : rows.length ≤ 400
  row : ∀ i row, rows[i]? = some row → RowOk i rows.length e row
  o1 : -e ≤ o
  o2 : o < rows.length
  cert : Cert rows
/-- the rows stand as tuples at as -/
def RowsAt (H : Hp) (as : List Addr) (rows : List (List Int)) : Prop := as.length = rows.length ∧ ∀ (i : Nat) a row, as[i]? = some a → rows[i]? = some row → H a = some (.tup (row.map V.int))
theorem RowsAt.same {H H' : Hp} {as : List Addr} {rows : List (List Int)} (e : Same H H') (h : RowsAt H as rows) : RowsAt H' as rows := ⟨h.1, fun i a row x y => e _ _ (h.2 i a row x y)⟩
theorem RowsAt.gd {H H' : Hp} {as : List Addr} {rows : List (List Int)} (e : Gd H H') (h : RowsAt H as rows) : RowsAt H' as rows := ⟨h.1, fun i a row x y => e.1 _ _ (np_tup _) (h.2 i a row x y)⟩
def WebAt (C : Addr) (H : Hp) (x : Addr) (rows : List (List Int)) (e o : Int) : Prop := ∃ dx nt as, H x = some (.ins C dx [("nodes", .ref nt), ("ends", .int e), ("start", .int o)]) ∧ H nt = some (.tup (as.map V.ref)) ∧ RowsAt H as rows
theorem WebAt.same {C : Addr} {H H' : Hp} {x : Addr} {rows : List (List Int)} {e o : Int} (s : Same H H') (h : WebAt C H x rows e o) : WebAt C H' x rows e o := by
  obtain ⟨dx, nt, as, h1, h2, h3⟩ := h
  exact ⟨dx, nt, as, s _ _ h1, s _ _ h2, h3.same s⟩
theorem WebAt.gd {C : Addr} {H H' : Hp} {x : Addr} {rows : List (List Int)} {e o : Int} (s : Gd H H') (h : WebAt C H x rows e o) : WebAt C H' x rows e o := by
  obtain ⟨dx, nt, as, h1, h2, h3⟩ := h
  exact ⟨dx, nt, as, s.1 _ _ (np_ins _ _ _) h1, s.1 _ _ (np_tup _) h2, h3.gd s⟩
/-! masks -/
def natV (m : Nat) : V := .int (m : Int)
/-- a row as it is passed: a tuple or a list -/
def RowIn (H : Hp) (a : Addr) (row : List Int) : Prop := H a = some (.tup (row.map V.int)) ∨ H a = some (.lst (row.map V.int))
theorem RowIn.same {H H' : Hp} {a : Addr} {row : List Int} (e : Same H H') (h : RowIn H a row) : RowIn H' a row := h.elim (fun h => .inl (e _ _ h)) fun h => .inr (e _ _ h)
/-! ## drawn webs -/
def TgtOk (e cnt idx t : Int) : Prop := -e ≤ t ∧ t < cnt ∧ ¬ (0 ≤ t ∧ t ≤ idx)
/-- one drawn node: its question is in its own list b, in none of the lists of its targets, and b holds these -/
def NdOk (e : Int) (N g : Nat) (nms row b : List Int) (bels : List (List Int)) : Prop := ∃ q r, row = q :: r ∧ (r.length = 2 ∨ r.length = 3) ∧ q ∈ nms ∧ q ∈ b ∧ ∀ t ∈ r, TgtOk e N g t ∧ (0 ≤ t → ∃ b', bels[(t - g - 1).toNat]? = some b' ∧ q ∉ b' ∧ ∀ z ∈ b', z ∈ b)
def GoodS (e : Int) (N : Nat) (nms : List Int) : List (List Int) → List (List Int) → Prop
  | [], [] => True
  | row :: rows, b :: bels => GoodS e N nms rows bels ∧ NdOk e N (N - (rows.length + 1)) nms row b bels
  | [], _ :: _ => False
  | _ :: _, [] => False
theorem GoodS.len {e : Int} {N : Nat} {nms : List Int} : ∀ {rows bels : List (List Int)}, GoodS e N nms rows bels → bels.length = rows.length
  | [], [], _ => rfl
  | _ :: _, _ :: _, h => by rw [List.length_cons, List.length_cons, GoodS.len h.1]
  | [], _ :: _, h => h.elim
  | _ :: _, [], h => h.elim
/-- by places: base is what stands before these rows -/
theorem GoodS.at {e : Int} {N : Nat} {nms : List Int} : ∀ {rows bels : List (List Int)} {base : Nat}, GoodS e N nms rows bels → base + rows.length = N → ∀ (j : Nat) row, rows[j]? = some row →
    ∃ q r b, row = q :: r ∧ (r.length = 2 ∨ r.length = 3) ∧ q ∈ nms ∧ bels[j]? = some b ∧ q ∈ b ∧ ∀ t ∈ r, TgtOk e N (base + j : Nat) t ∧ (0 ≤ t → ∃ b', bels[t.toNat - base]? = some b' ∧ q ∉ b' ∧ ∀ z ∈ b', z ∈ b)
  | [], [], _, _, _, j, row, hj => by simp at hj
  | [], _ :: _, _, h, _, _, _, _ => h.elim
  | _ :: _, [], _, h, _, _, _, _ => h.elim
  | row0 :: rows, b0 :: bels, base, h, hb, j, row, hj => by
    rw [List.length_cons] at hb
    cases j with
    | zero =>
      obtain rfl : row0 = row := Option.some.inj hj
      obtain ⟨q, r, e1, hl, hq, hqb, ht⟩ := h.2
      have eg : N - (rows.length + 1) = base := by omega
      rw [eg] at ht
      refine ⟨q, r, b0, e1, hl, hq, rfl, hqb, fun t m => ?_⟩
      obtain ⟨h1, h2⟩ := ht t m
      refine ⟨by simpa using h1, fun t0 => ?_⟩
      obtain ⟨b', hb', h3⟩ := h2 t0
      have := h1.2.2
      have hlt : (base : Int) < t := by
        refine Int.not_le.mp fun hle => this ⟨t0, hle⟩
      refine ⟨b', ?_, h3⟩
      have : t.toNat - base = (t - base - 1).toNat + 1 := by omega
      rw [this, List.getElem?_cons_succ]
      exact hb'
    | succ j =>
      obtain ⟨q, r, b, e1, hl, hq, hbj, hqb, ht⟩ := GoodS.at (base := base + 1) h.1 (by omega) j row hj
      refine ⟨q, r, b, e1, hl, hq, hbj, hqb, fun t m => ?_⟩
      obtain ⟨h1, h2⟩ := ht t m
      refine ⟨by rw [show base + (j + 1) = base + 1 + j by omega]; exact h1, fun t0 => ?_⟩
      obtain ⟨b', hb', h3⟩ := h2 t0
      have := h1.2.2
      have hlt : ((base + 1 + j : Nat) : Int) < t := by
        refine Int.not_le.mp fun hle => this ⟨t0, hle⟩
      refine ⟨b', ?_, h3⟩
      have : t.toNat - base = (t.toNat - (base + 1)) + 1 := by omega
      rw [this, List.getElem?_cons_succ]
      exact hb'
/-! ## web[i] in a try body -/
/-! equality of tuples of tuples -/
end L2
namespace L2
open PySem PySem.Spec PyProof.Rows
/-! ## webs with one row changed -/
theorem GoodW.snoc {rows : List (List Int)} {e o q : Int} (h : GoodW rows e o) (hl : rows.length < 400) (q0 : 0 ≤ q) (q1 : q < 48) : GoodW (rows ++ [[q, -1, -1]]) e o := by
  obtain ⟨A, hA⟩ := h.cert
  have e1 := h.e1
  have ll : (rows ++ [[q, -1, -1]]).length = rows.length + 1 := by rw [List.length_append]; rfl
  have cs : ∀ {i : Nat} {row : List Int}, (rows ++ [[q, -1, -1]])[i]? = some row → (i < rows.length ∧ rows[i]? = some row) ∨ (i = rows.length ∧ row = [q, -1, -1]) := fun {i row} hi => by
    by_cases hj : i < rows.length
    · rw [List.getElem?_append_left hj] at hi
      exact .inl ⟨hj, hi⟩
    · rw [List.getElem?_append_right (by omega)] at hi
      have h0 : i - rows.length = 0 := by
        have := (List.getElem?_eq_some_iff.mp hi).1
        rw [List.length_singleton] at this
        omega
      rw [h0] at hi
      exact .inr ⟨by omega, (Option.some.inj hi).symm⟩
  refine ⟨e1, h.e2, by rw [ll]; omega, fun i row hi => ?_, h.o1, by have := h.o2; rw [ll]; omega, fun i z => if i < rows.length then A i z else z = q, fun i z s hi => ?_⟩
  · rw [ll]
    rcases cs hi with ⟨_, hi⟩ | ⟨rfl, rfl⟩
    · obtain ⟨q2, r2, e2, h1, h2, h3, h4⟩ := h.row i row hi
      exact ⟨q2, r2, e2, h1, h2, h3, fun t m => by obtain ⟨x, y, z⟩ := h4 t m; exact ⟨x, by omega, z⟩⟩
    · exact ⟨q, [-1, -1], rfl, .inl rfl, q0, q1, fun t m => by
        have : t = -1 := by simpa using m
        omega⟩
  · show (if i < rows.length then A i z else z = q) ∧ ∀ t, t ∈ s → 0 ≤ t → ¬ (if t.toNat < rows.length then A t.toNat z else z = q) ∧ ∀ y, (if t.toNat < rows.length then A t.toNat y else y = q) → (if i < rows.length then A i y else y = q)
    rcases cs hi with ⟨hil, hi⟩ | ⟨rfl, hi2⟩
    · obtain ⟨a1, a2⟩ := hA i z s hi
      simp only [if_pos hil]
      refine ⟨a1, fun t m t0 => ?_⟩
      have ht : t < rows.length := by
        obtain ⟨q2, r2, e2, _, _, _, h3⟩ := h.row i _ hi
        obtain ⟨rfl, rfl⟩ := List.cons.inj e2
        exact (h3 t m).2.1
      simp only [if_pos (show t.toNat < rows.length by omega)]
      exact a2 t m t0
    · obtain ⟨rfl, rfl⟩ := List.cons.inj hi2
      simp only [if_neg (Nat.lt_irrefl _)]
      refine ⟨trivial, fun t m t0 => ?_⟩
      have : t = -1 := by simpa using m
      omega
end L2
namespace L2
open PySem PySem.Spec PyProof.Rows
/-! ## x in t, t a tuple of data -/
/-! ## the drawing of the later stages: a list of the cells and a place -/
def Stt (p c : Addr) (H : Hp) : Prop := p ≠ c ∧ ∃ (ns : List Int) (i : Int), H p = some (.lst [.ref c, .int i]) ∧ H c = some (.lst (ns.map V.int))
def Fr (p c : Addr) (H H' : Hp) : Prop := (∀ b o, (∀ xs, o ≠ .lst xs) → H b = some o → H' b = some o) ∧ ∀ b xs, b ≠ p → b ≠ c → H b = some (.lst xs) → H' b = some (.lst xs)
theorem Fr.refl (p c : Addr) (H : Hp) : Fr p c H H := ⟨fun _ _ _ h => h, fun _ _ _ _ h => h⟩
theorem Fr.trans {p c : Addr} {H H1 H2 : Hp} (a : Fr p c H H1) (b : Fr p c H1 H2) : Fr p c H H2 := ⟨fun x o n h => b.1 x o n (a.1 x o n h), fun x xs n1 n2 h => b.2 x xs n1 n2 (a.2 x xs n1 n2 h)⟩
theorem Same.fr {p c : Addr} {H H' : Hp} (e : Same H H') : Fr p c H H' := ⟨fun x o _ h => e x o h, fun x xs _ _ h => e x _ h⟩
theorem Fr.tup {p c : Addr} {H H' : Hp} {x : Addr} {xs : List V} (e : Fr p c H H') (h : H x = some (.tup xs)) : H' x = some (.tup xs) := e.1 _ _ (fun _ z => by cases z) h
theorem Fr.ins {p c : Addr} {H H' : Hp} {x C dx : Addr} {xs : List (Str × V)} (e : Fr p c H H') (h : H x = some (.ins C dx xs)) : H' x = some (.ins C dx xs) := e.1 _ _ (fun _ z => by cases z) h
theorem Stt.same {p c : Addr} {H H' : Hp} (h : Stt p c H) (e : Same H H') : Stt p c H' := let ⟨n, ns, i, a, b⟩ := h; ⟨n, ns, i, e _ _ a, e _ _ b⟩
theorem Stt.upd {p c q : Addr} {H : Hp} {o : HO} (h : Stt p c H) (e : H q = none) : Stt p c (upd H q o) := h.same (same_upd e)
theorem Stt.mut {p c q : Addr} {H : Hp} {o : HO} (h : Stt p c H) (n1 : q ≠ p) (n2 : q ≠ c) : Stt p c (L2.upd H q o) := let ⟨n, ns, i, a, b⟩ := h; ⟨n, ns, i, by rw [upd_ne n1.symm]; exact a, by rw [upd_ne n2.symm]; exact b⟩
theorem Stt.ne {p c q : Addr} {H : Hp} (h : Stt p c H) (e : H q = none) : q ≠ p ∧ q ≠ c := let ⟨n, ns, i, a, b⟩ := h; ⟨(ne_of_none a e).symm, (ne_of_none b e).symm⟩
theorem Fr.free {p c q : Addr} {H H' : Hp} (e : Fr p c H H') (s : Stt p c H') (h : H' q = none) : H q = none := by
  cases hq : H q with
  | none => rfl
  | some o =>
    exfalso
    by_cases hl : ∃ xs, o = .lst xs
    · obtain ⟨xs, rfl⟩ := hl
      obtain ⟨n1, n2⟩ := s.ne h
      have := e.2 q xs n1 n2 hq
      rw [h] at this
      cases this
    · have := e.1 q o (fun xs z => hl ⟨xs, z⟩) hq
      rw [h] at this
      cases this
theorem Fr.mut {p c q : Addr} {H H' : Hp} {o : HO} (e : Fr p c H H') (n : H q = none) : Fr p c H (L2.upd H' q o) :=
  ⟨fun b u nl h => by rw [upd_ne (ne_of_none h n)]; exact e.1 b u nl h, fun b xs n1 n2 h => by rw [upd_ne (ne_of_none h n)]; exact e.2 b xs n1 n2 h⟩
theorem Fr.upd {p c q : Addr} {H H' : Hp} {o : HO} (e : Fr p c H H') (n : H' q = none) : Fr p c H (L2.upd H' q o) := e.trans (same_upd n).fr
end L2
namespace L2
open PySem PySem.Spec PyProof.Rows
/-! ## webs drawn in the later stages -/
theorem RowsAt.fr {p c : Addr} {H H' : Hp} {as : List Addr} {rows : List (List Int)} (e : Fr p c H H') (h : RowsAt H as rows) : RowsAt H' as rows := ⟨h.1, fun i a row x y => e.tup (h.2 i a row x y)⟩
theorem WebAt.fr {p c C : Addr} {H H' : Hp} {x : Addr} {rows : List (List Int)} {e o : Int} (s : Fr p c H H') (h : WebAt C H x rows e o) : WebAt C H' x rows e o := by
  obtain ⟨dx, nt, as, h1, h2, h3⟩ := h
  exact ⟨dx, nt, as, s.ins h1, s.tup h2, h3.fr s⟩
/-! the web without a node -/
end L2
namespace L2
open PySem PySem.Spec PyProof.Rows HotX L2H
/-! ## a def that is told the error that an except clause handles -/
end L2
namespace L2
open PySem PySem.Spec PyProof.Rows
/-! ## enumerate(list, start=k) -/
end L2
namespace L2
open PySem PySem.Spec PyProof.Rows HotX L2H
/-! ## joint walks: what their defs promise -/
/-- what an error of Joint is told as -/
inductive JDue where
  | count (n : Int) | rel (z : Str) | pos (n : Int)
  deriving DecidableEq
def JDue.row : JDue → List V
  | .count n => [.str "count", .int n]
  | .rel z => [.str "relation", .str z]
  | .pos n => [.str "positions", .int n]
/-- a word of an error -/
def okWd (v : V) : Prop := ∃ z : Str, v = .str z ∧ z.length ≤ 60
end L2
namespace L2
open PySem PySem.Spec PyProof.Rows HotX L2H RZ
/-- webs by their rows, ends and starts -/
abbrev JW := List (List Int) × Int × Int
def WebsAt (C : Addr) (H : Hp) (as : List Addr) (ws : List JW) : Prop := as.length = ws.length ∧ ∀ (i : Nat) (x : Addr) (w : JW), as[i]? = some x → ws[i]? = some w → WebAt C H x w.1 w.2.1 w.2.2
theorem WebsAt.same {C : Addr} {H H' : Hp} {as : List Addr} {ws : List JW} (s : Same H H') (h : WebsAt C H as ws) : WebsAt C H' as ws := ⟨h.1, fun i x w hi hw => (h.2 i x w hi hw).same s⟩
end L2
namespace L2
open PySem PySem.Spec PyProof.Rows HotX L2H RZ
end L2
namespace L2
open PySem PySem.Spec PyProof.Rows
/-! ## set(l), l a list of ints -/
end L2
namespace L2
open PySem PySem.Spec PyProof.Rows
/-! ## what is led to -/
inductive Led (rows : List (List Int)) (i : Int) : Int → Prop
  | refl : Led rows i i
  | step {j t q a b : Int} {r : List Int} : Led rows i j → 0 ≤ j → rows[j.toNat]? = some (q :: a :: b :: r) → (t = a ∨ t = b) → Led rows i t
/-! dicts of True -/
/-! [1:3] of a row -/
/-! the promises -/
end L2
namespace L2
open PySem PySem.Spec PyProof.Rows
/-! ## what can be asked from a position, as bits -/
theorem Led.into {rows : List (List Int)} {i t q a b : Int} {r : List Int} (i0 : 0 ≤ i) (h : rows[i.toNat]? = some (q :: a :: b :: r)) (ht : t = a ∨ t = b) {j : Int} (hj : Led rows t j) : Led rows i j := by
  induction hj with
  | refl => exact .step .refl i0 h ht
  | step _ h1 h2 h3 ih => exact .step ih h1 h2 h3
theorem Led.cases1 {rows : List (List Int)} {i j : Int} (h : Led rows i j) : j = i ∨ ∃ q a b r, 0 ≤ i ∧ rows[i.toNat]? = some (q :: a :: b :: r) ∧ (Led rows a j ∨ Led rows b j) := by
  induction h with
  | refl => exact .inl rfl
  | step h1 h2 h3 h4 ih =>
    rcases ih with rfl | ⟨q, a, b, r, i0, hr, h⟩
    · refine .inr ⟨_, _, _, _, h2, h3, ?_⟩
      rcases h4 with rfl | rfl
      · exact .inl .refl
      · exact .inr .refl
    · exact .inr ⟨q, a, b, r, i0, hr, h.imp (fun z => .step z h2 h3 h4) fun z => .step z h2 h3 h4⟩
def AskP (rows : List (List Int)) (z t : Int) : Prop := ∃ (i : Nat) (r : List Int), Led rows z (i : Int) ∧ rows[i]? = some (t :: r)
def AskMs (rows : List (List Int)) (e : Int) (ms : List Nat) : Prop := ms.length = rows.length + e.toNat ∧ ∀ (j m : Nat), ms[j]? = some m → ∀ z : Nat, m.testBit z = true ↔ AskP rows (j : Int) (z : Int)
theorem AskP.none {rows : List (List Int)} {z t : Int} (h : z < 0 ∨ rows.length ≤ z) : ¬ AskP rows z t := by
  rintro ⟨i, r, hl, hr⟩
  rcases hl.cases1 with e | ⟨q, a, b, r', z0, hz, _⟩
  · have := (List.getElem?_eq_some_iff.mp hr).1
    omega
  · have := (List.getElem?_eq_some_iff.mp hz).1
    omega
theorem AskP.node {rows : List (List Int)} {j : Nat} {q a b t : Int} {r : List Int} (hj : rows[j]? = some (q :: a :: b :: r)) : AskP rows (j : Int) t ↔ t = q ∨ AskP rows a t ∨ AskP rows b t := by
  have hj' : rows[((j : Nat) : Int).toNat]? = some (q :: a :: b :: r) := by rw [Int.toNat_natCast]; exact hj
  constructor
  · rintro ⟨i, r', hl, hr⟩
    rcases hl.cases1 with e | ⟨q', a', b', r2, _, hz, h⟩
    · have e : i = j := by omega
      subst e
      rw [hj] at hr
      simp only [Option.some.injEq, List.cons.injEq] at hr
      exact .inl hr.1.symm
    · rw [hj'] at hz
      simp only [Option.some.injEq, List.cons.injEq] at hz
      obtain ⟨rfl, rfl, rfl, rfl⟩ := hz
      exact .inr (h.imp (fun z => ⟨i, r', z, hr⟩) fun z => ⟨i, r', z, hr⟩)
  · rintro (rfl | ⟨i, r', hl, hr⟩ | ⟨i, r', hl, hr⟩)
    · exact ⟨j, _, .refl, hj⟩
    · exact ⟨i, r', Led.into (Int.natCast_nonneg _) hj' (.inl rfl) hl, hr⟩
    · exact ⟨i, r', Led.into (Int.natCast_nonneg _) hj' (.inr rfl) hl, hr⟩
/-! [:3] of a row -/
/-! ## a list or a tuple that is walked -/
def LtAt (H : Hp) (p : Addr) (xs : List V) : Prop := H p = some (.lst xs) ∨ H p = some (.tup xs)
theorem LtAt.same {H H' : Hp} {p : Addr} {xs : List V} (s : Same H H') (h : LtAt H p xs) : LtAt H' p xs := h.imp (s _ _) (s _ _)
/-! ## Joint -/
/-- all but x stands -/
def Kx (x : Addr) (H H' : Hp) : Prop := ∀ b u, b ≠ x → H b = some u → H' b = some u
theorem Kx.trans {x : Addr} {H H1 H2 : Hp} (a : Kx x H H1) (b : Kx x H1 H2) : Kx x H H2 := fun c u n h => b c u n (a c u n h)
def AskL (H : Hp) (ks : List Addr) (ws : List JW) : Prop := ks.length = ws.length ∧ ∀ (i : Nat) k w, ks[i]? = some k → ws[i]? = some w → ∃ ms : List Nat, H k = some (.lst (ms.map natV)) ∧ AskMs w.1 w.2.1 ms
def JtAt (CJ C : Addr) (H : Hp) (x : Addr) (ws : List JW) (sts : List (List Int)) (rel : Str) (wv : V) : Prop := ∃ (dx wt st ak : Addr) (as ss ks : List Addr), H x = some (.ins CJ dx [("webs", .ref wt), ("starts", .ref st), ("relation", .str rel), ("_askable", .ref ak), ("_ways", wv)]) ∧
  H wt = some (.tup (as.map V.ref)) ∧ WebsAt C H as ws ∧ H st = some (.tup (ss.map V.ref)) ∧ RowsAt H ss sts ∧ H ak = some (.lst (ks.map V.ref)) ∧ AskL H ks ws
theorem JtAt.same {CJ C : Addr} {H H' : Hp} {x : Addr} {ws : List JW} {sts : List (List Int)} {rel : Str} {wv : V} (s : Same H H') (h : JtAt CJ C H x ws sts rel wv) : JtAt CJ C H' x ws sts rel wv := by
  obtain ⟨dx, wt, st, ak, as, ss, ks, h1, h2, h3, h4, h5, h6, h7⟩ := h
  exact ⟨dx, wt, st, ak, as, ss, ks, s _ _ h1, s _ _ h2, h3.same s, s _ _ h4, h5.same s, s _ _ h6, h7.1, fun i k w e1 e2 => let ⟨ms, m1, m2⟩ := h7.2 i k w e1 e2; ⟨ms, s _ _ m1, m2⟩⟩
/-- its own lists are among N -/
def JtAtN (N : Addr → Prop) (CJ C : Addr) (H : Hp) (x : Addr) (ws : List JW) (sts : List (List Int)) (rel : Str) (wv : V) : Prop := ∃ (dx wt st ak : Addr) (as ss ks : List Addr), H x = some (.ins CJ dx [("webs", .ref wt), ("starts", .ref st), ("relation", .str rel), ("_askable", .ref ak), ("_ways", wv)]) ∧
  H wt = some (.tup (as.map V.ref)) ∧ WebsAt C H as ws ∧ H st = some (.tup (ss.map V.ref)) ∧ RowsAt H ss sts ∧ H ak = some (.lst (ks.map V.ref)) ∧ AskL H ks ws ∧ N ak ∧ ∀ k ∈ ks, N k
theorem JtAtN.mono {N N' : Addr → Prop} {CJ C : Addr} {H : Hp} {x : Addr} {ws : List JW} {sts : List (List Int)} {rel : Str} {wv : V} (h : JtAtN N CJ C H x ws sts rel wv) (hn : ∀ b, N b → N' b) : JtAtN N' CJ C H x ws sts rel wv := by
  obtain ⟨dx, wt, st, ak, as, ss, ks, h1, h2, h3, h4, h5, h6, h7, h8, h9⟩ := h
  exact ⟨dx, wt, st, ak, as, ss, ks, h1, h2, h3, h4, h5, h6, h7, hn _ h8, fun k hk => hn _ (h9 k hk)⟩
/-- starts as they are passed: each a list or a tuple -/
def RowsIn (H : Hp) (as : List Addr) (rows : List (List Int)) : Prop := as.length = rows.length ∧ ∀ (i : Nat) a row, as[i]? = some a → rows[i]? = some row → RowIn H a row
end L2
namespace L2
open PySem PySem.Spec PyProof.Rows
/-! ## drawn webs as pairs of a list and a number; starts as lists -/
def RowsL (H : Hp) (as : List Addr) (rows : List (List Int)) : Prop := as.length = rows.length ∧ ∀ (i : Nat) a row, as[i]? = some a → rows[i]? = some row → H a = some (.lst (row.map V.int))
def WpAt (H : Hp) (p : Addr) (w : JW) : Prop := ∃ (D : Addr) (as : List Addr), H p = some (.tup [.ref D, .int w.2.1]) ∧ H D = some (.lst (as.map V.ref)) ∧ RowsAt H as w.1
def WpsAt (H : Hp) (ps : List Addr) (ws : List JW) : Prop := ps.length = ws.length ∧ ∀ (i : Nat) p w, ps[i]? = some p → ws[i]? = some w → WpAt H p w
theorem RowsL.same {H H' : Hp} {as : List Addr} {rows : List (List Int)} (s : Same H H') (h : RowsL H as rows) : RowsL H' as rows := ⟨h.1, fun i a row h1 h2 => s _ _ (h.2 i a row h1 h2)⟩
theorem WpAt.same {H H' : Hp} {p : Addr} {w : JW} (s : Same H H') (h : WpAt H p w) : WpAt H' p w := let ⟨D, as, h1, h2, h3⟩ := h; ⟨D, as, s _ _ h1, s _ _ h2, h3.same s⟩
theorem WpsAt.same {H H' : Hp} {ps : List Addr} {ws : List JW} (s : Same H H') (h : WpsAt H ps ws) : WpsAt H' ps ws := ⟨h.1, fun i p w h1 h2 => (h.2 i p w h1 h2).same s⟩
end L2
/-! a piece of code that holds with every sleeping generator shut leaves the sleeping ones as they are -/
namespace Gk
open PySem PyProof.Rows
open Sem (wp)
def sus : GenState → Bool
  | .suspended .. => true
  | _ => false
/-- shut: who wakes it is stuck -/
def stk : GenState → GenState
  | .suspended _ l c p fs cl => .suspended (fun _ => .unsupported "") l c p fs cl
  | x => x
def sel (Y : Array GenState) (i : Nat) (x : GenState) : GenState := match Y[i]? with
  | some y => bif sus y then y else x
  | none => x
def put (Y a : Array GenState) : Array GenState := a.mapIdx (sel Y)
def pt (Y : Array GenState) (s : Shared) : Shared := { s with gens := put Y s.gens }
/-- the generator g was not asleep -/
def Up (Y : Array GenState) (g : Nat) : Prop := ∀ y, Y[g]? = some y → sus y = false
theorem put_get {Y a : Array GenState} {i : Nat} : (put Y a)[i]? = a[i]?.map (sel Y i) := by
  unfold put
  rw [Array.getElem?_mapIdx]
theorem sel_up {Y : Array GenState} {g : Nat} {x : GenState} (h : Up Y g) : sel Y g x = x := by
  unfold sel
  split
  · rename_i y e
    rw [h y e]; rfl
  · rfl
theorem put_size {Y a : Array GenState} : (put Y a).size = a.size := by unfold put; simp
theorem put_set {Y a : Array GenState} {g : Nat} {x : GenState} (h : Up Y g) : put Y (a.setIfInBounds g x) = (put Y a).setIfInBounds g x := by
  refine Array.ext_getElem? fun i => ?_
  rw [put_get, Array.getElem?_setIfInBounds, Array.getElem?_setIfInBounds, put_get, put_size]
  by_cases hg : g = i
  · subst hg
    by_cases hs : g < a.size
    · simp [hs, sel_up h]
    · simp [hs]
  · simp [hg]
theorem put_push {Y a : Array GenState} {x : GenState} (h : Y.size ≤ a.size) : put Y (a.push x) = (put Y a).push x := by
  refine Array.ext_getElem? fun i => ?_
  rw [put_get, Array.getElem?_push, Array.getElem?_push, put_get, put_size]
  by_cases hi : i = a.size
  · subst hi
    have : Up Y a.size := fun y e => by
      have := (Array.getElem?_eq_some_iff.mp e).1
      omega
    simp [sel_up this]
  · simp [hi]
structure GOk (Y a : Array GenState) : Prop where
  size : Y.size ≤ a.size
  st : ∀ (i : Nat) y, Y[i]? = some y → sus y = true → a[i]? = some (stk y)
  ng : ∀ (i : Nat) k l c p fs cl, a[i]? = some (.suspended k l c p fs cl) → Up Y i → splitAtGen fs = none
def FOk (Y : Array GenState) (fs : List Frame) : Prop := ∀ g k l c p, Frame.gen g k l c p ∈ fs → Up Y g
def EOk : End → Prop
  | .ret _ => True
  | .susp _ _ _ _ _ _ fs => splitAtGen fs = none
theorem GOk.set {Y a : Array GenState} {g : Nat} {x : GenState} (o : GOk Y a) (h : Up Y g) (hx : ∀ k l c p fs cl, x = .suspended k l c p fs cl → splitAtGen fs = none) : GOk Y (a.setIfInBounds g x) := by
  refine ⟨by simp only [Array.size_setIfInBounds]; exact o.size, fun i y e hy => ?_, fun i k l c p fs cl e u => ?_⟩
  · have hg : g ≠ i := fun z => by
      subst z
      rw [h y e] at hy
      cases hy
    rw [Array.getElem?_setIfInBounds_ne hg]
    exact o.st i y e hy
  · by_cases hg : g = i
    · subst hg
      by_cases hs : g < a.size
      · rw [Array.getElem?_setIfInBounds] at e
        simp only [if_true, hs] at e
        exact hx _ _ _ _ _ _ (Option.some.inj e)
      · rw [Array.getElem?_setIfInBounds] at e
        simp [hs] at e
    · rw [Array.getElem?_setIfInBounds_ne hg] at e
      exact o.ng i k l c p fs cl e u
theorem GOk.push {Y a : Array GenState} {c : Code} (o : GOk Y a) : GOk Y (a.push (.fresh c)) := by
  refine ⟨by rw [Array.size_push]; exact Nat.le_succ_of_le o.size, fun i y e hy => ?_, fun i k l c' p fs cl e u => ?_⟩
  · have hi : i < Y.size := (Array.getElem?_eq_some_iff.mp e).1
    have hs := o.size
    rw [Array.getElem?_push, if_neg (by omega)]
    exact o.st i y e hy
  · rw [Array.getElem?_push] at e
    split at e
    · cases e
    · exact o.ng i k l c' p fs cl e u
theorem split_app : ∀ {a b : List Frame}, splitAtGen a = none → splitAtGen b = none → splitAtGen (a ++ b) = none
  | [], _, _, h => h
  | .gen .. :: _, _, h, _ => by cases h
  | .ret .. :: r, b, h, h2 => by
    simp only [splitAtGen, Option.map_eq_none_iff, List.cons_append] at h ⊢
    exact split_app h h2
theorem split_mem : ∀ {l pre rest : List Frame} {g : Nat} {k : GenResult → Sem PySem.Fin} {c : Code} {p : Pos}, splitAtGen l = some (pre, (g, k, c, p), rest) → splitAtGen pre = none ∧ (∃ lv, Frame.gen g k lv c p ∈ l) ∧ ∀ f ∈ rest, f ∈ l
  | [], _, _, _, _, _, _, h => by cases h
  | .gen g k lv c p :: r, _, _, _, _, _, _, h => by
    simp only [splitAtGen, Option.some.injEq, Prod.mk.injEq] at h
    obtain ⟨rfl, ⟨rfl, rfl, rfl, rfl⟩, rfl⟩ := h
    exact ⟨rfl, ⟨lv, List.mem_cons_self⟩, fun f hf => List.mem_cons_of_mem _ hf⟩
  | .ret k0 h0 g0 l0 c0 p0 kp :: r, pre, rest, g, k, c, p, h => by
    simp only [splitAtGen, Option.map_eq_some_iff] at h
    obtain ⟨⟨pre', x, rest'⟩, e, z⟩ := h
    simp only [Prod.mk.injEq] at z
    obtain ⟨rfl, rfl, rfl⟩ := z
    obtain ⟨h1, ⟨lv, h2⟩, h3⟩ := split_mem e
    refine ⟨?_, ⟨lv, List.mem_cons_of_mem _ h2⟩, fun f hf => List.mem_cons_of_mem _ (h3 f hf)⟩
    simp only [splitAtGen, h1, Option.map_none]
theorem none_fok {Y : Array GenState} {fs : List Frame} (h : splitAtGen fs = none) : FOk Y fs := fun g k l c p hm => by
  exfalso
  revert h
  induction fs with
  | nil => cases hm
  | cons f r ih =>
    intro h
    cases f with
    | gen => cases h
    | ret =>
      simp only [splitAtGen, Option.map_eq_none_iff] at h
      rcases List.mem_cons.mp hm with z | z
      · cases z
      · exact ih z h
theorem no_unsup {M : Model} {Γ : PySem.Ctx} {p : Pos} {t : Sem PySem.Fin} {fs : List Frame} {s s' : Shared} {e : End} (h : Runs M Γ p t fs s e s') : ∀ m, t ≠ .unsupported m := by
  induction h <;> intro m z <;> first | cases z | skip
  all_goals (rename_i z; exact z _ rfl)
theorem ns {x : GenState} (y : GenState) (hy : sus y = true) (hx : ∀ k l c p fs cl, x ≠ .suspended k l c p fs cl) : stk y ≠ x := fun z => by
  cases y with
  | suspended => exact hx _ _ _ _ _ _ z.symm
  | _ => cases hy
theorem stk_seen (y : GenState) : (stk y).seen = y.seen := by cases y <;> rfl
theorem GOk.look {Y a : Array GenState} {g : Nat} {x : GenState} (o : GOk Y a) (h : a[g]? = some x) : (put Y a)[g]? = some (sel Y g x) ∧ (sel Y g x).seen = x.seen := by
  refine ⟨by rw [put_get, h]; rfl, ?_⟩
  unfold sel
  split
  · rename_i y e
    cases hy : sus y with
    | false => rfl
    | true =>
      rw [o.st g y e hy] at h
      cases h
      exact (stk_seen y).symm
  · rfl
/-- who can be woken was not asleep before -/
theorem GOk.up {Y a : Array GenState} {g : Nat} {x : GenState} (o : GOk Y a) (h : a[g]? = some x) (hx : ∀ y, sus y = true → stk y ≠ x) : Up Y g := fun y e => by
  cases hy : sus y with
  | false => rfl
  | true =>
    rw [o.st g y e hy] at h
    exact absurd (Option.some.inj h) (hx y hy)
theorem GOk.upSel {Y a : Array GenState} {g : Nat} {x : GenState} (h : a[g]? = some x) (u : Up Y g) : (put Y a)[g]? = some x := by
  rw [put_get, h]
  exact congrArg some (sel_up u)
theorem pt_set {Y : Array GenState} {s : Shared} {g : Nat} {x : GenState} (u : Up Y g) : pt Y (s.setGen g x) = (pt Y s).setGen g x := by
  unfold pt Shared.setGen
  rw [put_set u]
theorem susSet {e : End} (h : EOk e) : ∀ k l c p fs cl, e.genState = .suspended k l c p fs cl → splitAtGen fs = none := fun k l c p fs cl z => by
  cases e with
  | ret r => cases z
  | susp => cases z; exact h
theorem runs_put {M : Model} {Γ : PySem.Ctx} {p : Pos} {t : Sem PySem.Fin} {fs : List Frame} {s s' : Shared} {e : End} (h : Runs M Γ p t fs s e s') :
    ∀ Y, GOk Y s.gens → FOk Y fs → Runs M Γ p t fs (pt Y s) e (pt Y s') ∧ GOk Y s'.gens ∧ EOk e := by
  induction h with
  | done => exact fun Y o f => ⟨.done, o, trivial⟩
  | raise => exact fun Y o f => ⟨.raise, o, trivial⟩
  | again hq _ ih => exact fun Y o f => let ⟨a, b, c⟩ := ih Y o f; ⟨.again hq a, b, c⟩
  | rule _ ih => exact fun Y o f => let ⟨a, b, c⟩ := ih Y o f; ⟨.rule a, b, c⟩
  | «at» _ ih => exact fun Y o f => let ⟨a, b, c⟩ := ih Y o f; ⟨.at a, b, c⟩
  | load ho _ ih => exact fun Y o f => let ⟨a, b, c⟩ := ih Y o f; ⟨.load ho a, b, c⟩
  | update ho _ ih => exact fun Y o f => let ⟨a, b, c⟩ := ih Y o f; ⟨.update ho a, b, c⟩
  | loadIfAlive _ ih => exact fun Y o f => let ⟨a, b, c⟩ := ih Y o f; ⟨.loadIfAlive a, b, c⟩
  | point _ ih => exact fun Y o f => let ⟨a, b, c⟩ := ih Y o f; ⟨.point a, b, c⟩
  | alloc _ ih => exact fun Y o f => let ⟨a, b, c⟩ := ih Y o f; ⟨.alloc a, b, c⟩
  | fresh _ ih => exact fun Y o f => let ⟨a, b, c⟩ := ih Y o f; ⟨.fresh a, b, c⟩
  | ask _ ih => exact fun Y o f => let ⟨a, b, c⟩ := ih Y o f; ⟨.ask a, b, c⟩
  | choose hn _ ih => exact fun Y o f => let ⟨a, b, c⟩ := ih Y o f; ⟨.choose hn a, b, c⟩
  | os _ ih => exact fun Y o f => let ⟨a, b, c⟩ := ih Y o f; ⟨.os a, b, c⟩
  | handled _ ih => exact fun Y o f => let ⟨a, b, c⟩ := ih Y o f; ⟨.handled a, b, c⟩
  | genState hg _ ih =>
    intro Y o f
    obtain ⟨a, b, c⟩ := ih Y o f
    obtain ⟨h1, h2⟩ := o.look hg
    exact ⟨.genState (st := _) h1 (by rw [h2]; exact a), b, c⟩
  | stack _ ih => exact fun Y o f => let ⟨a, b, c⟩ := ih Y o f; ⟨.stack a, b, c⟩
  | thread _ ih => exact fun Y o f => let ⟨a, b, c⟩ := ih Y o f; ⟨.thread a, b, c⟩
  | @newGen Γ p k s e s' c _ ih =>
    intro Y o f
    obtain ⟨a, b, d⟩ := ih Y o.push f
    refine ⟨.newGen ?_, b, d⟩
    have e1 : (pt Y s).gens.size = s.gens.size := put_size
    have e2 : pt Y { s with gens := s.gens.push (.fresh c) } = { pt Y s with gens := (pt Y s).gens.push (.fresh c) } := by
      unfold pt
      rw [put_push o.size]
    rw [e1, ← e2]
    exact a
  | call _ _ ih1 ih2 =>
    intro Y o f
    obtain ⟨a, b, _⟩ := ih1 Y o fun _ _ _ _ _ hm => by cases hm
    obtain ⟨a2, b2, c2⟩ := ih2 Y b f
    exact ⟨.call a a2, b2, c2⟩
  | callSusp _ ih =>
    intro Y o f
    obtain ⟨a, b, c⟩ := ih Y o fun _ _ _ _ _ hm => by cases hm
    exact ⟨.callSusp a, b, split_app c rfl⟩
  | yield => exact fun Y o f => ⟨.yield, o, rfl⟩
  | resumeFresh hg _ hq _ ih1 ih2 =>
    intro Y o f
    have u := o.up hg fun y hy => ns y hy (by intro _ _ _ _ _ _ z; cases z)
    obtain ⟨a, b, c⟩ := ih1 Y (o.set u fun _ _ _ _ _ _ z => by cases z) fun _ _ _ _ _ hm => by cases hm
    obtain ⟨a2, b2, c2⟩ := ih2 Y (b.set u (susSet c)) f
    rw [pt_set u] at a a2
    exact ⟨.resumeFresh (GOk.upSel hg u) a hq a2, b2, c2⟩
  | @resumeSuspended Γ p g r l k s k₀ l₀ c₀ p₀ fs cl e₁ s₁ e s' hg hr hq _ ih1 ih2 =>
    intro Y o f
    have u := o.up hg fun y hy z => by
      cases y with
      | suspended k' l' c' p' fs' cl' =>
        simp only [stk, GenState.suspended.injEq] at z
        obtain ⟨z, _⟩ := z
        subst z
        exact no_unsup hr _ rfl
      | _ => cases hy
    have hf := o.ng g _ _ _ _ _ _ hg u
    obtain ⟨a, b, c⟩ := ih1 Y (o.set u fun _ _ _ _ _ _ z => by cases z) (none_fok hf)
    obtain ⟨a2, b2, c2⟩ := ih2 Y (b.set u (susSet c)) f
    rw [pt_set u] at a a2
    exact ⟨.resumeSuspended (GOk.upSel hg u) a hq a2, b2, c2⟩
  | resumeJustStarted hg hv _ ih =>
    intro Y o f
    have u := o.up hg fun y hy => ns y hy (by intro _ _ _ _ _ _ z; cases z)
    obtain ⟨a, b, c⟩ := ih Y o f
    exact ⟨.resumeJustStarted (GOk.upSel hg u) hv a, b, c⟩
  | resumeThrowFresh hg _ ih =>
    intro Y o f
    have u := o.up hg fun y hy => ns y hy (by intro _ _ _ _ _ _ z; cases z)
    obtain ⟨a, b, c⟩ := ih Y (o.set u fun _ _ _ _ _ _ z => by cases z) f
    rw [pt_set u] at a
    exact ⟨.resumeThrowFresh (GOk.upSel hg u) a, b, c⟩
  | resumeRunning hg _ ih =>
    intro Y o f
    have u := o.up hg fun y hy => ns y hy (by intro _ _ _ _ _ _ z; cases z)
    obtain ⟨a, b, c⟩ := ih Y o f
    exact ⟨.resumeRunning (GOk.upSel hg u) a, b, c⟩
  | resumeFinished hg _ ih =>
    intro Y o f
    have u := o.up hg fun y hy => ns y hy (by intro _ _ _ _ _ _ z; cases z)
    obtain ⟨a, b, c⟩ := ih Y o f
    exact ⟨.resumeFinished (GOk.upSel hg u) a, b, c⟩
  | segRet _ _ ih1 ih2 =>
    intro Y o f
    obtain ⟨a, b, _⟩ := ih1 Y o fun _ _ _ _ _ hm => by cases hm
    obtain ⟨a2, b2, c2⟩ := ih2 Y b fun g k l c p hm => f g k l c p (List.mem_cons_of_mem _ hm)
    exact ⟨.segRet a a2, b2, c2⟩
  | segGen _ _ ih1 ih2 =>
    intro Y o f
    have u := f _ _ _ _ _ List.mem_cons_self
    obtain ⟨a, b, _⟩ := ih1 Y o fun _ _ _ _ _ hm => by cases hm
    obtain ⟨a2, b2, c2⟩ := ih2 Y (b.set u fun _ _ _ _ _ _ z => by cases z) fun g k l c p hm => f g k l c p (List.mem_cons_of_mem _ hm)
    rw [pt_set u] at a2
    exact ⟨.segGen a a2, b2, c2⟩
  | segSuspOut hs _ ih =>
    intro Y o f
    obtain ⟨a, b, c⟩ := ih Y o fun _ _ _ _ _ hm => by cases hm
    exact ⟨.segSuspOut hs a, b, split_app c hs⟩
  | segSuspGen hs _ hq _ ih1 ih2 =>
    intro Y o f
    obtain ⟨h1, ⟨lv, h2⟩, h3⟩ := split_mem hs
    have u := f _ _ _ _ _ h2
    obtain ⟨a, b, c⟩ := ih1 Y o fun _ _ _ _ _ hm => by cases hm
    obtain ⟨a2, b2, c2⟩ := ih2 Y (b.set u (susSet (e := .susp _ _ _ _ _ _ _) (split_app c h1))) fun g k l c p hm => f g k l c p (h3 _ hm)
    rw [pt_set u] at a2
    exact ⟨.segSuspGen hs a hq a2, b2, c2⟩
theorem wakes_put {M : Model} {Γ : PySem.Ctx} {p : Pos} {g : Nat} {r : Resume} {s s' : Shared} {res : GenResult} {Y : Array GenState} (o : GOk Y s.gens) (hw : Wakes M Γ p g r s res s') : Wakes M Γ p g r (pt Y s) res (pt Y s') ∧ GOk Y s'.gens := by
  unfold Wakes at hw ⊢
  cases hg : s.gens[g]? with
  | none => rw [hg] at hw; exact hw.elim
  | some x =>
    rw [hg] at hw
    cases x with
    | fresh c =>
      have u := o.up hg fun y hy => ns y hy (by intro _ _ _ _ _ _ z; cases z)
      rw [show (pt Y s).gens[g]? = some (.fresh c) from GOk.upSel hg u]
      cases r with
      | send v =>
        by_cases hv : v = .none
        · subst hv
          obtain ⟨e₁, s₁, hr, hq, hres, rfl⟩ := hw
          obtain ⟨a, b, c⟩ := runs_put hr Y (o.set u fun _ _ _ _ _ _ z => by cases z) fun _ _ _ _ _ hm => by cases hm
          rw [pt_set u] at a
          exact ⟨⟨e₁, _, a, hq, hres, pt_set u⟩, b.set u (susSet c)⟩
        · have hw : res = .justStarted ∧ s' = s := by
            cases v <;> first | exact absurd rfl hv | exact hw
          obtain ⟨h1, rfl⟩ := hw
          refine ⟨?_, o⟩
          cases v <;> first | exact absurd rfl hv | exact ⟨h1, rfl⟩
      | throw x =>
        obtain ⟨h1, rfl⟩ := hw
        exact ⟨⟨h1, pt_set u⟩, o.set u fun _ _ _ _ _ _ z => by cases z⟩
    | suspended k₀ l₀ c₀ p₀ fs cl =>
      obtain ⟨e₁, s₁, hr, hq, hres, rfl⟩ := hw
      have u := o.up hg fun y hy z => by
        cases y with
        | suspended k' l' c' p' fs' cl' =>
          simp only [stk, GenState.suspended.injEq] at z
          obtain ⟨z, _⟩ := z
          subst z
          exact no_unsup hr _ rfl
        | _ => cases hy
      rw [show (pt Y s).gens[g]? = some (.suspended k₀ l₀ c₀ p₀ fs cl) from GOk.upSel hg u]
      obtain ⟨a, b, c⟩ := runs_put hr Y (o.set u fun _ _ _ _ _ _ z => by cases z) (none_fok (o.ng g _ _ _ _ _ _ hg u))
      rw [pt_set u] at a
      exact ⟨⟨e₁, _, a, hq, hres, pt_set u⟩, b.set u (susSet c)⟩
    | running =>
      have u := o.up hg fun y hy => ns y hy (by intro _ _ _ _ _ _ z; cases z)
      rw [show (pt Y s).gens[g]? = some .running from GOk.upSel hg u]
      obtain ⟨h1, rfl⟩ := hw
      exact ⟨⟨h1, rfl⟩, o⟩
    | finished =>
      have u := o.up hg fun y hy => ns y hy (by intro _ _ _ _ _ _ z; cases z)
      rw [show (pt Y s).gens[g]? = some .finished from GOk.upSel hg u]
      obtain ⟨h1, rfl⟩ := hw
      exact ⟨⟨h1, rfl⟩, o⟩
theorem wp_put {α : Type} (M : Model) (Γ : PySem.Ctx) (t : Sem α) : ∀ (Y : Array GenState) (Q : α → Pos → Shared → Prop) (E : Value → Pos → Shared → Prop) (p : Pos) (s : Shared), GOk Y s.gens → wp M Γ t Q E p s →
    wp M Γ t (fun a p' s' => ∃ s2, s' = pt Y s2 ∧ GOk Y s2.gens ∧ Q a p' s2) (fun e p' s' => ∃ s2, s' = pt Y s2 ∧ GOk Y s2.gens ∧ E e p' s2) p (pt Y s) := by
  induction t with
  | pure a => exact fun Y Q E p s o h => ⟨s, rfl, o, h⟩
  | raise e => exact fun Y Q E p s o h => ⟨s, rfl, o, h⟩
  | unsupported _ => exact fun Y Q E p s _ h => h
  | finish _ => exact fun Y Q E p s _ h => h
  | rule _ k ih => exact fun Y Q E p s o h => ih () Y Q E p s o h
  | «at» p' k ih => exact fun Y Q E p s o h => ih () Y Q E p' s o h
  | load a _ k ih => exact fun Y Q E p s o ⟨ob, ho, h⟩ => ⟨ob, ho, ih ob Y Q E p s o h⟩
  | update a _ f k ih => exact fun Y Q E p s o h => ⟨h.1, ih () Y Q E p { s with heap := s.heap.update a f } o h.2⟩
  | loadIfAlive a k ih => exact fun Y Q E p s o h => ih _ Y Q E p s o h
  | point _ k ih => exact fun Y Q E p s o h => ih () Y Q E p s o h
  | register _ _ => exact fun Y Q E p s _ h => h
  | alloc ob k ih => exact fun Y Q E p s o h => ih _ Y Q E p { s with heap := s.heap.push ob } o h
  | fresh k ih => exact fun Y Q E p s o h => ih _ Y Q E p { s with toks := s.toks + 1 } o h
  | ask k ih => exact fun Y Q E p s o h => ih _ Y Q E p s o h
  | choose src m k ih => exact fun Y Q E p s o h => ⟨h.1, ih _ Y Q E p { s with drawn := s.drawn.bump src } o h.2⟩
  | os q _ k ih => exact fun Y Q E p s o h => ih _ Y Q E p { s with os := (Os.step s.os q).1 } o h
  | call c hd _ _ k ih =>
    rintro Y Q E p s o ⟨r, s', hr, h⟩
    obtain ⟨a, b, _⟩ := runs_put hr Y o fun _ _ _ _ _ hm => by cases hm
    exact ⟨r, pt Y s', a, ih r Y Q E p s' b h⟩
  | handled own k ih => exact fun Y Q E p s o h => ih _ Y Q E p s o h
  | genState g k ih =>
    rintro Y Q E p s o ⟨st, hs, h⟩
    obtain ⟨h1, h2⟩ := o.look hs
    exact ⟨_, h1, by rw [h2]; exact ih _ Y Q E p s o h⟩
  | newGen c k ih =>
    intro Y Q E p s o h
    have e1 : (pt Y s).gens.size = s.gens.size := put_size
    have e2 : pt Y { s with gens := s.gens.push (.fresh c) } = { pt Y s with gens := (pt Y s).gens.push (.fresh c) } := by
      unfold pt
      rw [put_push o.size]
    show wp M Γ (k (pt Y s).gens.size) _ _ p { pt Y s with gens := (pt Y s).gens.push (.fresh c) }
    rw [e1, ← e2]
    exact ih _ Y Q E p { s with gens := s.gens.push (.fresh c) } o.push h
  | resume g r _ k ih =>
    rintro Y Q E p s o ⟨res, s', hw, h⟩
    have main := wakes_put o hw
    exact ⟨res, pt Y s', main.1, ih res Y Q E p s' main.2 h⟩
  | yield _ _ _ _ => exact fun Y Q E p s _ h => h
  | stack k ih => exact fun Y Q E p s o h => ih _ Y Q E p s o h
  | fork _ _ => exact fun Y Q E p s _ h => h
  | thread k ih => exact fun Y Q E p s o h => ih _ Y Q E p s o h
  | await _ _ _ _ _ => exact fun Y Q E p s _ h => h
/-! a piece that holds with every sleeper shut -/
def shut (s : Shared) : Shared := { s with gens := s.gens.map stk }
theorem shut_ok (s : Shared) : GOk s.gens (shut s).gens := by
  refine ⟨by unfold shut; simp, fun i y e _ => ?_, fun i k l c p fs cl e u => ?_⟩
  · unfold shut
    rw [Array.getElem?_map, e]
    rfl
  · unfold shut at e
    rw [Array.getElem?_map, Option.map_eq_some_iff] at e
    obtain ⟨y, e1, e2⟩ := e
    have := u y e1
    cases y with
    | suspended => cases this
    | _ => cases e2
theorem pt_shut (s : Shared) : pt s.gens (shut s) = s := by
  have : put s.gens (s.gens.map stk) = s.gens := by
    refine Array.ext_getElem? fun i => ?_
    rw [put_get, Array.getElem?_map]
    cases e : s.gens[i]? with
    | none => rfl
    | some y =>
      show some (sel s.gens i (stk y)) = some y
      unfold sel
      rw [e]
      cases y <;> rfl
  unfold pt shut
  rw [this]
/-- who sleeps in s sleeps in s' as in s -/
def Slp (s s' : Shared) : Prop := ∀ (g : Nat) y, s.gens[g]? = some y → sus y = true → s'.gens[g]? = some y
theorem GOk.slp {s s2 : Shared} (o : GOk s.gens s2.gens) : Slp s (pt s.gens s2) := fun g y e h => by
  show (put s.gens s2.gens)[g]? = _
  rw [put_get, o.st g y e h]
  show some (sel s.gens g (stk y)) = some y
  unfold sel
  rw [e]
  show some (bif sus y then y else _) = _
  rw [h]
  rfl
theorem wpAny_slp {α : Type} {M : Model} {A : Around} {t : Sem α} {Q : α → Shared → Prop} {E : Value → Shared → Prop} {s : Shared} (h : wpAny M A t Q E (shut s)) :
    wpAny M A t (fun a s' => ∃ s2, s' = pt s.gens s2 ∧ Slp s s' ∧ Q a s2) (fun e s' => ∃ s2, s' = pt s.gens s2 ∧ Slp s s' ∧ E e s2) s := fun Γ p hΓ => by
  have z := wp_put M Γ t s.gens _ _ p (shut s) (shut_ok s) (h Γ p hΓ)
  rw [pt_shut] at z
  refine Sem.wp_mono M Γ t ?_ ?_ p s z
  · rintro a p' s' ⟨s2, rfl, o, q⟩
    exact ⟨s2, rfl, o.slp, q⟩
  · rintro e p' s' ⟨s2, rfl, o, q⟩
    exact ⟨s2, rfl, o.slp, q⟩
end Gk
/-! a generator walked by a for: its body, segment by segment. Each waking starts from the consumer's heap anew -/
namespace Gg
open PySem PySem.Spec PyProof.Rows GenW L2
/-- the generator's data: Hg: what stood at its making and what it leans on; n, It: how many items, and which -/
structure GD where
  P : Program
  w : World
  K : PySem.W.Frag
  mg : Str → Option Value
  base : Heap
  N : List Str
  qual : Str
  scope : Scope
  f : Addr
  cd : Value
  A : Around
  outer : List Env
  L : Addr
  Hg : Hp
  n : Nat
  It : Nat → V → Hp → Prop
abbrev GD.env (G : GD) : Env := envOfC G.qual G.scope G.L G.f G.cd
structure GOk (G : GD) : Prop where
  hd : G.A.handled = none
  kind : G.scope.kind = .function
  nk : ∀ x, G.scope.names.lookup x ≠ some .cell ∧ G.scope.names.lookup x ≠ some .free
  nc : cellsFrom (G.L + 1) G.scope.names [] = []
  bnd : ∀ b o, G.Hg b = some o → b < G.L
  frL : ∀ b ∈ frs G.outer, b < G.L
  bL : G.base.objs.size ≤ G.L
/-- what is wanted behind a statement: the items that are out, the heap of the waking, the slots, the heap -/
structure GE where
  nx : Nat → Hp → L2.St → Hp → Prop
  rt : Nat → Hp → VK := fun _ _ _ _ => False
  bk : Nat → Hp → L2.St → Hp → Prop := fun _ _ _ _ => False
  ct : Nat → Hp → L2.St → Hp → Prop := fun _ _ _ _ => False
def GE.at (D : GE) (j : Nat) (H0 : Hp) : Ends := { nx := D.nx j H0, rt := D.rt j H0, bk := D.bk j H0, ct := D.ct j H0 }
end Gg
namespace Gg
open PySem PySem.Spec PyProof.Rows GenW L2
open Gk (sus Slp pt shut wpAny_slp)
open Sem (wp)
/-! ### the consumer's heap, cut to what a generator leans on: tuples, instances, their own dicts -/
def cl (H : Hp) : Hp := fun b => match H b with
  | some (.tup xs) => some (.tup xs)
  | some (.ins C dx fs) => some (.ins C dx fs)
  | some (.own x) => match H x with
    | some (.ins _ dx _) => if dx = b then some (.own x) else none
    | _ => none
  | _ => none
/-! ### waking -/
/-! ### back at the consumer -/
end Gg
namespace Gg
open PySem PySem.Spec PyProof.Rows GenW L2
open Gk (sus Slp pt shut wpAny_slp)
/-! ### a generator def is called: the generator, not yet begun -/
end Gg
namespace Gg
open PySem PySem.Spec PyProof.Rows GenW L2
open Gk (sus Slp pt shut wpAny_slp)
/-! ### an expression whose value is such a generator -/
/-! ### the consumer's loop -/
end Gg
namespace Gg
open PySem PySem.Spec PyProof.Rows GenW L2
open Gk (sus Slp pt shut wpAny_slp)
/-! ### [elt for target in f(..)], f a generator def -/
end Gg
namespace L2
open PySem PySem.Spec PyProof.Rows Gg
/-! ## walks: the rows of a web, the questions that are answered right -/
def rowP (rows : List (List Int)) (p : Int) : List Int := (rows[p.toNat]?).getD []
def qP (rows : List (List Int)) (p : Int) : Int := ((rowP rows p)[0]?).getD 0
def tRow (row : List Int) (a : Int) : Int := if a = 1 then (row[1]?).getD 0 else (row[2]?).getD 0
theorem row3 {rows : List (List Int)} {e o p : Int} (G : GoodW rows e o) (p0 : 0 ≤ p) (p1 : p < rows.length) : ∃ q t1 t2 r, rowP rows p = q :: t1 :: t2 :: r ∧ rows[p.toNat]? = some (rowP rows p) ∧ 0 ≤ q ∧ q < 48 ∧ (-e ≤ t1 ∧ t1 < rows.length ∧ ¬ (0 ≤ t1 ∧ t1 ≤ p)) ∧ (-e ≤ t2 ∧ t2 < rows.length ∧ ¬ (0 ≤ t2 ∧ t2 ≤ p)) := by
  have hl : p.toNat < rows.length := by omega
  have hr : rows[p.toNat]? = some rows[p.toNat] := List.getElem?_eq_getElem hl
  have e1 : rowP rows p = rows[p.toNat] := by unfold rowP; rw [hr] <;> rfl
  obtain ⟨q, r, hq, hlen, q0, q1, ht⟩ := G.row _ _ hr
  have ep : ((p.toNat : Nat) : Int) = p := by omega
  rw [e1, hq]
  rcases r with _ | ⟨t1, _ | ⟨t2, r⟩⟩
  · simp at hlen
  · simp at hlen
  · have h1 := ht t1 (by simp)
    have h2 := ht t2 (by simp)
    rw [ep] at h1 h2
    exact ⟨q, t1, t2, r, rfl, by rw [hr, hq], q0, q1, h1, h2⟩
/-! ### promises -/
theorem RowsAt.snoc {H : Hp} {as : List Addr} {rows : List (List Int)} {x : Addr} {row : List Int} (h : RowsAt H as rows) (hx : H x = some (.tup (row.map V.int))) : RowsAt H (as ++ [x]) (rows ++ [row]) := by
  obtain ⟨h1, h2⟩ := h
  refine ⟨by rw [List.length_append, List.length_append, h1] <;> rfl, fun i b r e1 e2 => ?_⟩
  by_cases hi : i < as.length
  · rw [List.getElem?_append_left hi] at e1
    rw [List.getElem?_append_left (by rw [← h1]; exact hi)] at e2
    exact h2 i b r e1 e2
  · have hi2 : i = as.length := by
      have := (List.getElem?_eq_some_iff.mp e1).1
      rw [List.length_append, List.length_singleton] at this
      omega
    subst hi2
    rw [List.getElem?_append_right (Nat.le_refl _), Nat.sub_self] at e1
    rw [h1, List.getElem?_append_right (Nat.le_refl _), Nat.sub_self] at e2
    cases e1
    cases e2
    exact hx
end L2
namespace L2
open PySem PySem.Spec PyProof.Rows Gg
/-! ## lists of rows -/
def LsAt (H : Hp) (p : Addr) (rows : List (List Int)) : Prop := ∃ as, H p = some (.lst (as.map V.ref)) ∧ RowsAt H as rows
def TsAt (H : Hp) (p : Addr) (rows : List (List Int)) : Prop := ∃ as, H p = some (.tup (as.map V.ref)) ∧ RowsAt H as rows
theorem LsAt.same {H H' : Hp} {p : Addr} {rows : List (List Int)} (e : Same H H') (h : LsAt H p rows) : LsAt H' p rows := let ⟨as, a, b⟩ := h; ⟨as, e _ _ a, b.same e⟩
theorem TsAt.same {H H' : Hp} {p : Addr} {rows : List (List Int)} (e : Same H H') (h : TsAt H p rows) : TsAt H' p rows := let ⟨as, a, b⟩ := h; ⟨as, e _ _ a, b.same e⟩
theorem LsAt.gd {H H' : Hp} {p : Addr} {rows : List (List Int)} (e : Gd H H') (h : LsAt H p rows) : LsAt H' p rows := let ⟨as, a, b⟩ := h; ⟨as, e.1 _ _ (np_refs _) a, b.gd e⟩
theorem RowsAt.cons {H : Hp} {as : List Addr} {rows : List (List Int)} {x : Addr} {row : List Int} (h : RowsAt H as rows) (hx : H x = some (.tup (row.map V.int))) : RowsAt H (x :: as) (row :: rows) :=
  ⟨by rw [List.length_cons, List.length_cons, h.1], fun i a r e1 e2 => by
    cases i with
    | zero => cases e1; cases e2; exact hx
    | succ i => exact h.2 i a r e1 e2⟩
theorem RowsAt.nil {H : Hp} : RowsAt H [] [] := ⟨rfl, fun i a r e1 _ => by simp at e1⟩
/-! ## more of walks -/
/-! ## the calls -/
end L2
namespace L2
open PySem PySem.Spec PyProof.Rows Gg
/-! ## walks of two pupils -/
end L2
namespace L2
open PySem PySem.Spec PyProof.Rows Gg
/-! ## what is raised meets every handler's wish, whatever the slots hold -/
/-! ## the law's own walk; marks -/
def mkP (ms : List Int) (z : Int) : Int := (ms[z.toNat]?).getD 0
theorem neD_int {K : PySem.W.Frag} {H : Hp} {i j : Int} {Q : VK} (q : Q (.bl (!decide (i = j))) H) : rNeD K (.int i) (.int j) H Q :=
  ⟨_, _, .int _, .int _, rfl, rfl, by
    have : PyData.eqv (.int i) (.int j) = decide (i = j) := by
      unfold PyData.eqv
      by_cases h : i = j <;> simp [h]
    rw [this]
    exact q⟩
end L2
namespace L2
open PySem PySem.Spec PyProof.Rows Gg
/-! ## what some pupil meets -/
/-! ## all pupils over some questions -/
/-! ## lists of lists of numbers -/
def IntsAt (H : Hp) (as : List Addr) (ls : List (List Int)) : Prop := as.length = ls.length ∧ ∀ (i : Nat) a l, as[i]? = some a → ls[i]? = some l → H a = some (.lst (l.map V.int))
theorem IntsAt.same {H H' : Hp} {as : List Addr} {ls : List (List Int)} (e : Same H H') (h : IntsAt H as ls) : IntsAt H' as ls := ⟨h.1, fun i a l h1 h2 => e _ _ (h.2 i a l h1 h2)⟩
theorem IntsAt.gd {H H' : Hp} {as : List Addr} {ls : List (List Int)} (e : Gd H H') (h : IntsAt H as ls) : IntsAt H' as ls := ⟨h.1, fun i a l h1 h2 => e.1 _ _ (np_ints _) (h.2 i a l h1 h2)⟩
theorem IntsAt.nil {H : Hp} : IntsAt H [] [] := ⟨rfl, fun i a r e1 _ => by simp at e1⟩
theorem IntsAt.get {H : Hp} {as : List Addr} {ls : List (List Int)} {i : Nat} {a : Addr} (h : IntsAt H as ls) (ha : as[i]? = some a) : ∃ l, ls[i]? = some l ∧ H a = some (.lst (l.map V.int)) := by
  have hi := (List.getElem?_eq_some_iff.mp ha).1
  rw [h.1] at hi
  exact ⟨_, List.getElem?_eq_getElem hi, h.2 i a _ ha (List.getElem?_eq_getElem hi)⟩
end L2
namespace L2
open PySem PySem.Spec PyProof.Rows
/-! ## what is raised meets the wish, whatever the slots hold -/
/-! ## several clauses 'except x as n' -/
end L2
namespace L2
open PySem PySem.Spec PyProof.Rows
/-! ## operators of an own object and a whole number -/
end L2
namespace PySem
open PySem PySem.Spec PyProof.Rows L2
end PySem
namespace PySem.W
open PySem PySem.Spec PyProof.Rows L2
end PySem.W
namespace L2
open PySem PySem.Spec PyProof.Rows
end L2
namespace PySem.W
open PySem PySem.Spec PyProof.Rows L2
end PySem.W
namespace L2
open PySem PySem.Spec PyProof.Rows
end L2
namespace L2
open PySem PySem.Spec PyProof.Rows
/-! ratios -/
def RatAt (C : Addr) (H : Hp) (x : Addr) (t b : Int) : Prop := ∃ dx, H x = some (.ins C dx [("top", .int t), ("bottom", .int b)])
def Nrm (t b : Int) : Prop := 0 < b ∧ Nat.gcd t.natAbs b.natAbs = 1
/-- t / b is p / q -/
def IsR (t b p q : Int) : Prop := Nrm t b ∧ t * q = p * b
def RV (C : Addr) (H : Hp) (y : V) (p q : Int) : Prop := (y = .int p ∧ q = 1) ∨ ∃ b, y = .ref b ∧ RatAt C H b p q
theorem RatAt.same {C : Addr} {H H' : Hp} {x : Addr} {t b : Int} (s : Same H H') (h : RatAt C H x t b) : RatAt C H' x t b := let ⟨dx, e⟩ := h; ⟨dx, s _ _ e⟩
theorem RV.same {C : Addr} {H H' : Hp} {y : V} {p q : Int} (s : Same H H') (h : RV C H y p q) : RV C H' y p q := h.elim (fun h => .inl h) fun ⟨b, e, h⟩ => .inr ⟨b, e, h.same s⟩
end L2
namespace L2
open PySem PySem.Spec PyProof.Rows
def Sz (k : Nat) (i : Int) : Prop := i.natAbs < 2 ^ k
theorem Sz.mono {k l : Nat} {i : Int} (h : Sz k i) (e : k ≤ l) : Sz l i := Nat.lt_of_lt_of_le h (Nat.pow_le_pow_right (by decide) e)
end L2
namespace L2
open PySem PySem.Spec PyProof.Rows
end L2
namespace L2
open PySem PySem.Spec PyProof.Rows
end L2
namespace L2
open PySem PySem.Spec PyProof.Rows
end L2
namespace L2
open PySem PySem.Spec PyProof.Rows
end L2
namespace L2
open PySem PySem.Spec PyProof.Rows
/-! ## an error is made without an argument and raised: no dict of its own -/
/-- X.__init__(self): the base's __init__ alone -/
def spErr0 (C : Addr) : Sp := fun vs H Q _ => ∃ a : Addr, vs = [.ref a] ∧ H a = some (exo a C none) ∧ Q .non H
def tMk0 (C : Addr) (sp : Sp) : St → Hp → XK → Prop := fun σ H Q => ∀ a, H a = none → sp [.ref a] (upd H a (exo a C none)) (fun v H2 => v = .non ∧ H2 a = some (exo a C none) ∧ Q (.ref C) none (del H2 a)) (fun _ _ _ => False)
theorem err_make0 {C : Addr} {H : Hp} {W : Value → Option Addr → Hp → Prop} {E : XK} (k : W (.ref C) none H) : ∀ a, H a = none → spErr0 C [.ref a] (upd H a (exo a C none)) (fun v H2 => v = .non ∧ H2 a = some (exo a C none) ∧ W (.ref C) none (del H2 a)) E := fun a na => by
  refine ⟨a, rfl, upd_same, rfl, upd_same, ?_⟩
  have e : del (upd H a (exo a C none)) a = H := by
    funext b
    by_cases hb : b = a
    · subst hb
      rw [del_same, na]
    · rw [del_ne hb, upd_ne hb]
  rw [e]
  exact k
section
variable {X : Cx}
theorem mk_endN {pins : List (Addr × Obj)} {σ : St} {H1 H2 : Hp} {hp hp2 h2 : Heap} {g1 g2 : Array GenState} {d1 d2 : Drawn} {t1 t2 : Nat} {os1 os2 : OsState} {a C : Addr} (I1 : Inv X pins σ H1 ⟨hp, g1, d1, t1, os1⟩)
    (ha : hp.objs.size ≤ a) (k : ∀ b o, hp.get? b = some o → hp2.get? b = some o) (un : Un (frs X.stack) [] (upd H1 a (exo a C none)) H2 hp2 h2) (hok : HOk X.prog X.w H2 h2) (ho : os2 = os1) (hb : AllBare g2)
    (ea : H2 a = some (exo a C none)) :
    ∃ (t0 : Addr) (G : Heap), Inv X pins σ (del H2 a) ⟨G, g2, d2, t2, os2⟩ ∧ (∀ b o, G.get? b = some o → h2.get? b = some o) ∧ G.get? a = none ∧
      h2.get? a = some ({ cls := .ref C, dict := none, data := .fields #[.ref t0, .none, .none, .none, .bool false, .none] } : Obj) ∧ (del H2 a) a = none := by
  obtain ⟨t0, hoe⟩ := exo_at hok ea
  have hn : H1 a = none := I1.hok.fresh ha
  obtain ⟨G, g1', g2'⟩ := restrict h2 fun b => decide (b ≠ a)
  have gk : ∀ b, b ≠ a → G.get? b = h2.get? b := fun b hb => g1' b (decide_eq_true hb)
  have ge : G.get? a = none := g2' a (by simp)
  have nha : ∀ {b : Addr} {o : Obj}, hp.get? b = some o → b ≠ a := fun {b o} z => Nat.ne_of_lt (Nat.lt_of_lt_of_le (Heap.lt_size z) ha)
  have up : ∀ {b : Addr}, b ≠ a → H1 b = none → upd H1 a (exo a C none) b = none := fun {b} hb n => by rw [upd_ne hb]; exact n
  have U : Un (frs X.stack) [] H1 (del H2 a) hp G := {
    keep := fun b o z n hf hx => by
      rw [gk b (nha z)]
      exact un.keep b o (k b o z) (up (nha z) n) hf hx
    slot := fun b o z n hf hx => by
      rw [gk b (nha z)]
      exact un.slot b o (k b o z) (up (nha z) n) hf hx
    free := fun b o z n hx => by
      rw [del_ne (nha z)]
      exact un.free b o (k b o z) (up (nha z) n) hx
    there := fun b o z hx => by
      rw [gk b (nha z)]
      exact un.there b o (k b o z) hx
    tups := fun b xs z => by
      rw [del_ne (ne_of_none z hn)]
      exact un.tups b xs (by rw [upd_ne (ne_of_none z hn)]; exact z)
    frzs := fun b o v z => by
      rw [del_ne (ne_of_none z hn)]
      exact un.frzs b o v (by rw [upd_ne (ne_of_none z hn)]; exact z)
    tbls := fun b ps z => by
      rw [del_ne (ne_of_none z hn)]
      exact un.tbls b ps (by rw [upd_ne (ne_of_none z hn)]; exact z) }
  have hok3 : HOk X.prog X.w (del H2 a) G := fun b o z => by
    have hba : b ≠ a := fun e => by
      rw [e, del_same] at z
      cases z
    rw [del_ne hba] at z
    have noa : ∀ {c : Addr}, H2 c = some (.own b) → c ≠ a := fun {c} hc => at_ne ea hc exo_own
    exact (hok b o z).stay (fun c v hc y => by
        have hca : c ≠ a := by
          rcases hc with hc | hc
          · rw [hc]
            exact hba
          · exact noa hc
        rw [gk c hca]
        exact y)
      (fun c hc => by rw [del_ne (noa hc)]; exact hc) (fun c xs hc => by rw [del_ne (at_ne ea hc exo_tup)]; exact hc)
  have J : Inv X pins σ (del H2 a) ⟨G, g2, d2, t2, os2⟩ := I1.call' (ch := []) ho U hok3 hb (fun b z => absurd z (by simp))
  refine ⟨t0, G, J, fun b o z => ?_, ge, hoe, del_same⟩
  by_cases hba : b = a
  · rw [hba, ge] at z
    cases z
  · exact (gk b hba).symm.trans z
theorem pmk_oex0 {CX : CXT} {x : Str} {C fI : Addr} {k : Nat} {fd : FuncData} {ps : List Str} {sp : Sp} {p pos : Pos} (T : OexC X.K C) (iC : PySem.W.findIn X.K (.ref C) "__init__" = some (some (.ref fI))) (tI : PySem.W.typeIn X.K (.ref fI) = some (.type "function"))
    (F1 : FnOk X.prog X.w X.K X.mg X.base CX k fI fd ps sp) (hr : Room (k + 1) X.A) (hb : Binds X.K fd ps []) (hx : Passes CX X (fun _ _ _ => False)) (hg : Gl X x) (hm : X.mg x = some (.ref C))
    (hdb : (x == ("__debug__" : Str)) = false := by decide) :
    PMk X (.Call (.Name x p) [] [] pos) (tMk0 C sp) := by
  intro pins s σ H Q I h
  obtain ⟨nm, q, N, bs, bm, sn, sub, ab, col, dd, k0, k1, k2, k3, k5, hC, hbm⟩ := T.cls
  refine wpAny_Call_Name_kw (ld_glob I hg hm ?_ hdb)
  refine PySem.W.callWith_K0 I.kIn T.kC ?_
  show wpAny _ _ (call (.ref C) []) _ _ _
  obtain ⟨hp, g, dr, tk, os⟩ := s
  have hsz : hp.objs.size ≤ hp.objs.size + 1 := Nat.le_succ _
  have hn : H (hp.objs.size + 1) = none := I.hok.fresh hsz
  have hq := h (hp.objs.size + 1) hn
  have kk : ∀ b o, hp.get? b = some o → ((hp.push (PySem.W.kdv_tup [])).push (PySem.HandSPX.excO C hp.objs.size)).get? b = some o := fun b o e => Heap.get?_push_of_some _ (Heap.get?_push_of_some _ e)
  have hget : ((hp.push (PySem.W.kdv_tup [])).push (PySem.HandSPX.excO C hp.objs.size)).get? (hp.objs.size + 1) = some (PySem.HandSPX.excO C hp.objs.size) := by heap_get
  have I2 : Inv X pins σ (upd H (hp.objs.size + 1) (exo (hp.objs.size + 1) C none)) ⟨(hp.push (PySem.W.kdv_tup [])).push (PySem.HandSPX.excO C hp.objs.size), g, dr, tk, os⟩ :=
    I.laid (t' := tk) (a := hp.objs.size + 1) (o := exo (hp.objs.size + 1) C none) (h' := (hp.push (PySem.W.kdv_tup [])).push (PySem.HandSPX.excO C hp.objs.size)) kk hsz (exo_ok hget)
  have r2 : Vals [V.ref (hp.objs.size + 1)] [Value.ref (hp.objs.size + 1)] := .cons rfl .nil
  have hl : ([Value.ref (hp.objs.size + 1)] ++ ([] : List Value)).length = ps.length := by
    have e := r2.length
    rw [F1.len _ _ _ _ hq] at e
    exact e.symm
  refine wpAny_call (PySem.HandSPX.call_own F.excBase_ValueError (fun Y => PySem.HandSPX.refsVE_contains Y bm hbm) (I.kIn _ _ hC) (PySem.W.looks_findIn I.kIn iC) (fun self => PySem.W.bind_fn I.kIn self tI) (by show 0 ≤ sizeLine; decide)
    (codeAny_mono (F1.run _ X.stack _ _ ⟨[Value.ref (hp.objs.size + 1)], []⟩ [Value.ref (hp.objs.size + 1)] _ _ (fun _ _ _ => False) (hr.make C [] []) (I2.env0.make C [] []) (hb _ [Value.ref (hp.objs.size + 1)] I2.kIn hl) r2 hq) fun r s' hq' => ?_))
  cases r with
  | error er => exact hx pins σ _ _ er s' I2 hq'
  | ok fl =>
    cases fl with
    | ret u =>
      obtain ⟨v, H2, os2, bare2, un2, hok2, rv, ev, ea, q2⟩ := hq'
      subst ev
      obtain ⟨h2, g2, d2, t2, os'⟩ := s'
      obtain ⟨t0, G, J, kG, ge, hoe, na⟩ := mk_endN (d2 := d2) (t2 := t2) I hsz kk un2 hok2 os2 bare2 ea
      exact ⟨rv, _, _, _, ⟨G, g2, d2, t2, os'⟩, _, .ref C, none, rfl, J, kG, ge, hoe, ⟨rfl, rfl⟩, rfl, rfl, na, rfl, bare2, raises_own T.exC T.tyC, q2⟩
    | next => exact False.elim hq'
    | brk => exact False.elim hq'
    | cont => exact False.elim hq'
end
/-! ## division by a number below 0 -/
end L2
namespace L2
open PySem PySem.Spec PyProof.Rows Gg
/-! ## sittings -/
def sitFs (wb : Addr) (pl : Int) (st mk : Addr) : List (Str × V) := [(("web" : Str), .ref wb), (("_place" : Str), .int pl), (("_steps" : Str), .ref st), (("_marks" : Str), .ref mk)]
/-- a sitting at x: its web, its place, its list of steps, its marks -/
def SitAt (C : Addr) (H : Hp) (x wb : Addr) (pl : Int) (st mk : Addr) (ss : List Addr) : Prop := (∃ dx, H x = some (.ins C dx (sitFs wb pl st mk))) ∧ H st = some (.lst (ss.map V.ref))
/-- pairs of a number and a value stand at as -/
def PrsAt (H : Hp) (as : List Addr) (ps : List (Int × V)) : Prop := as.length = ps.length ∧ ∀ (i : Nat) a p, as[i]? = some a → ps[i]? = some p → H a = some (.tup [.int p.1, p.2])
theorem PrsAt.nil {H : Hp} : PrsAt H [] [] := ⟨rfl, fun i a p h _ => by simp at h⟩
theorem PrsAt.mono {H H' : Hp} {as : List Addr} {ps : List (Int × V)} (f : ∀ t xs, H t = some (.tup xs) → H' t = some (.tup xs)) (h : PrsAt H as ps) : PrsAt H' as ps := ⟨h.1, fun i a p x y => f _ _ (h.2 i a p x y)⟩
theorem PrsAt.same {H H' : Hp} {as : List Addr} {ps : List (Int × V)} (f : Same H H') (h : PrsAt H as ps) : PrsAt H' as ps := h.mono fun t xs e => f _ _ e
theorem PrsAt.gd {H H' : Hp} {as : List Addr} {ps : List (Int × V)} (f : Gd H H') (h : PrsAt H as ps) : PrsAt H' as ps := h.mono fun t xs e => f.1 _ _ (np_tup _) e
theorem PrsAt.snoc {H : Hp} {as : List Addr} {ps : List (Int × V)} {a : Addr} {p : Int × V} (h : PrsAt H as ps) (ha : H a = some (.tup [.int p.1, p.2])) : PrsAt H (as ++ [a]) (ps ++ [p]) := by
  refine ⟨by rw [List.length_append, List.length_append, h.1]; rfl, fun i b q e1 e2 => ?_⟩
  rcases Nat.lt_or_ge i as.length with hi | hi
  · rw [List.getElem?_append_left hi] at e1
    rw [List.getElem?_append_left (by rw [← h.1]; exact hi)] at e2
    exact h.2 i b q e1 e2
  · rw [List.getElem?_append_right hi] at e1
    rw [List.getElem?_append_right (by rw [← h.1]; exact hi)] at e2
    rw [← h.1] at e2
    rcases hk : i - as.length with _ | k
    · rw [hk] at e1 e2
      cases e1
      cases e2
      exact ha
    · rw [hk] at e1
      simp at e1
/-! what a sitting's deeds leave -/
def Kq (x st : Addr) (H H' : Hp) : Prop := ∀ b u, b ≠ x → b ≠ st → H b = some u → H' b = some u
def Kp (x st : Addr) (H H' : Hp) : Prop := ∀ b u, b ≠ x → b ≠ st → ¬ isPool u → H b = some u → H' b = some u
theorem Kq.kp {x st : Addr} {H H' : Hp} (h : Kq x st H H') : Kp x st H H' := fun b u h1 h2 _ e => h b u h1 h2 e
theorem Same.kp {x st : Addr} {H H' : Hp} (h : Same H H') : Kp x st H H' := fun b u _ _ _ e => h b u e
theorem Gd.kp {x st : Addr} {H H' : Hp} (h : Gd H H') : Kp x st H H' := fun b u _ _ n e => h.1 b u n e
theorem Kq.trans {x st : Addr} {H H1 H2 : Hp} (h : Kq x st H H1) (g : Kq x st H1 H2) : Kq x st H H2 := fun b u h1 h2 e => g b u h1 h2 (h b u h1 h2 e)
theorem Kp.trans {x st : Addr} {H H1 H2 : Hp} (h : Kp x st H H1) (g : Kp x st H1 H2) : Kp x st H H2 := fun b u h1 h2 n e => g b u h1 h2 n (h b u h1 h2 n e)
theorem Kp.refl {x st : Addr} (H : Hp) : Kp x st H H := fun _ _ _ _ _ e => e
/-- where a sitting and its list stand -/
def Lv (H : Hp) (x st : Addr) : Prop := (∃ C dx wb pl mk, H x = some (.ins C dx (sitFs wb pl st mk))) ∧ ∃ ss : List Addr, H st = some (.lst (ss.map V.ref))
theorem SitAt.lv {C : Addr} {H : Hp} {x wb st mk : Addr} {pl : Int} {ss : List Addr} (h : SitAt C H x wb pl st mk ss) : Lv H x st := by
  obtain ⟨⟨dx, h1⟩, h2⟩ := h
  exact ⟨⟨C, dx, wb, pl, mk, h1⟩, ss, h2⟩
theorem SitAt.same {C : Addr} {H H' : Hp} {x wb st mk : Addr} {pl : Int} {ss : List Addr} (f : Same H H') (h : SitAt C H x wb pl st mk ss) : SitAt C H' x wb pl st mk ss := by
  obtain ⟨⟨dx, h1⟩, h2⟩ := h
  exact ⟨⟨dx, f _ _ h1⟩, f _ _ h2⟩
theorem SitAt.gd {C : Addr} {H H' : Hp} {x wb st mk : Addr} {pl : Int} {ss : List Addr} (f : Gd H H') (h : SitAt C H x wb pl st mk ss) : SitAt C H' x wb pl st mk ss := by
  obtain ⟨⟨dx, h1⟩, h2⟩ := h
  exact ⟨⟨dx, f.1 _ _ (np_ins _ _ _) h1⟩, f.1 _ _ (np_refs _) h2⟩
theorem Lv.ne {H : Hp} {x st : Addr} (L : Lv H x st) : x ≠ st := by
  obtain ⟨⟨C, dx, wb, pl, mk, h1⟩, ss, h2⟩ := L
  exact ne_of h1 h2 (by intro z; cases z)
theorem Lv.ne_tup {H : Hp} {x st t : Addr} {xs : List V} (L : Lv H x st) (h : H t = some (.tup xs)) : t ≠ x ∧ t ≠ st := by
  obtain ⟨⟨C, dx, wb, pl, mk, h1⟩, ss, h2⟩ := L
  exact ⟨ne_of h h1 (by intro z; cases z), ne_of h h2 (by intro z; cases z)⟩
theorem Kp.tup {x st t : Addr} {H H' : Hp} {xs : List V} (f : Kp x st H H') (L : Lv H x st) (h : H t = some (.tup xs)) : H' t = some (.tup xs) := f _ _ (L.ne_tup h).1 (L.ne_tup h).2 (np_tup _) h
theorem RowsAt.kp {x st : Addr} {H H' : Hp} {as : List Addr} {rows : List (List Int)} (f : Kp x st H H') (L : Lv H x st) (h : RowsAt H as rows) : RowsAt H' as rows := ⟨h.1, fun i a row e1 e2 => f.tup L (h.2 i a row e1 e2)⟩
theorem PrsAt.kp {x st : Addr} {H H' : Hp} {as : List Addr} {ps : List (Int × V)} (f : Kp x st H H') (L : Lv H x st) (h : PrsAt H as ps) : PrsAt H' as ps := h.mono fun t xs e => f.tup L e
theorem Lv.ne_lst {H : Hp} {x st t : Addr} {xs : List V} (L : Lv H x st) (h : H t = some (.lst xs)) : t ≠ x := by
  obtain ⟨⟨C, dx, wb, pl, mk, h1⟩, ss, h2⟩ := L
  exact ne_of h h1 (by intro z; cases z)
theorem LsAt.kp {x st p : Addr} {H H' : Hp} {rows : List (List Int)} (f : Kp x st H H') (L : Lv H x st) (n : p ≠ st) (h : LsAt H p rows) : LsAt H' p rows := by
  obtain ⟨as, h1, h2⟩ := h
  exact ⟨as, f _ _ (L.ne_lst h1) n (np_refs _) h1, h2.kp f L⟩
theorem TsAt.kp {x st p : Addr} {H H' : Hp} {rows : List (List Int)} (f : Kp x st H H') (L : Lv H x st) (h : TsAt H p rows) : TsAt H' p rows := by
  obtain ⟨as, h1, h2⟩ := h
  exact ⟨as, f.tup L h1, h2.kp f L⟩
theorem Lv.ne_fs {H : Hp} {x st t C dx : Addr} {f : Str} {v : V} {fs : List (Str × V)} (L : Lv H x st) (hf : f ≠ ("web" : Str)) (h : H t = some (.ins C dx ((f, v) :: fs))) : t ≠ x ∧ t ≠ st := by
  obtain ⟨⟨C', dx', wb, pl, mk, h1⟩, ss, h2⟩ := L
  refine ⟨ne_of h h1 fun z => ?_, ne_of h h2 (by intro z; cases z)⟩
  unfold sitFs at z
  injection z with _ _ z
  injection z with z _
  injection z with z _
  exact hf z
theorem Kp.fs {x st t C dx : Addr} {H H' : Hp} {f : Str} {v : V} {fs : List (Str × V)} (k : Kp x st H H') (L : Lv H x st) (hf : f ≠ ("web" : Str)) (h : H t = some (.ins C dx ((f, v) :: fs))) : H' t = some (.ins C dx ((f, v) :: fs)) :=
  k _ _ (L.ne_fs hf h).1 (L.ne_fs hf h).2 (np_ins _ _ _) h
theorem WebAt.kp {C x st wb : Addr} {H H' : Hp} {rows : List (List Int)} {e o : Int} (f : Kp x st H H') (L : Lv H x st) (h : WebAt C H wb rows e o) : WebAt C H' wb rows e o := by
  obtain ⟨dx, nt, as, h1, h2, h3⟩ := h
  exact ⟨dx, nt, as, f.fs L (by decide) h1, f.tup L h2, h3.kp f L⟩
theorem PupAt.kp {C x st pu : Addr} {H H' : Hp} {l : List Int} (f : Kp x st H H') (L : Lv H x st) (h : PupAt C H pu l) : PupAt C H' pu l := by
  obtain ⟨dx, t, h1, h2⟩ := h
  exact ⟨dx, t, f.fs L (by decide) h1, f.tup L h2⟩
theorem Lv.ne_frz {H : Hp} {x st t : Addr} {o : Obj} {u : HO} (L : Lv H x st) (h : H t = some (.frz o u)) : t ≠ x ∧ t ≠ st := by
  obtain ⟨⟨C, dx, wb, pl, mk, h1⟩, ss, h2⟩ := L
  exact ⟨ne_of h h1 (by intro z; cases z), ne_of h h2 (by intro z; cases z)⟩
theorem SqT.kp {K : PySem.W.Frag} {x st t : Addr} {H H' : Hp} {xs : List V} (f : Kp x st H H') (L : Lv H x st) (h : SqT K H t xs) : SqT K H' t xs := by
  rcases h with (h | ⟨o, h⟩) | h
  · exact .inl (.inl (f.tup L h))
  · exact .inl (.inr ⟨o, f _ _ (L.ne_frz h).1 (L.ne_frz h).2 (np_frz _ _) h⟩)
  · exact .inr h
theorem Lv.kp {x st x' st' : Addr} {H H' : Hp} (f : Kp x st H H') (n1 : x' ≠ x) (n2 : x' ≠ st) (n3 : st' ≠ x) (n4 : st' ≠ st) (L : Lv H x' st') : Lv H' x' st' := by
  obtain ⟨⟨C, dx, wb, pl, mk, h1⟩, ss, h2⟩ := L
  exact ⟨⟨C, dx, wb, pl, mk, f _ _ n1 n2 (np_ins _ _ _) h1⟩, ss, f _ _ n3 n4 (np_refs _) h2⟩
theorem SitAt.kp {C x st x' st' wb mk : Addr} {pl : Int} {ss : List Addr} {H H' : Hp} (f : Kp x st H H') (n1 : x' ≠ x) (n2 : x' ≠ st) (n3 : st' ≠ x) (n4 : st' ≠ st) (h : SitAt C H x' wb pl st' mk ss) : SitAt C H' x' wb pl st' mk ss := by
  obtain ⟨⟨dx, h1⟩, h2⟩ := h
  exact ⟨⟨dx, f _ _ n1 n2 (np_ins _ _ _) h1⟩, f _ _ n3 n4 (np_refs _) h2⟩
/-! promises -/
def b2 (r : Bool) : Int := if r then 1 else 0
end L2
namespace L2
open PySem PySem.Spec PyProof.Rows Gg
theorem tRow_ok {rows : List (List Int)} {e o p : Int} (G : GoodW rows e o) (p0 : 0 ≤ p) (p1 : p < rows.length) (z : Int) : -e ≤ tRow (rowP rows p) z ∧ tRow (rowP rows p) z < rows.length := by
  obtain ⟨q, t1, t2, r, hr, _, _, _, h1, h2⟩ := row3 G p0 p1
  unfold tRow
  rw [hr]
  split
  · exact ⟨h1.1, h1.2.1⟩
  · exact ⟨h2.1, h2.2.1⟩
/-! promises of the law k76 -/
end L2
namespace L2
open PySem PySem.Spec PyProof.Rows Gg
/-! ## the marks that are left -/
def PupsAt (C : Addr) (H : Hp) (as : List Addr) (ls : List (List Int)) : Prop := as.length = ls.length ∧ ∀ (i : Nat) a l, as[i]? = some a → ls[i]? = some l → PupAt C H a l
theorem PupsAt.same {C : Addr} {H H' : Hp} {as : List Addr} {ls : List (List Int)} (f : Same H H') (h : PupsAt C H as ls) : PupsAt C H' as ls := ⟨h.1, fun i a l e1 e2 => (h.2 i a l e1 e2).same f⟩
theorem PupsAt.gd {C : Addr} {H H' : Hp} {as : List Addr} {ls : List (List Int)} (f : Gd H H') (h : PupsAt C H as ls) : PupsAt C H' as ls := ⟨h.1, fun i a l e1 e2 => (h.2 i a l e1 e2).gd f⟩
theorem PupsAt.kp {C x st : Addr} {H H' : Hp} {as : List Addr} {ls : List (List Int)} (f : Kp x st H H') (L : Lv H x st) (h : PupsAt C H as ls) : PupsAt C H' as ls := ⟨h.1, fun i a l e1 e2 => (h.2 i a l e1 e2).kp f L⟩
theorem PupsAt.mut {C : Addr} {H : Hp} {q : Addr} {zs : List V} {o : HO} {as : List Addr} {ls : List (List Int)} (hq : H q = some (.lst zs)) (h : PupsAt C H as ls) : PupsAt C (upd H q o) as ls := ⟨h.1, fun i a l e1 e2 => (h.2 i a l e1 e2).mut hq⟩
theorem PupsAt.nil {C : Addr} {H : Hp} : PupsAt C H [] [] := ⟨rfl, fun i a l h _ => by simp at h⟩
theorem PupsAt.snoc {C : Addr} {H : Hp} {as : List Addr} {ls : List (List Int)} {a : Addr} {l : List Int} (h : PupsAt C H as ls) (ha : PupAt C H a l) : PupsAt C H (as ++ [a]) (ls ++ [l]) := by
  refine ⟨by rw [List.length_append, List.length_append, h.1]; rfl, fun i b q e1 e2 => ?_⟩
  rcases Nat.lt_or_ge i as.length with hi | hi
  · rw [List.getElem?_append_left hi] at e1
    rw [List.getElem?_append_left (by rw [← h.1]; exact hi)] at e2
    exact h.2 i b q e1 e2
  · rw [List.getElem?_append_right hi] at e1
    rw [List.getElem?_append_right (by rw [← h.1]; exact hi)] at e2
    rw [← h.1] at e2
    rcases hk : i - as.length with _ | k
    · rw [hk] at e1 e2
      cases e1
      cases e2
      exact ha
    · rw [hk] at e1
      simp at e1
/-- a mark that can still come -/
def LeftM (rows : List (List Int)) (ms : List Int) (z y : Int) : Prop := ∃ k, 0 ≤ k ∧ Led rows z (-1 - k) ∧ y = mkP ms k
theorem Led.head {rows : List (List Int)} {i t q a b : Int} {r : List Int} (i0 : 0 ≤ i) (h : rows[i.toNat]? = some (q :: a :: b :: r)) (ht : t = a ∨ t = b) {j : Int} (hj : Led rows t j) : Led rows i j := by
  induction hj with
  | refl => exact .step .refl i0 h ht
  | step _ h1 h2 h3 ih => exact .step ih h1 h2 h3
theorem LeftM.step {rows : List (List Int)} {ms : List Int} {e o z : Int} (G : GoodW rows e o) (z0 : 0 ≤ z) (z1 : z < rows.length) (x y : Int) (h : LeftM rows ms (tRow (rowP rows z) x) y) : LeftM rows ms z y := by
  obtain ⟨k, k0, hk, rfl⟩ := h
  obtain ⟨q, t1, t2, r, hr, hrw, _, _, _, _⟩ := row3 G z0 z1
  rw [hr] at hrw
  refine ⟨k, k0, Led.head z0 hrw ?_ hk, rfl⟩
  unfold tRow
  rw [hr]
  split
  · exact .inl rfl
  · exact .inr rfl
theorem skip_ok {rows : List (List Int)} {e o p : Int} (G : GoodW rows e o) (p0 : 0 ≤ p) (p1 : p < rows.length) (h4 : (rowP rows p).length = 4) : -e ≤ ((rowP rows p)[3]?).getD 0 ∧ ((rowP rows p)[3]?).getD 0 < (rows.length : Int) := by
  obtain ⟨_, _, _, _, _, hrw, _⟩ := row3 G p0 p1
  obtain ⟨q, r, hq, _, _, _, ht⟩ := G.row _ _ hrw
  rw [hq] at h4
  rw [hq]
  obtain ⟨x, y, z, rfl⟩ : ∃ x y z, r = [x, y, z] := by
    rcases r with _ | ⟨x, _ | ⟨y, _ | ⟨z, _ | ⟨u, r⟩⟩⟩⟩ <;> simp at h4
    exact ⟨x, y, z, rfl⟩
  have := ht z (by simp)
  exact ⟨this.1, this.2.1⟩
/-! promises -/
def StepsIn (rows : List (List Int)) (ps : List (Int × V)) : Prop := ∀ q ∈ ps, 0 ≤ q.1 ∧ q.1 < rows.length
end L2
namespace L2
open PySem PySem.Spec PyProof.Rows
/-! ratios with a bottom of any sign, and ZeroBottom raised -/
/-- one round of the divisor's loop -/
def Dv (g : Nat) (i : Nat) (m n : Nat) : Prop := Nat.gcd m n = g ∧ ((i = 0 ∧ m < 2 ^ 900 ∧ n < 2 ^ 900) ∨ (0 < i ∧ n < m ∧ 2 ^ (i - 1) * (m * n) < 2 ^ 1800))
theorem Dv.step {g i m n : Nat} (h : Dv g i m n) (hn : n ≠ 0) : Dv g (i + 1) n (m % n) := by
  obtain ⟨hg, h⟩ := h
  have r := Nat.mod_lt m (Nat.pos_of_ne_zero hn)
  have r2 := Nat.mod_le m n
  refine ⟨by rw [← hg, Nat.gcd_comm m n, Nat.gcd_rec n m, Nat.gcd_comm], .inr ⟨Nat.succ_pos _, r, ?_⟩⟩
  rw [Nat.add_sub_cancel]
  rcases h with ⟨rfl, h1, h2⟩ | ⟨hi, h1, h2⟩
  · rw [Nat.pow_zero, Nat.one_mul, show (1800 : Nat) = 900 + 900 from rfl, Nat.pow_add]
    exact Nat.mul_lt_mul'' h2 (Nat.lt_trans r h2)
  · refine Nat.lt_of_le_of_lt ?_ h2
    have e : 2 ^ i = 2 ^ (i - 1) * 2 := by rw [← Nat.pow_succ]; congr 1; omega
    rw [e, Nat.mul_assoc]
    refine Nat.mul_le_mul_left _ ?_
    have d := Nat.div_add_mod m n
    have q1 : 1 ≤ m / n := (Nat.one_le_div_iff (Nat.pos_of_ne_zero hn)).mpr (Nat.le_of_lt h1)
    have : n * 1 ≤ n * (m / n) := Nat.mul_le_mul_left _ q1
    have : 2 * (m % n) ≤ m := by omega
    calc 2 * (n * (m % n)) = n * (2 * (m % n)) := by rw [Nat.mul_left_comm]
      _ ≤ n * m := Nat.mul_le_mul_left _ this
      _ = m * n := Nat.mul_comm _ _
/-- a fraction in the heap that is p / q, both of at most n bits -/
def Rn (n : Nat) (C : Addr) (H : Hp) (x : Addr) (p q : Int) : Prop := ∃ t b, RatAt C H x t b ∧ IsR t b p q ∧ q ≠ 0 ∧ Sz n p ∧ Sz n q
theorem Rn.same {n : Nat} {C : Addr} {H H' : Hp} {x : Addr} {p q : Int} (h : Rn n C H x p q) (e : Same H H') : Rn n C H' x p q := let ⟨t, b, h1, h2⟩ := h; ⟨t, b, h1.same e, h2⟩
theorem Rn.mono {n m : Nat} {C : Addr} {H : Hp} {x : Addr} {p q : Int} (h : Rn n C H x p q) (e : n ≤ m) : Rn m C H x p q := let ⟨t, b, h1, h2, h3, h4, h5⟩ := h; ⟨t, b, h1, h2, h3, h4.mono e, h5.mono e⟩
/-- all but one list stays -/
def Fp (p : Addr) (H H' : Hp) : Prop := ∀ c u, c ≠ p → H c = some u → H' c = some u
theorem Fp.trans {p : Addr} {H H1 H2 : Hp} (a : Fp p H H1) (b : Fp p H1 H2) : Fp p H H2 := fun c u n h => b c u n (a c u n h)
/-! what a step and its way back come to -/
end L2
namespace PySem.W
open PySem PySem.Spec PyProof.Rows L2
end PySem.W
namespace L2
open PySem PySem.Spec PyProof.Rows
end L2
namespace L2
open PySem PySem.Spec PyProof.Rows
theorem kit_tyR {K : PySem.W.Frag} {C : Addr} {T : String} {r : Bool} (h : PySem.W.subIn K (.ref C) (.type T) = some r) (hm : PySem.W.kitMeta T = true) : PySem.W.kitOne K (.ref C) (.type T) = some r := by
  unfold PySem.W.kitOne
  split
  · rename_i z
    cases z
  · show (if PySem.W.kitMeta T = true then PySem.W.subIn K (.ref C) (.type T) else none) = some r
    rw [if_pos hm, h]
theorem kit_refF {K : PySem.W.Frag} {C B : Addr} (hs : PySem.W.subIn K (.ref C) (.ref C) = some true) (h : PySem.W.subIn K (.ref C) (.ref B) = some false) (h2 : PySem.W.isClsIn K B = true) (h3 : PySem.W.typeIn K (.ref B) = some (.type "type")) : PySem.W.kitOne K (.ref C) (.ref B) = some false := by
  unfold PySem.W.kitOne
  split
  · rename_i z
    have e : C = B := Value.ref.inj (beq_iff_eq.mp z)
    subst e
    rw [hs] at h
    cases h
  · show (if ((PySem.W.clsIn K B).isSome && PySem.W.typeIn K (.ref B) == some (.type "type")) = true then PySem.W.subIn K (.ref C) (.ref B) else none) = some false
    rw [show (PySem.W.clsIn K B).isSome = true from h2, h3, h]
    rfl
end L2
namespace L2
open PySem PySem.Spec PyProof.Rows
/-! ## d.get(k) of a dict of the written part -/
end L2
namespace L2
open PySem PySem.Spec PyProof.Rows Gg
theorem skip_ok' {rows : List (List Int)} {e o p : Int} (G : GoodW rows e o) (p0 : 0 ≤ p) (p1 : p < rows.length) (h4 : 4 ≤ (rowP rows p).length) : -e ≤ ((rowP rows p)[3]?).getD 0 ∧ ((rowP rows p)[3]?).getD 0 < (rows.length : Int) := by
  refine skip_ok G p0 p1 ?_
  obtain ⟨_, _, _, _, _, hrw, _⟩ := row3 G p0 p1
  obtain ⟨q, r, hq, hl, _⟩ := G.row _ _ hrw
  rw [hq, List.length_cons] at h4 ⊢
  omega
/-! ## pairs of a number and a number or None, compared -/
def TV (v : V) : Prop := v = .non ∨ ∃ i, v = .int i
/-! ## deeds -/
inductive Dd
  | undo | marks (ns : List Int) | skip | ans (b : Bool) | bad (xs : List V)
def BadXs (xs : List V) : Prop := xs = [.str "redo"] ∨ xs = [.str "answer"] ∨ xs = [.str "undo", .int 0] ∨ xs = [] ∨ xs = [.str "skip", .bl true] ∨ xs = [.str "marks"] ∨ xs = [.str "answer", .bl true, .int 1] ∨ xs = [.str "right"]
def DdAt (H : Hp) (a : Addr) : Dd → Prop
  | .undo => H a = some (.tup [.str "undo"])
  | .marks ns => ns.length ≤ 100 ∧ ∃ m, H a = some (.tup [.str "marks", .ref m]) ∧ H m = some (.tup (ns.map V.int))
  | .skip => H a = some (.tup [.str "skip"])
  | .ans b => H a = some (.tup [.str "answer", .bl b])
  | .bad xs => BadXs xs ∧ H a = some (.tup xs)
theorem DdAt.mono {H H' : Hp} {a : Addr} {d : Dd} (f : ∀ t xs, H t = some (.tup xs) → H' t = some (.tup xs)) (h : DdAt H a d) : DdAt H' a d := by
  cases d with
  | undo => exact f _ _ h
  | marks ns => obtain ⟨h0, m, h1, h2⟩ := h; exact ⟨h0, m, f _ _ h1, f _ _ h2⟩
  | skip => exact f _ _ h
  | ans b => exact f _ _ h
  | bad xs => exact ⟨h.1, f _ _ h.2⟩
def DsAt (H : Hp) (as : List Addr) (ds : List Dd) : Prop := as.length = ds.length ∧ ∀ (i : Nat) a d, as[i]? = some a → ds[i]? = some d → DdAt H a d
theorem DsAt.mono {H H' : Hp} {as : List Addr} {ds : List Dd} (f : ∀ t xs, H t = some (.tup xs) → H' t = some (.tup xs)) (h : DsAt H as ds) : DsAt H' as ds := ⟨h.1, fun i a d e1 e2 => (h.2 i a d e1 e2).mono f⟩
theorem DsAt.same {H H' : Hp} {as : List Addr} {ds : List Dd} (f : Same H H') (h : DsAt H as ds) : DsAt H' as ds := h.mono fun t xs e => f _ _ e
theorem DsAt.gd {H H' : Hp} {as : List Addr} {ds : List Dd} (f : Gd H H') (h : DsAt H as ds) : DsAt H' as ds := h.mono fun t xs e => f.1 _ _ (np_tup _) e
theorem DsAt.kp {x st : Addr} {H H' : Hp} {as : List Addr} {ds : List Dd} (f : Kp x st H H') (L : Lv H x st) (h : DsAt H as ds) : DsAt H' as ds := h.mono fun t xs e => f.tup L e
theorem DsAt.nil {H : Hp} : DsAt H [] [] := ⟨rfl, fun i a d h _ => by simp at h⟩
/-! ## what deeds do -/
inductive Er
  | marks (n : Int) | ended | noskip (z : Int) | deed (k : Nat)
structure S3 where
  pl : Int
  ps : List (Int × V)
  ms : List Int
def stepS (rows : List (List Int)) (e : Int) (k : Nat) (s : S3) : Dd → Except Er S3
  | .undo => match s.ps.getLast? with
    | none => .ok s
    | some p => .ok ⟨p.1, s.ps.dropLast, s.ms⟩
  | .marks ns => if (ns.length : Int) = e then .ok ⟨s.pl, s.ps, ns⟩ else .error (.marks ns.length)
  | .skip => if s.pl < 0 then .error .ended else if (rowP rows s.pl).length < 4 then .error (.noskip s.pl) else .ok ⟨((rowP rows s.pl)[3]?).getD 0, s.ps ++ [(s.pl, .non)], s.ms⟩
  | .ans b => if s.pl < 0 then .error .ended else .ok ⟨tRow (rowP rows s.pl) (b2 b), s.ps ++ [(s.pl, .int (b2 b))], s.ms⟩
  | .bad _ => .error (.deed k)
section
variable {rows : List (List Int)} {e : Int} {k : Nat} {s : S3}
theorem step_undo : stepS rows e k s .undo = match s.ps.getLast? with
    | none => .ok s
    | some p => .ok ⟨p.1, s.ps.dropLast, s.ms⟩ := rfl
theorem step_marks {ns : List Int} : stepS rows e k s (.marks ns) = if (ns.length : Int) = e then .ok ⟨s.pl, s.ps, ns⟩ else .error (.marks ns.length) := rfl
theorem step_skip : stepS rows e k s .skip = if s.pl < 0 then .error .ended else if (rowP rows s.pl).length < 4 then .error (.noskip s.pl) else .ok ⟨((rowP rows s.pl)[3]?).getD 0, s.ps ++ [(s.pl, .non)], s.ms⟩ := rfl
theorem step_ans {b : Bool} : stepS rows e k s (.ans b) = if s.pl < 0 then .error .ended else .ok ⟨tRow (rowP rows s.pl) (b2 b), s.ps ++ [(s.pl, .int (b2 b))], s.ms⟩ := rfl
theorem step_bad {xs : List V} : stepS rows e k s (.bad xs) = .error (.deed k) := rfl
end
structure SOk (rows : List (List Int)) (e : Int) (s : S3) : Prop where
  p0 : -e ≤ s.pl
  p1 : s.pl < rows.length
  inn : StepsIn rows s.ps
  tv : ∀ q ∈ s.ps, TV q.2
  ml : (s.ms.length : Int) = e
theorem SOk.step {rows : List (List Int)} {e o : Int} {k : Nat} {s s' : S3} {d : Dd} (G : GoodW rows e o) (h : SOk rows e s) (hs : stepS rows e k s d = .ok s') : SOk rows e s' ∧ s'.ps.length ≤ s.ps.length + 1 := by
  have tvs : ∀ v, TV v → ∀ q ∈ s.ps ++ [(s.pl, v)], TV q.2 := fun v hv q hq => by
    rcases List.mem_append.mp hq with h1 | h1
    · exact h.tv q h1
    · rw [List.mem_singleton.mp h1]; exact hv
  have inn : 0 ≤ s.pl → ∀ v, StepsIn rows (s.ps ++ [(s.pl, v)]) := fun h0 v q hq => by
    rcases List.mem_append.mp hq with h1 | h1
    · exact h.inn q h1
    · rw [List.mem_singleton.mp h1]; exact ⟨h0, h.p1⟩
  cases d with
  | undo =>
    rw [step_undo] at hs
    cases hg : s.ps.getLast? with
    | none => rw [hg] at hs; cases hs; exact ⟨h, by omega⟩
    | some p =>
      rw [hg] at hs
      cases hs
      have hm := List.mem_of_getLast? hg
      obtain ⟨a, b⟩ := h.inn p hm
      have ge : 1 ≤ e := G.e1
      exact ⟨⟨by show -e ≤ p.1; omega, b, fun q hq => h.inn q ((List.dropLast_sublist _).subset hq), fun q hq => h.tv q ((List.dropLast_sublist _).subset hq), h.ml⟩, by show (s.ps.dropLast).length ≤ _; rw [List.length_dropLast]; omega⟩
  | marks ns =>
    rw [step_marks] at hs
    split at hs
    · cases hs
      exact ⟨⟨h.p0, h.p1, h.inn, h.tv, ‹_›⟩, by show s.ps.length ≤ _; omega⟩
    · cases hs
  | skip =>
    rw [step_skip] at hs
    split at hs
    · cases hs
    · split at hs
      · cases hs
      · cases hs
        have h0 : 0 ≤ s.pl := by omega
        obtain ⟨a, b⟩ := skip_ok' G h0 h.p1 (by omega)
        exact ⟨⟨a, b, inn h0 _, tvs _ (.inl rfl), h.ml⟩, by show (s.ps ++ _).length ≤ _; rw [List.length_append]; exact Nat.le_refl _⟩
  | ans b =>
    rw [step_ans] at hs
    split at hs
    · cases hs
    · cases hs
      have h0 : 0 ≤ s.pl := by omega
      obtain ⟨a, c⟩ := tRow_ok G h0 h.p1 (b2 b)
      exact ⟨⟨a, c, inn h0 _, tvs _ (.inr ⟨_, rfl⟩), h.ml⟩, by show (s.ps ++ _).length ≤ _; rw [List.length_append]; exact Nat.le_refl _⟩
  | bad xs => rw [step_bad] at hs; cases hs
/-! a sitting as a state -/
def SitS (K : PySem.W.Frag) (CS : Addr) (H : Hp) (x wb st : Addr) (s : S3) : Prop := ∃ mk ss, SitAt CS H x wb s.pl st mk ss ∧ PrsAt H ss s.ps ∧ SqT K H mk (s.ms.map V.int)
theorem SitS.lv {K : PySem.W.Frag} {CS : Addr} {H : Hp} {x wb st : Addr} {s : S3} (h : SitS K CS H x wb st s) : Lv H x st := by
  obtain ⟨mk, ss, h1, _, _⟩ := h
  exact h1.lv
theorem SitS.same {K : PySem.W.Frag} {CS : Addr} {H H' : Hp} {x wb st : Addr} {s : S3} (f : Same H H') (h : SitS K CS H x wb st s) : SitS K CS H' x wb st s := by
  obtain ⟨mk, ss, h1, h2, h3⟩ := h
  exact ⟨mk, ss, h1.same f, h2.same f, f.seqT h3⟩
theorem SitS.gd {K : PySem.W.Frag} {CS : Addr} {H H' : Hp} {x wb st : Addr} {s : S3} (f : Gd H H') (h : SitS K CS H x wb st s) : SitS K CS H' x wb st s := by
  obtain ⟨mk, ss, h1, h2, h3⟩ := h
  exact ⟨mk, ss, h1.gd f, h2.gd f, h3.kp f.kp h1.lv⟩
theorem SitS.kp {K : PySem.W.Frag} {CS : Addr} {H H' : Hp} {x st x' wb st' : Addr} {s : S3} (f : Kp x st H H') (L : Lv H x st) (n1 : x' ≠ x) (n2 : x' ≠ st) (n3 : st' ≠ x) (n4 : st' ≠ st) (h : SitS K CS H x' wb st' s) : SitS K CS H' x' wb st' s := by
  obtain ⟨mk, ss, h1, h2, h3⟩ := h
  exact ⟨mk, ss, h1.kp f n1 n2 n3 n4, h2.kp f L, h3.kp f L⟩
/-- the law's own state -/
def StAt (rows : List (List Int)) (H : Hp) (t : Addr) (s : S3) : Prop := ∃ pt rt mt rs, H t = some (.tup [.ref pt, .ref rt, .ref mt]) ∧ H pt = some (.tup ((s.ps.map Prod.fst ++ [s.pl]).map V.int)) ∧ H rt = some (.tup (rs.map V.ref)) ∧ PrsAt H rs (s.ps.map fun p => (qP rows p.1, p.2)) ∧ H mt = some (.tup (s.ms.map V.int))
theorem StAt.mono {rows : List (List Int)} {H H' : Hp} {t : Addr} {s : S3} (f : ∀ t xs, H t = some (.tup xs) → H' t = some (.tup xs)) (h : StAt rows H t s) : StAt rows H' t s := by
  obtain ⟨pt, rt, mt, rs, h1, h2, h3, h4, h5⟩ := h
  exact ⟨pt, rt, mt, rs, f _ _ h1, f _ _ h2, f _ _ h3, h4.mono f, f _ _ h5⟩
theorem StAt.same {rows : List (List Int)} {H H' : Hp} {t : Addr} {s : S3} (f : Same H H') (h : StAt rows H t s) : StAt rows H' t s := h.mono fun t xs e => f _ _ e
theorem StAt.gd {rows : List (List Int)} {H H' : Hp} {t : Addr} {s : S3} (f : Gd H H') (h : StAt rows H t s) : StAt rows H' t s := h.mono fun t xs e => f.1 _ _ (np_tup _) e
theorem StAt.kp {rows : List (List Int)} {x st : Addr} {H H' : Hp} {t : Addr} {s : S3} (f : Kp x st H H') (L : Lv H x st) (h : StAt rows H t s) : StAt rows H' t s := h.mono fun t xs e => f.tup L e
/-! errors -/
/-! promises -/
end L2
namespace L2
open PySem PySem.Spec PyProof.Rows
/-! ## data that are compared with their like -/
end L2
namespace L2
open PySem PySem.Spec PyProof.Rows
/-! ## a dict of the written part whose keys are None and ints -/
end L2
namespace L2
open PySem PySem.Spec PyProof.Rows TL
/-! ## words that write numbers -/
/-! going over a list or a tuple, of tuples or lists -/
end L2
namespace L2
open PySem PySem.Spec PyProof.Rows
/-! ## laws over joint walks: what is drawn -/
def WpAtF (p c L : Addr) (H : Hp) (q : Addr) (w : JW) : Prop := ∃ (D : Addr) (as : List Addr), H q = some (.tup [.ref D, .int w.2.1]) ∧ H D = some (.lst (as.map V.ref)) ∧ RowsAt H as w.1 ∧ D ≠ p ∧ D ≠ c ∧ D ≠ L
def WpsF (p c L : Addr) (H : Hp) (ps : List Addr) (ws : List JW) : Prop := ps.length = ws.length ∧ ∀ (i : Nat) q w, ps[i]? = some q → ws[i]? = some w → WpAtF p c L H q w
theorem WpsF.fr {p c L : Addr} {H H' : Hp} {ps : List Addr} {ws : List JW} (s : Fr p c H H') (h : WpsF p c L H ps ws) : WpsF p c L H' ps ws :=
  ⟨h.1, fun i q w h1 h2 => let ⟨D, as, a1, a2, a3, a4, a5, a6⟩ := h.2 i q w h1 h2; ⟨D, as, s.tup a1, s.2 _ _ a4 a5 a2, a3.fr s, a4, a5, a6⟩⟩
theorem WpsF.snoc {p c L q : Addr} {H : Hp} {ps : List Addr} {ws : List JW} {w : JW} (h : WpsF p c L H ps ws) (hq : WpAtF p c L H q w) : WpsF p c L H (ps ++ [q]) (ws ++ [w]) := by
  refine ⟨by rw [List.length_append, List.length_append, h.1]; rfl, fun i b w' h1 h2 => ?_⟩
  by_cases hi : i < ps.length
  · rw [List.getElem?_append_left hi] at h1
    rw [List.getElem?_append_left (by rw [← h.1]; exact hi)] at h2
    exact h.2 i b w' h1 h2
  · rw [List.getElem?_append_right (by omega)] at h1
    rw [List.getElem?_append_right (by rw [← h.1]; omega), ← h.1] at h2
    have hj0 : i - ps.length = 0 := by
      have := (List.getElem?_eq_some_iff.mp h1).1
      rw [List.length_singleton] at this
      omega
    rw [hj0] at h1 h2
    cases h1
    cases h2
    exact hq
/-- the list L is changed -/
theorem WpsF.mut {p c L : Addr} {H : Hp} {ps : List Addr} {ws : List JW} {zs : List V} {o : HO} (h : WpsF p c L H ps ws) (hL : H L = some (.lst zs)) : WpsF p c L (upd H L o) ps ws := by
  refine ⟨h.1, fun i q w h1 h2 => ?_⟩
  obtain ⟨D, as, a1, a2, a3, a4, a5, a6⟩ := h.2 i q w h1 h2
  refine ⟨D, as, by rw [upd_ne (ne_of a1 hL (by intro z; cases z))]; exact a1, by rw [upd_ne a6]; exact a2, ⟨a3.1, fun j b row e1 e2 => ?_⟩, a4, a5, a6⟩
  have := a3.2 j b row e1 e2
  rw [upd_ne (ne_of this hL (by intro z; cases z))]
  exact this
/-- lists of numbers, none of them the state's -/
def RowsF (p c : Addr) (H : Hp) (as : List Addr) (rows : List (List Int)) : Prop := RowsL H as rows ∧ ∀ a ∈ as, a ≠ p ∧ a ≠ c
theorem RowsF.fr {p c : Addr} {H H' : Hp} {as : List Addr} {rows : List (List Int)} (s : Fr p c H H') (h : RowsF p c H as rows) : RowsF p c H' as rows :=
  ⟨⟨h.1.1, fun i a row h1 h2 => let n := h.2 a (List.mem_of_getElem? h1); s.2 _ _ n.1 n.2 (h.1.2 i a row h1 h2)⟩, h.2⟩
theorem RowsL.mut {L : Addr} {H : Hp} {as : List Addr} {rows : List (List Int)} {o : HO} (h : RowsL H as rows) (n : L ∉ as) : RowsL (upd H L o) as rows :=
  ⟨h.1, fun i a row h1 h2 => by
    rw [upd_ne (fun z => n (by rw [← z]; exact List.mem_of_getElem? h1))]
    exact h.2 i a row h1 h2⟩
def JDue.ok : JDue → Prop
  | .rel z => PyData.strOk z = true
  | _ => True
end L2
namespace L2
open PySem PySem.Spec PyProof.Rows
theorem RowsIn.same {H H' : Hp} {as : List Addr} {rows : List (List Int)} (s : Same H H') (h : RowsIn H as rows) : RowsIn H' as rows := ⟨h.1, fun i a row h1 h2 => (h.2 i a row h1 h2).same s⟩
/-- all that is no list stands -/
def NL (H H' : Hp) : Prop := ∀ b o, (∀ xs, o ≠ .lst xs) → H b = some o → H' b = some o
theorem NL.tup {H H' : Hp} {x : Addr} {xs : List V} (e : NL H H') (h : H x = some (.tup xs)) : H' x = some (.tup xs) := e _ _ (fun _ z => by cases z) h
theorem NL.ins {H H' : Hp} {x C dx : Addr} {xs : List (Str × V)} (e : NL H H') (h : H x = some (.ins C dx xs)) : H' x = some (.ins C dx xs) := e _ _ (fun _ z => by cases z) h
theorem NL.trans {H H1 H2 : Hp} (a : NL H H1) (b : NL H1 H2) : NL H H2 := fun x o n h => b x o n (a x o n h)
theorem Same.nl {H H' : Hp} (e : Same H H') : NL H H' := fun x o _ h => e x o h
theorem RowsAt.nl {H H' : Hp} {as : List Addr} {rows : List (List Int)} (e : NL H H') (h : RowsAt H as rows) : RowsAt H' as rows := ⟨h.1, fun i a row h1 h2 => e.tup (h.2 i a row h1 h2)⟩
theorem WebAt.nl {C x : Addr} {H H' : Hp} {rows : List (List Int)} {e o : Int} (s : NL H H') (h : WebAt C H x rows e o) : WebAt C H' x rows e o := by
  obtain ⟨dx, nt, as, h1, h2, h3⟩ := h
  exact ⟨dx, nt, as, s.ins h1, s.tup h2, h3.nl s⟩
theorem WebsAt.nl {C : Addr} {H H' : Hp} {as : List Addr} {ws : List JW} (s : NL H H') (h : WebsAt C H as ws) : WebsAt C H' as ws := ⟨h.1, fun i x w h1 h2 => (h.2 i x w h1 h2).nl s⟩
theorem JtAtN.fr {p c : Addr} {CJ C : Addr} {H H' : Hp} {x : Addr} {ws : List JW} {sts : List (List Int)} {rel : Str} {wv : V} (f : Fr p c H H') (h : JtAtN (fun b => b ≠ p ∧ b ≠ c) CJ C H x ws sts rel wv) : JtAtN (fun b => b ≠ p ∧ b ≠ c) CJ C H' x ws sts rel wv := by
  obtain ⟨dx, wt, st, ak, as, ss, ks, h1, h2, h3, h4, h5, h6, h7, h8, h9⟩ := h
  exact ⟨dx, wt, st, ak, as, ss, ks, f.ins h1, f.tup h2, h3.nl f.1, f.tup h4, h5.fr f, f.2 _ _ h8.1 h8.2 h6, ⟨h7.1, fun i k w e1 e2 => let ⟨ms, m1, m2⟩ := h7.2 i k w e1 e2; let n := h9 k (List.mem_of_getElem? e1); ⟨ms, f.2 _ _ n.1 n.2 m1, m2⟩⟩, h8, h9⟩
end L2
namespace L2
open PySem PySem.Spec PyProof.Rows
end L2
namespace L2
open PySem PySem.Spec PyProof.Rows
/-! ## states of joint walks: positions, and entries of a question with answers -/
abbrev JE := Int × List Int
abbrev JS := List Int × List JE
def EntAt (H : Hp) (c : Addr) (m : JE) : Prop := ∃ t, H c = some (.tup [.int m.1, .ref t]) ∧ H t = some (.tup (m.2.map V.int))
def EntsAt (H : Hp) (cs : List Addr) (mem : List JE) : Prop := cs.length = mem.length ∧ ∀ (i : Nat) c m, cs[i]? = some c → mem[i]? = some m → EntAt H c m
theorem EntAt.nl {H H' : Hp} {x : Addr} {m : JE} (e : NL H H') (h : EntAt H x m) : EntAt H' x m := let ⟨t, h1, h2⟩ := h; ⟨t, e.tup h1, e.tup h2⟩
theorem EntsAt.nl {H H' : Hp} {cs : List Addr} {mem : List JE} (e : NL H H') (h : EntsAt H cs mem) : EntsAt H' cs mem := ⟨h.1, fun i x m h1 h2 => (h.2 i x m h1 h2).nl e⟩
theorem Fr.nl {p c : Addr} {H H' : Hp} (e : Fr p c H H') : NL H H' := e.1
theorem EntsAt.snoc {H : Hp} {cs : List Addr} {mem : List JE} {x : Addr} {m : JE} (h : EntsAt H cs mem) (h2 : EntAt H x m) : EntsAt H (cs ++ [x]) (mem ++ [m]) := by
  refine ⟨by rw [List.length_append, List.length_append, h.1]; rfl, fun i y n h3 h4 => ?_⟩
  by_cases hi : i < cs.length
  · rw [List.getElem?_append_left hi] at h3
    rw [List.getElem?_append_left (by rw [← h.1]; exact hi)] at h4
    exact h.2 i y n h3 h4
  · rw [List.getElem?_append_right (by omega)] at h3
    rw [List.getElem?_append_right (by rw [← h.1]; omega), ← h.1] at h4
    have h0 : i - cs.length = 0 := by
      have := (List.getElem?_eq_some_iff.mp h3).1
      rw [List.length_singleton] at this
      omega
    rw [h0] at h3 h4
    obtain rfl := Option.some.inj h3
    obtain rfl := Option.some.inj h4
    exact h2
theorem EntsAt.nil {H : Hp} : EntsAt H [] [] := ⟨rfl, fun i c m h => by simp at h⟩
theorem EntsAt.get {H : Hp} {cs : List Addr} {mem : List JE} (h : EntsAt H cs mem) {i : Nat} {c : Addr} (hc : cs[i]? = some c) : ∃ m, mem[i]? = some m ∧ EntAt H c m := by
  have hi : i < mem.length := by rw [← h.1]; exact (List.getElem?_eq_some_iff.mp hc).1
  exact ⟨mem[i], List.getElem?_eq_getElem hi, h.2 i c _ hc (List.getElem?_eq_getElem hi)⟩
/-- a state as a tuple of tuples -/
def StJ (H : Hp) (s : Addr) (st : JS) : Prop := ∃ (pt mt : Addr) (es : List Addr), H s = some (.tup [.ref pt, .ref mt]) ∧ H pt = some (.tup (st.1.map V.int)) ∧ H mt = some (.tup (es.map V.ref)) ∧ EntsAt H es st.2
theorem StJ.nl {H H' : Hp} {s : Addr} {st : JS} (e : NL H H') (h : StJ H s st) : StJ H' s st := let ⟨pt, mt, es, h1, h2, h3, h4⟩ := h; ⟨pt, mt, es, e.tup h1, e.tup h2, e.tup h3, h4.nl e⟩
theorem StJ.same {H H' : Hp} {s : Addr} {st : JS} (e : Same H H') (h : StJ H s st) : StJ H' s st := h.nl e.nl
/-- an answer with a state -/
def PaJ (H : Hp) (p : Addr) (x : Int × JS) : Prop := ∃ s, H p = some (.tup [.int x.1, .ref s]) ∧ StJ H s x.2
def PasJ (H : Hp) (ps : List Addr) (xs : List (Int × JS)) : Prop := ps.length = xs.length ∧ ∀ (i : Nat) p x, ps[i]? = some p → xs[i]? = some x → PaJ H p x
theorem PaJ.nl {H H' : Hp} {p : Addr} {x : Int × JS} (e : NL H H') (h : PaJ H p x) : PaJ H' p x := let ⟨s, h1, h2⟩ := h; ⟨s, e.tup h1, h2.nl e⟩
theorem PasJ.nl {H H' : Hp} {ps : List Addr} {xs : List (Int × JS)} (e : NL H H') (h : PasJ H ps xs) : PasJ H' ps xs := ⟨h.1, fun i p x h1 h2 => (h.2 i p x h1 h2).nl e⟩
theorem PasJ.snoc {H : Hp} {cs : List Addr} {mem : List (Int × JS)} {x : Addr} {m : Int × JS} (h : PasJ H cs mem) (h2 : PaJ H x m) : PasJ H (cs ++ [x]) (mem ++ [m]) := by
  refine ⟨by rw [List.length_append, List.length_append, h.1]; rfl, fun i y n h3 h4 => ?_⟩
  by_cases hi : i < cs.length
  · rw [List.getElem?_append_left hi] at h3
    rw [List.getElem?_append_left (by rw [← h.1]; exact hi)] at h4
    exact h.2 i y n h3 h4
  · rw [List.getElem?_append_right (by omega)] at h3
    rw [List.getElem?_append_right (by rw [← h.1]; omega), ← h.1] at h4
    have h0 : i - cs.length = 0 := by
      have := (List.getElem?_eq_some_iff.mp h3).1
      rw [List.length_singleton] at this
      omega
    rw [h0] at h3 h4
    obtain rfl := Option.some.inj h3
    obtain rfl := Option.some.inj h4
    exact h2
/-! as data -/
/-! ## steps -/
def posI (pos : List Int) (k : Nat) : Int := (pos[k]?).getD (-1)
def turnTo (pos : List Int) : Nat → Option Nat
  | 0 => none
  | k + 1 => if 0 ≤ posI pos k ∧ (∀ m, turnTo pos k = some m → posI pos k < posI pos m) then some k else turnTo pos k
def turnJ (pos : List Int) : Option Nat := turnTo pos pos.length
theorem turnTo_lt {pos : List Int} : ∀ {k w : Nat}, turnTo pos k = some w → w < k ∧ 0 ≤ posI pos w
  | 0, _, h => by cases h
  | k + 1, w, h => by
    unfold turnTo at h
    split at h
    · rename_i hc
      cases h
      exact ⟨Nat.lt_succ_self _, hc.1⟩
    · have := turnTo_lt h
      exact ⟨by omega, this.2⟩
def ansTo (mem : List JE) (q : Int) (n : Nat) : List Int := ((mem.find? fun m => m.1 == q).map Prod.snd).getD (List.replicate n (-1))
def frc0 (sm : Bool) (ans : List Int) (w : Nat) : Option Int := if sm = true then (ans.filter fun a => a != -1).head? else if w = 1 ∧ ans[0]? = some 1 then some 1 else if w = 0 ∧ ans[1]? = some 0 then some 0 else none
def frcJ (sm : Bool) (ans : List Int) (w : Nat) : Option Int := if ans[w]? = some (-1) then frc0 sm ans w else none
noncomputable def askB (rows : List (List Int)) (z q : Int) : Bool := @decide (AskP rows z q) (Classical.propDecidable _)
theorem askB_iff {rows : List (List Int)} {z q : Int} : askB rows z q = true ↔ AskP rows z q := by unfold askB; exact @decide_eq_true_iff _ (Classical.propDecidable _)
def rowsJ (ws : List JW) (w : Nat) : List (List Int) := ((ws[w]?).map fun x => x.1).getD []
noncomputable def needJ (ws : List JW) (sm : Bool) (pos : List Int) (m : JE) : Bool := (List.range pos.length).any fun w => askB (rowsJ ws w) (posI pos w) m.1 && (frcJ sm m.2 w).isSome
def qJ (ws : List JW) (pos : List Int) (w : Nat) : Int := qP (rowsJ ws w) (posI pos w)
def movJ (ws : List JW) (pos : List Int) (w : Nat) (a : Int) : List Int := pos.set w (tRow (rowP (rowsJ ws w) (posI pos w)) a)
def remJ (mem : List JE) (q : Int) (n w : Nat) (a : Int) : List JE := mem.filter (fun m => decide (m.1 < q)) ++ [(q, (ansTo mem q n).set w a)] ++ mem.filter (fun m => decide (q < m.1))
noncomputable def behJ (ws : List JW) (sm : Bool) (st : JS) (w : Nat) (a : Int) : JS := (movJ ws st.1 w a, (remJ st.2 (qJ ws st.1 w) st.1.length w a).filter (needJ ws sm (movJ ws st.1 w a)))
def ansJ (ws : List JW) (sm : Bool) (st : JS) (w : Nat) : List Int := match frcJ sm (ansTo st.2 (qJ ws st.1 w) st.1.length) w with
  | none => [0, 1]
  | some a => [a]
noncomputable def stepsJ (ws : List JW) (sm : Bool) (st : JS) : List (Int × JS) := match turnJ st.1 with
  | none => []
  | some w => (ansJ ws sm st w).map fun a => (a, behJ ws sm st w a)
/-- what a state must be like -/
structure StOk (ws : List JW) (st : JS) : Prop where
  len : st.1.length = ws.length
  pos : ∀ (w : Nat) (x : JW), ws[w]? = some x → -x.2.1 ≤ posI st.1 w ∧ posI st.1 w < x.1.length
  ent : ∀ m ∈ st.2, 0 ≤ m.1 ∧ m.1 < 48 ∧ m.2.length = ws.length ∧ ∀ a ∈ m.2, a = -1 ∨ a = 0 ∨ a = 1
  asc : st.2.Pairwise fun m n => m.1 < n.1
end L2
namespace L2
open PySem PySem.Spec PyProof.Rows
/-! ## slices and sums of tuples, tracked -/
/-! ## the first of its kind -/
theorem ansTo_len {mem : List JE} {q : Int} {n : Nat} (h : ∀ m ∈ mem, m.2.length = n) : (ansTo mem q n).length = n := by
  unfold ansTo
  cases hf : mem.find? (fun m => m.1 == q) with
  | none => simp
  | some m => exact h m (List.mem_of_find?_eq_some hf)
/-! ## comprehensions that keep some of the entries -/
end L2
namespace L2
open PySem PySem.Spec PyProof.Rows
theorem ansTo_val {ws : List JW} {st : JS} (h : StOk ws st) {q : Int} {n : Nat} : ∀ a ∈ ansTo st.2 q n, a = -1 ∨ a = 0 ∨ a = 1 := by
  unfold ansTo
  cases hf : st.2.find? (fun m => m.1 == q) with
  | none =>
    intro a ha
    exact .inl (List.eq_of_mem_replicate ha)
  | some m => exact (h.ent m (List.mem_of_find?_eq_some hf)).2.2.2
theorem frcJ_01 {sm : Bool} {ans : List Int} {w : Nat} {a : Int} (hv : ∀ a ∈ ans, a = -1 ∨ a = 0 ∨ a = 1) (h : frcJ sm ans w = some a) : a = 0 ∨ a = 1 := by
  unfold frcJ at h
  split at h
  · unfold frc0 at h
    split at h
    · have hm := List.mem_of_head? h
      obtain ⟨h1, h2⟩ := List.mem_filter.mp hm
      rcases hv a h1 with h3 | h3
      · rw [h3] at h2; cases h2
      · exact h3
    · split at h
      · cases h; exact .inr rfl
      · split at h
        · cases h; exact .inl rfl
        · cases h
  · cases h
theorem ansJ_01 {ws : List JW} {sm : Bool} {st : JS} (h : StOk ws st) {w : Nat} : ∀ a ∈ ansJ ws sm st w, a = 0 ∨ a = 1 := by
  unfold ansJ
  cases hf : frcJ sm (ansTo st.2 (qJ ws st.1 w) st.1.length) w with
  | none =>
    intro a ha
    have ha : a ∈ [0, 1] := ha
    simp at ha
    exact ha
  | some b =>
    intro a ha
    have ha : a ∈ [b] := ha
    rw [List.mem_singleton.mp ha]
    exact frcJ_01 (ansTo_val h) hf
/-- what stands at a walker's place -/
theorem place_at {ws : List JW} {st : JS} (h : StOk ws st) (hG : ∀ y ∈ ws, GoodW y.1 y.2.1 y.2.2) {w : Nat} (hw : w < ws.length) (h0 : 0 ≤ posI st.1 w) :
    ∃ q t1 t2 r, rowP (rowsJ ws w) (posI st.1 w) = q :: t1 :: t2 :: r ∧ rowsJ ws w = (ws[w]).1 ∧ (ws[w]).1[(posI st.1 w).toNat]? = some (q :: t1 :: t2 :: r) ∧ posI st.1 w < (ws[w]).1.length ∧ 0 ≤ q ∧ q < 48 ∧ qJ ws st.1 w = q ∧
      (-(ws[w]).2.1 ≤ t1 ∧ t1 < (ws[w]).1.length) ∧ (-(ws[w]).2.1 ≤ t2 ∧ t2 < (ws[w]).1.length) ∧ (0 ≤ t1 → posI st.1 w < t1) ∧ (0 ≤ t2 → posI st.1 w < t2) := by
  have hwe : ws[w]? = some ws[w] := List.getElem?_eq_getElem hw
  obtain ⟨p1, p2⟩ := h.pos w _ hwe
  have G := hG _ (List.getElem_mem hw)
  have hrj : rowsJ ws w = (ws[w]).1 := by unfold rowsJ; rw [hwe]; rfl
  obtain ⟨q, t1, t2, r, hr1, hr2, q0, q1, a1, a2⟩ := row3 G h0 p2
  refine ⟨q, t1, t2, r, by rw [hrj]; exact hr1, hrj, by rw [hr2, hr1], p2, q0, q1, by unfold qJ qP; rw [hrj, hr1]; rfl, ⟨a1.1, a1.2.1⟩, ⟨a2.1, a2.2.1⟩, fun h => ?_, fun h => ?_⟩
  · have := a1.2.2; omega
  · have := a2.2.2; omega
theorem remJ_ent {ws : List JW} {st : JS} (h : StOk ws st) {q a : Int} {w : Nat} (q0 : 0 ≤ q) (q1 : q < 48) (ha : a = 0 ∨ a = 1) : ∀ m ∈ remJ st.2 q st.1.length w a, 0 ≤ m.1 ∧ m.1 < 48 ∧ m.2.length = ws.length ∧ ∀ b ∈ m.2, b = -1 ∨ b = 0 ∨ b = 1 := by
  intro m hm
  unfold remJ at hm
  have old : ∀ p : JE → Bool, m ∈ st.2.filter p → _ := fun p hp => h.ent m (List.mem_filter.mp hp).1
  rcases List.mem_append.mp hm with hm | hm
  · rcases List.mem_append.mp hm with hm | hm
    · exact old _ hm
    · rw [List.mem_singleton.mp hm]
      refine ⟨q0, q1, ?_, fun b hb => ?_⟩
      · show ((ansTo st.2 q st.1.length).set w a).length = _
        rw [List.length_set, ansTo_len fun m hm => (h.ent m hm).2.2.1.trans h.len.symm, h.len]
      · rcases List.mem_or_eq_of_mem_set hb with hb | hb
        · exact ansTo_val h b hb
        · rw [hb]; exact .inr ha
  · exact old _ hm
theorem movJ_pos {ws : List JW} {st : JS} (h : StOk ws st) (hG : ∀ y ∈ ws, GoodW y.1 y.2.1 y.2.2) {w : Nat} (hw : w < ws.length) (h0 : 0 ≤ posI st.1 w) (a : Int) : (movJ ws st.1 w a).length = ws.length ∧ ∀ (u : Nat) (y : JW), ws[u]? = some y → -y.2.1 ≤ posI (movJ ws st.1 w a) u ∧ posI (movJ ws st.1 w a) u < y.1.length := by
  obtain ⟨q, t1, t2, r, hr, hrj, _, _, _, _, _, b1, b2, _⟩ := place_at h hG hw h0
  refine ⟨by unfold movJ; rw [List.length_set, h.len], fun u y hy => ?_⟩
  unfold movJ posI
  by_cases e : w = u
  · subst e
    rw [List.getElem?_set_self (by rw [h.len]; exact hw)]
    rw [List.getElem?_eq_getElem hw] at hy
    cases hy
    have : tRow (rowP (rowsJ ws w) ((st.1[w]?).getD (-1))) a = if a = 1 then t1 else t2 := by
      have : rowP (rowsJ ws w) ((st.1[w]?).getD (-1)) = q :: t1 :: t2 :: r := hr
      rw [this]
      rfl
    show -_ ≤ tRow _ a ∧ tRow _ a < _
    rw [this]
    split
    · exact b1
    · exact b2
  · rw [List.getElem?_set_ne e]
    exact h.pos u y hy
end L2
namespace L2
open PySem PySem.Spec PyProof.Rows
/-! a Joint without starts: nothing to explore -/
/-- something else than instances, tuples and lists is changed -/
theorem JtAt.mut {CJ C : Addr} {H : Hp} {x d : Addr} {ws : List JW} {sts : List (List Int)} {rel : Str} {wv : V} {u o : HO} (h : JtAt CJ C H x ws sts rel wv) (hd : H d = some u) (n : (∀ C' d' fs, u ≠ .ins C' d' fs) ∧ (∀ xs, u ≠ .tup xs) ∧ ∀ xs, u ≠ .lst xs) : JtAt CJ C (upd H d o) x ws sts rel wv := by
  obtain ⟨dx, wt, st, ak, as, ss, ks, hx, hwt, hws, hst, hss, hak, hks⟩ := h
  have i : ∀ {b C' d' fs}, H b = some (.ins C' d' fs) → upd H d o b = some (.ins C' d' fs) := fun {b C' d' fs} hb => by rw [upd_ne (ne_of hb hd (fun z => n.1 _ _ _ z.symm))]; exact hb
  have t : ∀ {b xs}, H b = some (.tup xs) → upd H d o b = some (.tup xs) := fun {b xs} hb => by rw [upd_ne (ne_of hb hd (fun z => n.2.1 _ z.symm))]; exact hb
  have l : ∀ {b xs}, H b = some (.lst xs) → upd H d o b = some (.lst xs) := fun {b xs} hb => by rw [upd_ne (ne_of hb hd (fun z => n.2.2 _ z.symm))]; exact hb
  have r : ∀ {as rows}, RowsAt H as rows → RowsAt (upd H d o) as rows := fun {as rows} h => ⟨h.1, fun i a row h1 h2 => t (h.2 i a row h1 h2)⟩
  refine ⟨dx, wt, st, ak, as, ss, ks, i hx, t hwt, ⟨hws.1, fun j y w h1 h2 => ?_⟩, t hst, r hss, l hak, hks.1, fun j k w h1 h2 => ?_⟩
  · obtain ⟨d1, n1, a1, b1, b2, b3⟩ := hws.2 j y w h1 h2
    exact ⟨d1, n1, a1, i b1, t b2, r b3⟩
  · obtain ⟨ms, h3, h4⟩ := hks.2 j k w h1 h2
    exact ⟨ms, l h3, h4⟩
end L2
namespace L2
open PySem PySem.Spec PyProof.Rows
/-! ## the same, as a law walks it -/
def NdsAt (H : Hp) (L : Addr) (ws : List JW) : Prop := ∃ Ds : List Addr, H L = some (.lst (Ds.map V.ref)) ∧ Ds.length = ws.length ∧ ∀ (i : Nat) D w, Ds[i]? = some D → ws[i]? = some w → LsAt H D w.1
theorem LsAt.sameJ {H H' : Hp} {D : Addr} {rows : List (List Int)} (e : Same H H') (h : LsAt H D rows) : LsAt H' D rows := let ⟨as, h1, h2⟩ := h; ⟨as, e _ _ h1, h2.same e⟩
theorem NdsAt.same {H H' : Hp} {L : Addr} {ws : List JW} (e : Same H H') (h : NdsAt H L ws) : NdsAt H' L ws := let ⟨Ds, h1, h2, h3⟩ := h; ⟨Ds, e _ _ h1, h2, fun i D w a b => (h3 i D w a b).sameJ e⟩
end L2
namespace L2
open PySem PySem.Spec PyProof.Rows
end L2
namespace L2
open PySem PySem.Spec PyProof.Rows
/-- the lists of rows of drawn webs, none of them the state's -/
def NdsF (p c : Addr) (H : Hp) (L : Addr) (ws : List JW) : Prop := L ≠ p ∧ L ≠ c ∧ ∃ Ds : List Addr, H L = some (.lst (Ds.map V.ref)) ∧ Ds.length = ws.length ∧ ∀ (i : Nat) D w, Ds[i]? = some D → ws[i]? = some w → LsAt H D w.1 ∧ D ≠ p ∧ D ≠ c
theorem NdsF.fr {p c : Addr} {H H' : Hp} {L : Addr} {ws : List JW} (f : Fr p c H H') (h : NdsF p c H L ws) : NdsF p c H' L ws := let ⟨n1, n2, Ds, h1, h2, h3⟩ := h; ⟨n1, n2, Ds, f.2 _ _ n1 n2 h1, h2, fun i D w a b => let ⟨⟨as, a1, a2⟩, d1, d2⟩ := h3 i D w a b; ⟨⟨as, f.2 _ _ d1 d2 a1, a2.fr f⟩, d1, d2⟩⟩
theorem StJ.fr {p c : Addr} {H H' : Hp} {s : Addr} {st : JS} (f : Fr p c H H') (h : StJ H s st) : StJ H' s st := h.nl f.1
end L2
namespace L2
open PySem PySem.Spec PyProof.Rows
/-! ## dicts whose keys are nested tuples of whole numbers and None -/
mutual
inductive NkV (H : Hp) : NestedKey → V → Prop
  | none : NkV H .none .non
  | int (i : Int) : NkV H (.num i) (.int i)
  | tup {a : Addr} {ks : List NestedKey} {vs : List V} : H a = some (.tup vs) → NkVs H ks vs → NkV H (.tup ks) (.ref a)
inductive NkVs (H : Hp) : List NestedKey → List V → Prop
  | nil : NkVs H [] []
  | cons {k : NestedKey} {v : V} {ks : List NestedKey} {vs : List V} : NkV H k v → NkVs H ks vs → NkVs H (k :: ks) (v :: vs)
end
mutual
theorem NkV.mono {H H' : Hp} (e : ∀ b xs, H b = some (.tup xs) → H' b = some (.tup xs)) : ∀ (k : NestedKey) (v : V), NkV H k v → NkV H' k v
  | .none, _, hk => by cases hk; exact .none
  | .num i, _, hk => by cases hk; exact .int _
  | .text x, _, hk => by cases hk
  | .tup ks, _, hk => by
    cases hk with
    | tup h1 h2 => exact .tup (e _ _ h1) (NkVs.mono e ks _ h2)
theorem NkVs.mono {H H' : Hp} (e : ∀ b xs, H b = some (.tup xs) → H' b = some (.tup xs)) : ∀ (ks : List NestedKey) (vs : List V), NkVs H ks vs → NkVs H' ks vs
  | [], _, hk => by cases hk; exact .nil
  | k :: ks, _, hk => by
    cases hk with
    | cons h1 h2 => exact .cons (NkV.mono e k _ h1) (NkVs.mono e ks _ h2)
end
/-- a key, where its tuple stands, and the value -/
abbrev NE := NestedKey × Addr × V
abbrev KN : List NE → List (NestedKey × Addr × Value) → Prop := Paired fun p q => p.1 = q.1 ∧ p.2.1 = q.2.1 ∧ RelV p.2.2 q.2.2
def nval (kvs : List NE) (k : NestedKey) : Option V := (kvs.find? fun x => decide (x.1 = k)).map (·.2.2)
def nput (kvs : List NE) (k : NestedKey) (b : Addr) (v : V) : List NE := kvs ++ [(k, b, v)]
def KeysN (H : Hp) (kvs : List NE) : Prop := ∀ p ∈ kvs, NkV H p.1 (.ref p.2.1) ∧ p.1.depth ≤ 8
theorem KeysN.mono {H H' : Hp} {kvs : List NE} (h : KeysN H kvs) (e : ∀ b xs, H b = some (.tup xs) → H' b = some (.tup xs)) : KeysN H' kvs := fun p hp => ⟨NkV.mono e _ _ (h p hp).1, (h p hp).2⟩
theorem KN.val {kvs : List NE} {xs : List (NestedKey × Addr × Value)} (r : KN kvs xs) (k : NestedKey) : RelO (nval kvs k) ((atKey xs k).map (·.2)) := by
  induction r with
  | nil => exact True.intro
  | @cons p q ps qs h t ih =>
    obtain ⟨h1, h2, h3⟩ := h
    by_cases e : p.1 = k
    · have e' : q.1 = k := h1.symm.trans e
      have b : atKey (q :: qs) k = some q.2 := by simp [atKey, List.find?_cons, e']
      have c : nval (p :: ps) k = some p.2.2 := by simp [nval, List.find?_cons, e]
      rw [c, b]; exact h3
    · have e' : ¬ q.1 = k := fun z => e (h1.trans z)
      have b : atKey (q :: qs) k = atKey qs k := by simp [atKey, List.find?_cons, e']
      have c : nval (p :: ps) k = nval ps k := by simp [nval, List.find?_cons, e]
      rw [c, b]; exact ih
theorem KN.keys {kvs : List NE} {xs : List (NestedKey × Addr × Value)} (r : KN kvs xs) : kvs.map (·.1) = xs.map (·.1) := by
  induction r with
  | nil => rfl
  | cons h t ih => rw [List.map_cons, List.map_cons, ih, h.1]
theorem nval_none_iff {kvs : List NE} {k : NestedKey} : nval kvs k = none ↔ k ∉ kvs.map (·.1) := by
  unfold nval
  rw [Option.map_eq_none_iff, List.find?_eq_none]
  constructor
  · intro h hk
    obtain ⟨p, hp, e⟩ := List.mem_map.mp hk
    exact h p hp (by simp [e])
  · intro h p hp e
    exact h (List.mem_map.mpr ⟨p, hp, by simpa using e⟩)
section
variable {X : Cx} {pins : List (Addr × Obj)} {σ : St} {H : Hp} {s : Shared} {a b : Addr} {kvs : List NE} {k : NestedKey} {o : Obj} {A : Around} {E : Value → Shared → Prop}
theorem KN.len {xs : List (NestedKey × Addr × Value)} (r : KN kvs xs) : kvs.length = xs.length := Paired.length r
end
/-! ### readings and rules -/
/-! ### list(d), for k in d -/
end L2
namespace L2
open PySem PySem.Spec PyProof.Rows
/-! ## states as keys -/
def entK (m : JE) : NestedKey := .tup [.num m.1, .tup (m.2.map .num)]
def skey (st : JS) : NestedKey := .tup [.tup (st.1.map .num), .tup (st.2.map entK)]
theorem nums_inj : ∀ {l m : List Int}, l.map NestedKey.num = m.map NestedKey.num → l = m
  | [], [], _ => rfl
  | [], _ :: _, h => by simp at h
  | _ :: _, [], h => by simp at h
  | a :: l, b :: m, h => by
    rw [List.map_cons, List.map_cons] at h
    injection h with h1 h2
    injection h1 with h1
    rw [h1, nums_inj h2]
theorem entK_inj {m n : JE} (h : entK m = entK n) : m = n := by
  unfold entK at h
  injection h with h
  injection h with h1 h2
  injection h1 with h1
  injection h2 with h2 _
  injection h2 with h2
  exact Prod.ext h1 (nums_inj h2)
theorem ents_inj : ∀ {l m : List JE}, l.map entK = m.map entK → l = m
  | [], [], _ => rfl
  | [], _ :: _, h => by simp at h
  | _ :: _, [], h => by simp at h
  | a :: l, b :: m, h => by
    rw [List.map_cons, List.map_cons] at h
    injection h with h1 h2
    rw [entK_inj h1, ents_inj h2]
theorem skey_inj {s t : JS} (h : skey s = skey t) : s = t := by
  unfold skey at h
  injection h with h
  injection h with h1 h2
  injection h1 with h1
  injection h2 with h2 _
  injection h2 with h2
  exact Prod.ext (nums_inj h1) (ents_inj h2)
/-- the tuples stay -/
def TpK (H H' : Hp) : Prop := ∀ b xs, H b = some (.tup xs) → H' b = some (.tup xs)
theorem Same.tpk {H H' : Hp} (e : Same H H') : TpK H H' := fun b xs h => e b _ h
theorem TpK.trans {H H' H'' : Hp} (e : TpK H H') (f : TpK H' H'') : TpK H H'' := fun b xs h => f b xs (e b xs h)
theorem EntAt.tpk {H H' : Hp} {x : Addr} {m : JE} (e : TpK H H') (h : EntAt H x m) : EntAt H' x m := let ⟨t, h1, h2⟩ := h; ⟨t, e _ _ h1, e _ _ h2⟩
theorem EntsAt.tpk {H H' : Hp} {cs : List Addr} {mem : List JE} (e : TpK H H') (h : EntsAt H cs mem) : EntsAt H' cs mem := ⟨h.1, fun i x m h1 h2 => (h.2 i x m h1 h2).tpk e⟩
theorem StJ.tpk {H H' : Hp} {s : Addr} {st : JS} (e : TpK H H') (h : StJ H s st) : StJ H' s st := let ⟨pt, mt, es, h1, h2, h3, h4⟩ := h; ⟨pt, mt, es, e _ _ h1, e _ _ h2, e _ _ h3, h4.tpk e⟩
theorem PaJ.tpk {H H' : Hp} {p : Addr} {x : Int × JS} (e : TpK H H') (h : PaJ H p x) : PaJ H' p x := let ⟨s, h1, h2⟩ := h; ⟨s, e _ _ h1, h2.tpk e⟩
theorem PasJ.tpk {H H' : Hp} {ps : List Addr} {xs : List (Int × JS)} (e : TpK H H') (h : PasJ H ps xs) : PasJ H' ps xs := ⟨h.1, fun i p x h1 h2 => (h.2 i p x h1 h2).tpk e⟩
/-! ## states that follow are states -/
theorem remJ_asc {mem : List JE} (h : mem.Pairwise fun m n => m.1 < n.1) (q : Int) (n w : Nat) (a : Int) : (remJ mem q n w a).Pairwise fun m n => m.1 < n.1 := by
  unfold remJ
  refine List.pairwise_append.mpr ⟨List.pairwise_append.mpr ⟨h.filter _, List.pairwise_singleton _ _, fun x hx y hy => ?_⟩, h.filter _, fun x hx y hy => ?_⟩
  · rw [List.mem_singleton.mp hy]
    simpa using (List.mem_filter.mp hx).2
  · have hy' : q < y.1 := by simpa using (List.mem_filter.mp hy).2
    rcases List.mem_append.mp hx with hx | hx
    · have : x.1 < q := by simpa using (List.mem_filter.mp hx).2
      omega
    · rw [List.mem_singleton.mp hx]; exact hy'
theorem behJ_ok {ws : List JW} {sm : Bool} {st : JS} {w : Nat} {a : Int} (h : StOk ws st) (hG : ∀ y ∈ ws, GoodW y.1 y.2.1 y.2.2) (hw : w < ws.length) (h0 : 0 ≤ posI st.1 w) (ha : a = 0 ∨ a = 1) : StOk ws (behJ ws sm st w a) := by
  obtain ⟨q, t1, t2, r, hr, hrj, _, _, q0, q1, hq, _⟩ := place_at h hG hw h0
  obtain ⟨m1, m2⟩ := movJ_pos h hG hw h0 a
  refine ⟨m1, m2, fun m hm => ?_, (remJ_asc h.asc _ _ _ _).filter _⟩
  exact remJ_ent h (by rw [hq]; exact q0) (by rw [hq]; exact q1) ha m (List.mem_filter.mp hm).1
theorem steps_mem {ws : List JW} {sm : Bool} {st : JS} {x : Int × JS} (h : x ∈ stepsJ ws sm st) : ∃ w, turnJ st.1 = some w ∧ x.1 ∈ ansJ ws sm st w ∧ x.2 = behJ ws sm st w x.1 := by
  unfold stepsJ at h
  cases ht : turnJ st.1 with
  | none => rw [ht] at h; simp at h
  | some w =>
    rw [ht] at h
    obtain ⟨a, ha, rfl⟩ := List.mem_map.mp h
    exact ⟨w, rfl, ha, rfl⟩
theorem turn_at {ws : List JW} {st : JS} {w : Nat} (h : StOk ws st) (ht : turnJ st.1 = some w) : w < ws.length ∧ 0 ≤ posI st.1 w := by
  obtain ⟨h1, h2⟩ := turnTo_lt ht
  exact ⟨by rw [← h.len]; exact h1, h2⟩
theorem steps_ok {ws : List JW} {sm : Bool} {st : JS} (h : StOk ws st) (hG : ∀ y ∈ ws, GoodW y.1 y.2.1 y.2.2) : ∀ x ∈ stepsJ ws sm st, StOk ws x.2 ∧ (x.1 = 0 ∨ x.1 = 1) := by
  intro x hx
  obtain ⟨w, ht, ha, e⟩ := steps_mem hx
  obtain ⟨hw, h0⟩ := turn_at h ht
  rw [e]
  exact ⟨behJ_ok h hG hw h0 (ansJ_01 h _ ha), ansJ_01 h _ ha⟩
theorem posI_mov_ne {ws : List JW} {pos : List Int} {w u : Nat} {a : Int} (h : u ≠ w) : posI (movJ ws pos w a) u = posI pos u := by
  unfold movJ posI
  rw [List.getElem?_set_ne (fun e => h e.symm)]
theorem posI_mov_eq {ws : List JW} {pos : List Int} {w : Nat} {a : Int} (h : w < pos.length) : posI (movJ ws pos w a) w = tRow (rowP (rowsJ ws w) (posI pos w)) a := by
  unfold movJ
  show ((pos.set w _)[w]?).getD (-1) = _
  rw [List.getElem?_set_self h]
  rfl
/-! ## how far a state is from its ends -/
def depT (ws : List JW) (pos : List Int) : Nat → Nat
  | 0 => 0
  | k + 1 => depT ws pos k + (if 0 ≤ posI pos k then (rowsJ ws k).length - (posI pos k).toNat else 0)
def depJ (ws : List JW) (st : JS) : Nat := depT ws st.1 ws.length
theorem tgt_01 {row : List Int} {q t1 t2 : Int} {r : List Int} (h : row = q :: t1 :: t2 :: r) (a : Int) : tRow row a = t1 ∨ tRow row a = t2 := by
  subst h
  unfold tRow
  split
  · exact .inl rfl
  · exact .inr rfl
theorem depT_mov {ws : List JW} {st : JS} {w : Nat} {a : Int} (h : StOk ws st) (hG : ∀ y ∈ ws, GoodW y.1 y.2.1 y.2.2) (hw : w < ws.length) (h0 : 0 ≤ posI st.1 w) : ∀ k : Nat, (k ≤ w → depT ws (movJ ws st.1 w a) k = depT ws st.1 k) ∧ (w < k → depT ws (movJ ws st.1 w a) k + 1 ≤ depT ws st.1 k) := by
  obtain ⟨q, t1, t2, r, hr, hrj, _, hlt, _, _, _, b1, b2, u1, u2⟩ := place_at h hG hw h0
  intro k
  induction k with
  | zero => exact ⟨fun _ => rfl, fun h => by omega⟩
  | succ k ih =>
    obtain ⟨i1, i2⟩ := ih
    refine ⟨fun hk => ?_, fun hk => ?_⟩
    · unfold depT
      rw [i1 (by omega), posI_mov_ne (by omega)]
    · unfold depT
      by_cases e : k = w
      · subst e
        rw [i1 (Nat.le_refl _), posI_mov_eq (by rw [h.len]; exact hw), if_pos h0]
        have hlt' : posI st.1 k < (rowsJ ws k).length := by rw [hrj]; exact hlt
        have ht : tRow (rowP (rowsJ ws k) (posI st.1 k)) a < 0 ∨ posI st.1 k < tRow (rowP (rowsJ ws k) (posI st.1 k)) a := by
          rcases tgt_01 hr a with e | e
          · rw [e]
            by_cases z : 0 ≤ t1
            · exact .inr (u1 z)
            · exact .inl (by omega)
          · rw [e]
            by_cases z : 0 ≤ t2
            · exact .inr (u2 z)
            · exact .inl (by omega)
        split
        · omega
        · omega
      · rw [posI_mov_ne e]
        have := i2 (by omega)
        omega
theorem depJ_beh {ws : List JW} {sm : Bool} {st : JS} {w : Nat} {a : Int} (h : StOk ws st) (hG : ∀ y ∈ ws, GoodW y.1 y.2.1 y.2.2) (hw : w < ws.length) (h0 : 0 ≤ posI st.1 w) : depJ ws (behJ ws sm st w a) + 1 ≤ depJ ws st :=
  (depT_mov h hG hw h0 ws.length).2 hw
theorem depJ_step {ws : List JW} {sm : Bool} {st : JS} (h : StOk ws st) (hG : ∀ y ∈ ws, GoodW y.1 y.2.1 y.2.2) : ∀ x ∈ stepsJ ws sm st, depJ ws x.2 + 1 ≤ depJ ws st := by
  intro x hx
  obtain ⟨w, ht, ha, e⟩ := steps_mem hx
  obtain ⟨hw, h0⟩ := turn_at h ht
  rw [e]
  exact depJ_beh h hG hw h0
/-! ## what is reached -/
def ValJ (H : Hp) (ws : List JW) (sm : Bool) (sts : List (List Int)) (L : List JS) (i : Nat) (st : JS) (v : V) : Prop := ∃ t, v = .ref t ∧
  ((∃ n : Nat, H t = some (.tup [.non, .int n]) ∧ sts[n]? = some st.1 ∧ st.2 = []) ∨ ∃ (p : Addr) (b : Int) (j : Nat) (sj : JS), H t = some (.tup [.ref p, .int b]) ∧ j < i ∧ L[j]? = some sj ∧ StJ H p sj ∧ (b, st) ∈ stepsJ ws sm sj)
structure EL (H : Hp) (ws : List JW) (sm : Bool) (sts : List (List Int)) (kvs : List NE) (L : List JS) : Prop where
  len : kvs.length = L.length
  at_ : ∀ (i : Nat) e st, kvs[i]? = some e → L[i]? = some st → e.1 = skey st ∧ StJ H e.2.1 st ∧ ValJ H ws sm sts L i st e.2.2
  nd : L.Nodup
section
variable {H H' : Hp} {ws : List JW} {sm : Bool} {sts : List (List Int)} {kvs : List NE} {L : List JS}
theorem ValJ.mono {i : Nat} {st : JS} {v : V} {L' : List JS} (h : ValJ H ws sm sts L i st v) (e : TpK H H') (hL : ∀ (j : Nat) s, L[j]? = some s → L'[j]? = some s) : ValJ H' ws sm sts L' i st v := by
  obtain ⟨t, rfl, ⟨n, h1, h2, h3⟩ | ⟨p, b, j, sj, h1, h2, h3, h4, h5⟩⟩ := h
  · exact ⟨t, rfl, .inl ⟨n, e _ _ h1, h2, h3⟩⟩
  · exact ⟨t, rfl, .inr ⟨p, b, j, sj, e _ _ h1, h2, hL _ _ h3, h4.tpk e, h5⟩⟩
theorem EL.tpk (h : EL H ws sm sts kvs L) (e : TpK H H') : EL H' ws sm sts kvs L := ⟨h.len, fun i x st h1 h2 => let ⟨a, b, c⟩ := h.at_ i x st h1 h2; ⟨a, b.tpk e, c.mono e fun _ _ z => z⟩, h.nd⟩
theorem EL.get (h : EL H ws sm sts kvs L) {i : Nat} {x : NE} (hx : kvs[i]? = some x) : ∃ st, L[i]? = some st ∧ x.1 = skey st ∧ StJ H x.2.1 st ∧ ValJ H ws sm sts L i st x.2.2 := by
  have hi : i < L.length := by rw [← h.len]; exact (List.getElem?_eq_some_iff.mp hx).1
  exact ⟨L[i], List.getElem?_eq_getElem hi, h.at_ i x _ hx (List.getElem?_eq_getElem hi)⟩
theorem EL.keys (h : EL H ws sm sts kvs L) : kvs.map (·.1) = L.map skey := by
  apply List.ext_getElem?
  intro i
  rw [List.getElem?_map, List.getElem?_map]
  cases hx : kvs[i]? with
  | none =>
    have := List.getElem?_eq_none_iff.mp hx
    rw [List.getElem?_eq_none (by rw [← h.len]; exact this)]
    rfl
  | some x =>
    obtain ⟨st, h1, h2, _⟩ := h.get hx
    rw [h1, Option.map_some, Option.map_some, h2]
theorem EL.none_iff (h : EL H ws sm sts kvs L) {st : JS} : nval kvs (skey st) = none ↔ st ∉ L := by
  rw [nval_none_iff, h.keys]
  constructor
  · intro hn hm
    exact hn (List.mem_map.mpr ⟨st, hm, rfl⟩)
  · intro hn hm
    obtain ⟨s, hs, e⟩ := List.mem_map.mp hm
    rw [skey_inj e] at hs
    exact hn hs
theorem EL.val (h : EL H ws sm sts kvs L) {i : Nat} {st : JS} (hs : L[i]? = some st) : ∃ v, nval kvs (skey st) = some v ∧ ValJ H ws sm sts L i st v := by
  have hi : i < kvs.length := by rw [h.len]; exact (List.getElem?_eq_some_iff.mp hs).1
  cases hv : nval kvs (skey st) with
  | none => exact absurd (List.mem_of_getElem? hs) (h.none_iff.mp hv)
  | some v =>
    refine ⟨v, rfl, ?_⟩
    unfold nval at hv
    obtain ⟨x, hx, rfl⟩ := Option.map_eq_some_iff.mp hv
    have hm := List.mem_of_find?_eq_some hx
    have hk : x.1 = skey st := by simpa using List.find?_some hx
    obtain ⟨j, hj⟩ := List.getElem?_of_mem hm
    obtain ⟨st', h1, h2, _, h4⟩ := h.get hj
    have e : st' = st := skey_inj (h2.symm.trans hk)
    subst e
    have ij : j = i := by
      have hjl := (List.getElem?_eq_some_iff.mp h1).1
      exact (List.getElem?_inj hjl h.nd).mp (h1.trans hs.symm)
    subst ij
    exact h4
theorem EL.nil : EL H ws sm sts [] [] := ⟨rfl, fun i e st h => by simp at h, List.nodup_nil⟩
theorem EL.snoc (h : EL H ws sm sts kvs L) {st : JS} {b : Addr} {v : V} (hn : st ∉ L) (hs : StJ H b st) (hv : ValJ H ws sm sts L L.length st v) : EL H ws sm sts (nput kvs (skey st) b v) (L ++ [st]) := by
  have grow : ∀ (j : Nat) s, L[j]? = some s → (L ++ [st])[j]? = some s := fun j s hj => by
    rw [List.getElem?_append_left (List.getElem?_eq_some_iff.mp hj).1]; exact hj
  refine ⟨by unfold nput; rw [List.length_append, List.length_append, h.len]; rfl, fun i x s h1 h2 => ?_, ?_⟩
  · unfold nput at h1
    by_cases hi : i < L.length
    · rw [List.getElem?_append_left (by rw [h.len]; exact hi)] at h1
      rw [List.getElem?_append_left hi] at h2
      obtain ⟨a1, a2, a3⟩ := h.at_ i x s h1 h2
      exact ⟨a1, a2, a3.mono (fun _ _ z => z) grow⟩
    · rw [List.getElem?_append_right (by rw [h.len]; omega), h.len] at h1
      rw [List.getElem?_append_right (by omega)] at h2
      have h0 : i - L.length = 0 := by
        have := (List.getElem?_eq_some_iff.mp h2).1
        rw [List.length_singleton] at this
        omega
      have ei : i = L.length := by omega
      rw [h0] at h1 h2
      cases h1
      cases h2
      refine ⟨rfl, hs, ?_⟩
      rw [ei]
      exact hv.mono (fun _ _ z => z) grow
  · rw [List.nodup_append]
    refine ⟨h.nd, List.nodup_cons.mpr ⟨by simp, List.nodup_nil⟩, fun x hx y hy e => ?_⟩
    rw [List.mem_singleton.mp hy] at e
    subst e
    exact hn hx
end
/-! ## how much is left to do -/
/-- everything that is reached is in L, and nothing else -/
def FullL (H : Hp) (ws : List JW) (sm : Bool) (sts : List (List Int)) (kvs : List NE) (L : List JS) : Prop := EL H ws sm sts kvs L ∧ (∀ s ∈ sts, (s, []) ∈ L) ∧ ∀ st ∈ L, ∀ x ∈ stepsJ ws sm st, x.2 ∈ L
theorem FullL.tpk {H H' : Hp} {ws : List JW} {sm : Bool} {sts : List (List Int)} {kvs : List NE} {L : List JS} (h : FullL H ws sm sts kvs L) (e : TpK H H') : FullL H' ws sm sts kvs L := ⟨h.1.tpk e, h.2⟩
/-- a list of states -/
def WL (H : Hp) (ps : List Addr) (l : List JS) : Prop := ps.length = l.length ∧ ∀ (i : Nat) p s, ps[i]? = some p → l[i]? = some s → StJ H p s
theorem WL.tpk {H H' : Hp} {ps : List Addr} {l : List JS} (h : WL H ps l) (e : TpK H H') : WL H' ps l := ⟨h.1, fun i p s h1 h2 => (h.2 i p s h1 h2).tpk e⟩
theorem WL.snoc {H : Hp} {ps : List Addr} {l : List JS} {p : Addr} {s : JS} (h : WL H ps l) (hs : StJ H p s) : WL H (ps ++ [p]) (l ++ [s]) := by
  refine ⟨by rw [List.length_append, List.length_append, h.1]; rfl, fun i x y h1 h2 => ?_⟩
  by_cases hi : i < ps.length
  · rw [List.getElem?_append_left hi] at h1
    rw [List.getElem?_append_left (by rw [← h.1]; exact hi)] at h2
    exact h.2 i x y h1 h2
  · rw [List.getElem?_append_right (by omega)] at h1
    rw [List.getElem?_append_right (by rw [← h.1]; omega), ← h.1] at h2
    have h0 : i - ps.length = 0 := by
      have := (List.getElem?_eq_some_iff.mp h1).1
      rw [List.length_singleton] at this
      omega
    rw [h0] at h1 h2
    cases h1
    cases h2
    exact hs
end L2
namespace L2
open PySem PySem.Spec PyProof.Rows
end L2
namespace L2
open PySem PySem.Spec PyProof.Rows
/-! ## pupils in webs, and the final states of the relation same -/
theorem ask_own {rows : List (List Int)} {e o z : Int} (G : GoodW rows e o) (h0 : 0 ≤ z) (h1 : z < rows.length) : AskP rows z (qP rows z) := by
  obtain ⟨q, t1, t2, r, hr1, hr2, _⟩ := row3 G h0 h1
  refine ⟨z.toNat, t1 :: t2 :: r, ?_, ?_⟩
  · rw [show ((z.toNat : Nat) : Int) = z by omega]; exact .refl
  · rw [hr2, hr1]
    have : qP rows z = q := by unfold qP; rw [hr1]; rfl
    rw [this]
theorem ask_tgt {rows : List (List Int)} {e o z a t : Int} (G : GoodW rows e o) (h0 : 0 ≤ z) (h1 : z < rows.length) (h : AskP rows (tRow (rowP rows z) a) t) : AskP rows z t := by
  obtain ⟨q, t1, t2, r, hr1, hr2, _⟩ := row3 G h0 h1
  have hz : ((z.toNat : Nat) : Int) = z := by omega
  rw [← hz]
  refine (AskP.node (j := z.toNat) (by rw [hr2, hr1])).mpr ?_
  rcases tgt_01 hr1 a with e | e
  · rw [e] at h; exact .inr (.inl h)
  · rw [e] at h; exact .inr (.inr h)
theorem ask_not {rows : List (List Int)} {e o z a : Int} (G : GoodW rows e o) (h0 : 0 ≤ z) (h1 : z < rows.length) : ¬ AskP rows (tRow (rowP rows z) a) (qP rows z) := by
  intro h
  obtain ⟨q, t1, t2, r, hr1, hr2, _⟩ := row3 G h0 h1
  have hq : qP rows z = q := by unfold qP; rw [hr1]; rfl
  obtain ⟨A, hA⟩ := G.cert
  obtain ⟨c1, c2⟩ := hA z.toNat q (t1 :: t2 :: r) (by rw [hr2, hr1])
  obtain ⟨i, r', hl, hi⟩ := h
  rw [hq] at hi
  generalize ht : tRow (rowP rows z) a = t at hl
  have htm : t ∈ t1 :: t2 :: r := by
    rcases tgt_01 hr1 a with e | e
    · rw [← ht, e]; simp
    · rw [← ht, e]; simp
  have hS : ∀ j : Int, Led rows t j → 0 ≤ j → 0 ≤ t ∧ ∀ x, A j.toNat x → A t.toNat x := by
    intro j hj
    induction hj with
    | refl => exact fun h0 => ⟨h0, fun x hx => hx⟩
    | @step j u q' a' b' r'' _ hj0 hjr hu ih =>
      intro hu0
      obtain ⟨k1, k2⟩ := ih hj0
      refine ⟨k1, fun x hx => k2 x ?_⟩
      have := (hA j.toNat q' (a' :: b' :: r'') hjr).2 u (by rcases hu with e | e <;> rw [e] <;> simp) hu0
      exact this.2 x hx
  obtain ⟨k1, k2⟩ := hS i hl (Int.natCast_nonneg i)
  have := k2 q (by rw [Int.toNat_natCast]; exact (hA i q r' hi).1)
  exact (c2 t htm k1).1 this
/-! what is told -/
theorem frc_told {ans : List Int} {w : Nat} {c : Int} (h : frcJ true ans w = some c) : c ∈ ans ∧ c ≠ -1 := by
  unfold frcJ at h
  split at h
  · unfold frc0 at h
    rw [if_pos rfl] at h
    obtain ⟨h1, h2⟩ := List.mem_filter.mp (List.mem_of_head? h)
    exact ⟨h1, by simpa using h2⟩
  · cases h
theorem frc_some {ans : List Int} {w : Nat} {a : Int} (hw : ans[w]? = some (-1)) (ha : a ∈ ans) (hn : a ≠ -1) : ∃ c, frcJ true ans w = some c := by
  unfold frcJ
  rw [if_pos hw]
  unfold frc0
  rw [if_pos rfl]
  cases hf : ans.filter (fun a => a != -1) with
  | nil =>
    have k : a ∈ ans.filter (fun a => a != -1) := List.mem_filter.mpr ⟨ha, by simpa using hn⟩
    rw [hf] at k
    simp at k
  | cons c r => exact ⟨c, rfl⟩
theorem ans_told {mem : List JE} {q a : Int} {n : Nat} (h : a ∈ ansTo mem q n) (hn : a ≠ -1) : ∃ m ∈ mem, m.1 = q ∧ a ∈ m.2 := by
  unfold ansTo at h
  cases hf : mem.find? (fun m => m.1 == q) with
  | none =>
    rw [hf] at h
    exact absurd (List.eq_of_mem_replicate h) hn
  | some m =>
    rw [hf] at h
    exact ⟨m, List.mem_of_find?_eq_some hf, by simpa using List.find?_some hf, h⟩
theorem ans_of {mem : List JE} (hp : mem.Pairwise fun m n => m.1 < n.1) {m : JE} (hm : m ∈ mem) (n : Nat) : ansTo mem m.1 n = m.2 := by
  unfold ansTo
  cases hf : mem.find? (fun m' => m'.1 == m.1) with
  | none =>
    have := List.find?_eq_none.mp hf m hm
    simp at this
  | some m' =>
    have h1 := List.mem_of_find?_eq_some hf
    have h2 : m'.1 = m.1 := by simpa using List.find?_some hf
    have : m' = m := by
      obtain ⟨i, hi⟩ := List.getElem?_of_mem h1
      obtain ⟨j, hj⟩ := List.getElem?_of_mem hm
      obtain ⟨il, ei⟩ := List.getElem?_eq_some_iff.mp hi
      obtain ⟨jl, ej⟩ := List.getElem?_eq_some_iff.mp hj
      rw [List.pairwise_iff_getElem] at hp
      rcases Nat.lt_trichotomy i j with k | k | k
      · have := hp i j il jl k
        rw [ei, ej, h2] at this
        omega
      · subst k
        rw [← ei, ← ej]
      · have := hp j i jl il k
        rw [ei, ej, h2] at this
        omega
    rw [this]
    rfl
theorem rem_mem {mem : List JE} {q a : Int} {n w : Nat} {m : JE} : m ∈ remJ mem q n w a ↔ (m ∈ mem ∧ m.1 ≠ q) ∨ m = (q, (ansTo mem q n).set w a) := by
  unfold remJ
  simp only [List.mem_append, List.mem_filter, List.mem_singleton, decide_eq_true_eq]
  constructor
  · rintro ((⟨h1, h2⟩ | h) | ⟨h1, h2⟩)
    · exact .inl ⟨h1, by omega⟩
    · exact .inr h
    · exact .inl ⟨h1, by omega⟩
  · rintro (⟨h1, h2⟩ | h)
    · rcases Int.lt_or_gt_of_ne h2 with k | k
      · exact .inl (.inl ⟨h1, k⟩)
      · exact .inr ⟨h1, k⟩
    · exact .inl (.inr h)
/-! ### each pupil's ends are reached -/
/-! ### and nothing else -/
inductive PathP (rows : List (List Int)) (h : Int → Option Int) (z : Int) : Int → Prop
  | refl : PathP rows h z z
  | snoc {y b : Int} : PathP rows h z y → 0 ≤ y → h (qP rows y) = some b → (b = 0 ∨ b = 1) → PathP rows h z (tRow (rowP rows y) b)
theorem PathP.mono {rows : List (List Int)} {h h' : Int → Option Int} {z y : Int} (hh : ∀ q b, h q = some b → h' q = some b) (p : PathP rows h z y) : PathP rows h' z y := by
  induction p with
  | refl => exact .refl
  | snoc _ h0 h1 h2 ih => exact .snoc ih h0 (hh _ _ h1) h2
structure HistS (ws : List JW) (s : List Int) (st : JS) (h : Int → Option Int) : Prop where
  p : ∀ w, w < ws.length → PathP (rowsJ ws w) h (posI s w) (posI st.1 w)
  b : ∀ m ∈ st.2, ∀ a ∈ m.2, a ≠ -1 → h m.1 = some a
  c : ∀ q b w, h q = some b → w < ws.length → AskP (rowsJ ws w) (posI st.1 w) q → ∃ m ∈ st.2, m.1 = q ∧ ∃ a ∈ m.2, a ≠ -1
  d : ∀ m ∈ st.2, ∀ w, w < ws.length → AskP (rowsJ ws w) (posI st.1 w) m.1 → m.2[w]? = some (-1)
theorem rowsJ_of {ws : List JW} {w : Nat} (h : w < ws.length) : rowsJ ws w = (ws[w]).1 := by unfold rowsJ; rw [List.getElem?_eq_getElem h]; rfl
theorem HistS.step {ws : List JW} {s : List Int} {st : JS} {h : Int → Option Int} {w : Nat} {a : Int} (hG : ∀ y ∈ ws, GoodW y.1 y.2.1 y.2.2) (ok : StOk ws st) (hi : HistS ws s st h) (ht : turnJ st.1 = some w) (ha : a ∈ ansJ ws true st w) : HistS ws s (behJ ws true st w a) (fun q' => if q' = qJ ws st.1 w then some a else h q') ∧ ∀ b, h (qJ ws st.1 w) = some b → b = a := by
  obtain ⟨hwl, h0⟩ := turn_at ok ht
  have Gw := hG _ (List.getElem_mem hwl)
  have hrw := rowsJ_of hwl
  have hlt : posI st.1 w < (rowsJ ws w).length := by rw [hrw]; exact (ok.pos w _ (List.getElem?_eq_getElem hwl)).2
  have a01 := ansJ_01 ok _ ha
  generalize hq : qJ ws st.1 w = q at ha ⊢
  have hqP : qP (rowsJ ws w) (posI st.1 w) = q := hq
  have own : AskP (rowsJ ws w) (posI st.1 w) q := by rw [← hqP, hrw]; rw [hrw] at hlt; exact ask_own Gw h0 hlt
  have nown : ¬ AskP (rowsJ ws w) (posI (movJ ws st.1 w a) w) q := by
    rw [posI_mov_eq (by rw [ok.len]; exact hwl), ← hqP, hrw]
    rw [hrw] at hlt
    exact ask_not Gw h0 hlt
  have back : ∀ u t, u < ws.length → AskP (rowsJ ws u) (posI (movJ ws st.1 w a) u) t → AskP (rowsJ ws u) (posI st.1 u) t := fun u t hu hk => by
    by_cases e : u = w
    · subst e
      rw [posI_mov_eq (by rw [ok.len]; exact hwl)] at hk
      rw [hrw] at hk hlt ⊢
      exact ask_tgt Gw h0 hlt hk
    · rw [posI_mov_ne e] at hk; exact hk
  have hqs : qJ ws st.1 w = q := hq
  -- what was told forces the answer
  have old : ∀ b, h q = some b → b = a := fun b hb => by
    obtain ⟨m, m1, m2, c, c1, c2⟩ := hi.c q b w hb hwl own
    have hmw := hi.d m m1 w hwl (by rw [m2]; exact own)
    have ea : ansTo st.2 q st.1.length = m.2 := by rw [← m2]; exact ans_of ok.asc m1 _
    obtain ⟨c', hc'⟩ := frc_some hmw c1 c2
    obtain ⟨k1, k2⟩ := frc_told hc'
    have e1 := hi.b m m1 c' k1 k2
    rw [m2, hb] at e1
    unfold ansJ at ha
    rw [hqs, ea, hc'] at ha
    have ha : a ∈ [c'] := ha
    rw [List.mem_singleton.mp ha]
    exact Option.some.inj e1
  have toldq : ∀ c ∈ ansTo st.2 q st.1.length, c ≠ -1 → c = a := fun c hc hn => by
    obtain ⟨m, m1, m2, m3⟩ := ans_told hc hn
    have := hi.b m m1 c m3 hn
    rw [m2] at this
    exact old c this
  have ansl : (ansTo st.2 q st.1.length).length = ws.length := by rw [ansTo_len fun m hm => (ok.ent m hm).2.2.1.trans ok.len.symm, ok.len]
  -- nobody who can still be asked has answered
  have ansn : ∀ u, u < ws.length → AskP (rowsJ ws u) (posI st.1 u) q → (ansTo st.2 q st.1.length)[u]? = some (-1) := fun u hu hk => by
    unfold ansTo
    cases hf : st.2.find? (fun m => m.1 == q) with
    | none =>
      show (List.replicate st.1.length (-1))[u]? = some (-1)
      rw [List.getElem?_replicate, if_pos (by rw [ok.len]; exact hu)]
    | some m =>
      have h2 : m.1 = q := by simpa using List.find?_some hf
      exact hi.d m (List.mem_of_find?_eq_some hf) u hu (by rw [h2]; exact hk)
  have ext : ∀ q' b, h q' = some b → (if q' = q then some a else h q') = some b := fun q' b hb => by
    by_cases e : q' = q
    · subst e; rw [if_pos rfl, old b hb]
    · rw [if_neg e]; exact hb
  have wset : ((ansTo st.2 q st.1.length).set w a)[w]? = some a := List.getElem?_set_self (by rw [ansl]; exact hwl)
  have an1 : a ≠ -1 := by rcases a01 with e | e <;> rw [e] <;> decide
  refine ⟨⟨fun u hu => ?_, fun m hm c hc hn => ?_, fun q' b u hb hu hk => ?_, fun m hm u hu hk => ?_⟩, old⟩
  · show PathP (rowsJ ws u) _ (posI s u) (posI (movJ ws st.1 w a) u)
    by_cases e : u = w
    · subst e
      rw [posI_mov_eq (by rw [ok.len]; exact hwl)]
      exact .snoc ((hi.p u hu).mono ext) h0 (by rw [hqP, if_pos rfl]) a01
    · rw [posI_mov_ne e]
      exact (hi.p u hu).mono ext
  · have hm : m ∈ remJ st.2 (qJ ws st.1 w) st.1.length w a := (List.mem_filter.mp hm).1
    rw [hqs] at hm
    rcases rem_mem.mp hm with ⟨k, k2⟩ | rfl
    · show (if m.1 = q then some a else h m.1) = some c
      rw [if_neg k2]
      exact hi.b m k c hc hn
    · show (if q = q then some a else h q) = some c
      rw [if_pos rfl]
      rcases List.mem_or_eq_of_mem_set hc with k | k
      · rw [toldq c k hn]
      · rw [k]
  · have hk : AskP (rowsJ ws u) (posI (movJ ws st.1 w a) u) q' := hk
    have hb : (if q' = q then some a else h q') = some b := hb
    have hbk := back u q' hu hk
    by_cases e : q' = q
    · subst e
      have euw : u ≠ w := fun z => by subst z; exact nown hk
      refine ⟨(q', (ansTo st.2 q' st.1.length).set w a), List.mem_filter.mpr ⟨by rw [hqs]; exact rem_mem.mpr (.inr rfl), ?_⟩, rfl, a, List.mem_of_getElem? wset, an1⟩
      refine List.any_eq_true.mpr ⟨u, List.mem_range.mpr (by show u < (movJ ws st.1 w a).length; unfold movJ; rw [List.length_set, ok.len]; exact hu), ?_⟩
      obtain ⟨c, hc⟩ := frc_some (w := u) (ans := (ansTo st.2 q' st.1.length).set w a) (by rw [List.getElem?_set_ne (fun z => euw z.symm)]; exact ansn u hu hbk) (List.mem_of_getElem? wset) an1
      rw [Bool.and_eq_true]
      exact ⟨askB_iff.mpr hk, by rw [hc]; rfl⟩
    · rw [if_neg e] at hb
      obtain ⟨m, m1, m2, c, c1, c2⟩ := hi.c q' b u hb hu hbk
      refine ⟨m, List.mem_filter.mpr ⟨by rw [hqs]; exact rem_mem.mpr (.inl ⟨m1, by rw [m2]; exact e⟩), ?_⟩, m2, c, c1, c2⟩
      refine List.any_eq_true.mpr ⟨u, List.mem_range.mpr (by show u < (movJ ws st.1 w a).length; unfold movJ; rw [List.length_set, ok.len]; exact hu), ?_⟩
      obtain ⟨c', hc'⟩ := frc_some (hi.d m m1 u hu (by rw [m2]; exact hbk)) c1 c2
      rw [Bool.and_eq_true]
      exact ⟨askB_iff.mpr (by rw [m2]; exact hk), by rw [hc']; rfl⟩
  · have hk : AskP (rowsJ ws u) (posI (movJ ws st.1 w a) u) m.1 := hk
    have hm : m ∈ remJ st.2 (qJ ws st.1 w) st.1.length w a := (List.mem_filter.mp hm).1
    rw [hqs] at hm
    have hbk := back u m.1 hu hk
    rcases rem_mem.mp hm with ⟨k, _⟩ | rfl
    · exact hi.d m k u hu hbk
    · have euw : u ≠ w := fun z => by subst z; exact nown hk
      show ((ansTo st.2 q st.1.length).set w a)[u]? = some (-1)
      rw [List.getElem?_set_ne (fun z => euw z.symm)]
      exact ansn u hu hbk
end L2
namespace L2
open PySem PySem.Spec PyProof.Rows
theorem hu0 {A : Around} {k : Nat} (hr : Room k A) : A.units < cLine := Nat.lt_of_le_of_lt (Nat.le_add_right _ 64) hr.units
/-! ## law side -/
/-! sets of questions by number -/
theorem Fr.tpk {p c : Addr} {H H' : Hp} (e : Fr p c H H') : TpK H H' := fun _ _ h => e.tup h
theorem RowsAt.tpk {H H' : Hp} {as : List Addr} {rows : List (List Int)} (h : RowsAt H as rows) (e : TpK H H') : RowsAt H' as rows := ⟨h.1, fun i a row h1 h2 => e _ _ (h.2 i a row h1 h2)⟩
end L2
namespace L2
open PySem PySem.Spec PyProof.Rows
/-! ## trails -/
inductive TrJ (ws : List JW) (sm : Bool) : JS → List (List Int) → JS → Prop
  | nil {st : JS} : TrJ ws sm st [] st
  | cons {st st' st2 : JS} {b : Int} {rows : List (List Int)} {w : Nat} : turnJ st.1 = some w → (b, st') ∈ stepsJ ws sm st → TrJ ws sm st' rows st2 → TrJ ws sm st ([(w : Int), qJ ws st.1 w, b] :: rows) st2
theorem TrJ.len {ws : List JW} {sm : Bool} {st st2 : JS} {rows : List (List Int)} (hG : ∀ y ∈ ws, GoodW y.1 y.2.1 y.2.2) (h : TrJ ws sm st rows st2) : StOk ws st → rows.length ≤ depJ ws st := by
  induction h with
  | nil => exact fun _ => Nat.zero_le _
  | @cons st st' st2 b rows w h1 h2 _ ih =>
    intro ok
    have := depJ_step ok hG _ h2
    have h3 := ih (steps_ok ok hG _ h2).1
    rw [List.length_cons]
    have : depJ ws st' + 1 ≤ depJ ws st := this
    omega
end L2
namespace L2
open PySem PySem.Spec PyProof.Rows
/-! ## the relation within -/
theorem ans_told2 {mem : List JE} {q a : Int} {n u : Nat} (h : (ansTo mem q n)[u]? = some a) (hn : a ≠ -1) : ∃ m ∈ mem, m.1 = q ∧ m.2[u]? = some a := by
  unfold ansTo at h
  cases hf : mem.find? (fun m => m.1 == q) with
  | none =>
    rw [hf] at h
    exact absurd (List.eq_of_mem_replicate (List.mem_of_getElem? h)) hn
  | some m =>
    rw [hf] at h
    exact ⟨m, List.mem_of_find?_eq_some hf, by simpa using List.find?_some hf, h⟩
/-- the answer of the one that forces the other -/
def vv (v : Nat) : Int := if v = 0 then 1 else 0
theorem frcW {ans : List Int} {v : Nat} (hv : v < 2) (h1 : ans[1 - v]? = some (-1)) (h2 : ans[v]? = some (vv v)) : frcJ false ans (1 - v) = some (vv v) := by
  have : v = 0 ∨ v = 1 := by omega
  rcases this with rfl | rfl
  · have h1 : ans[1]? = some (-1) := h1
    have h2 : ans[0]? = some 1 := h2
    show frcJ false ans 1 = some 1
    unfold frcJ frc0
    rw [if_pos h1, if_neg Bool.false_ne_true, if_pos ⟨rfl, h2⟩]
  · have h1 : ans[0]? = some (-1) := h1
    have h2 : ans[1]? = some 0 := h2
    show frcJ false ans 0 = some 0
    unfold frcJ frc0
    rw [if_pos h1, if_neg Bool.false_ne_true, if_neg (fun z => absurd z.1 (by decide)), if_pos ⟨rfl, h2⟩]
structure HistW (ws : List JW) (s : List Int) (st : JS) (h : Nat → Int → Option Int) : Prop where
  p : ∀ w, w < ws.length → PathP (rowsJ ws w) (h w) (posI s w) (posI st.1 w)
  b : ∀ m ∈ st.2, ∀ u a, m.2[u]? = some a → a ≠ -1 → h u m.1 = some a
  c : ∀ v q, v < 2 → h v q = some (vv v) → AskP (rowsJ ws (1 - v)) (posI st.1 (1 - v)) q → ∃ m ∈ st.2, m.1 = q ∧ m.2[v]? = some (vv v)
  d : ∀ m ∈ st.2, ∀ w, w < ws.length → AskP (rowsJ ws w) (posI st.1 w) m.1 → m.2[w]? = some (-1)
  n : ∀ w q, w < ws.length → AskP (rowsJ ws w) (posI st.1 w) q → h w q = none
  k : ∀ q, ¬ (h 0 q = some 1 ∧ h 1 q = some 0)
theorem HistW.step {ws : List JW} {s : List Int} {st : JS} {h : Nat → Int → Option Int} {w : Nat} {a : Int} (hG : ∀ y ∈ ws, GoodW y.1 y.2.1 y.2.2) (h2 : ws.length = 2) (ok : StOk ws st) (hi : HistW ws s st h) (ht : turnJ st.1 = some w) (ha : a ∈ ansJ ws false st w) : ∃ h', HistW ws s (behJ ws false st w a) h' ∧ (∀ u q', u ≠ w ∨ q' ≠ qJ ws st.1 w → h' u q' = h u q') ∧ h' w (qJ ws st.1 w) = some a ∧ h w (qJ ws st.1 w) = none := by
  obtain ⟨hwl, h0⟩ := turn_at ok ht
  have Gw := hG _ (List.getElem_mem hwl)
  have hrw := rowsJ_of hwl
  have hlt : posI st.1 w < (rowsJ ws w).length := by rw [hrw]; exact (ok.pos w _ (List.getElem?_eq_getElem hwl)).2
  have a01 := ansJ_01 ok _ ha
  generalize hq : qJ ws st.1 w = q at ha ⊢
  have hqP : qP (rowsJ ws w) (posI st.1 w) = q := hq
  have own : AskP (rowsJ ws w) (posI st.1 w) q := by rw [← hqP, hrw]; rw [hrw] at hlt; exact ask_own Gw h0 hlt
  have nown : ¬ AskP (rowsJ ws w) (posI (movJ ws st.1 w a) w) q := by
    rw [posI_mov_eq (by rw [ok.len]; exact hwl), ← hqP, hrw]
    rw [hrw] at hlt
    exact ask_not Gw h0 hlt
  have back : ∀ u t, u < ws.length → AskP (rowsJ ws u) (posI (movJ ws st.1 w a) u) t → AskP (rowsJ ws u) (posI st.1 u) t := fun u t hu hk => by
    by_cases e : u = w
    · subst e
      rw [posI_mov_eq (by rw [ok.len]; exact hwl)] at hk
      rw [hrw] at hk hlt ⊢
      exact ask_tgt Gw h0 hlt hk
    · rw [posI_mov_ne e] at hk; exact hk
  have hqs : qJ ws st.1 w = q := hq
  have ansl : (ansTo st.2 q st.1.length).length = ws.length := by rw [ansTo_len fun m hm => (ok.ent m hm).2.2.1.trans ok.len.symm, ok.len]
  have ansn : ∀ u, u < ws.length → AskP (rowsJ ws u) (posI st.1 u) q → (ansTo st.2 q st.1.length)[u]? = some (-1) := fun u hu hk => by
    unfold ansTo
    cases hf : st.2.find? (fun m => m.1 == q) with
    | none =>
      show (List.replicate st.1.length (-1))[u]? = some (-1)
      rw [List.getElem?_replicate, if_pos (by rw [ok.len]; exact hu)]
    | some m =>
      have h2 : m.1 = q := by simpa using List.find?_some hf
      exact hi.d m (List.mem_of_find?_eq_some hf) u hu (by rw [h2]; exact hk)
  have hnw : h w q = none := hi.n w q hwl own
  -- what the other said forces
  have frcd : ∀ v, v < 2 → w = 1 - v → h v q = some (vv v) → a = vv v := fun v hv hwv hb => by
    obtain ⟨m, m1, m2, m3⟩ := hi.c v q hv hb (by rw [← hwv]; exact own)
    have hmw := hi.d m m1 w hwl (by rw [m2]; exact own)
    have ea : ansTo st.2 q st.1.length = m.2 := by rw [← m2]; exact ans_of ok.asc m1 _
    have hf := frcW hv (by rw [← hwv]; exact hmw) m3
    unfold ansJ at ha
    rw [hqs, ea, hwv, hf] at ha
    have ha : a ∈ [vv v] := ha
    exact List.mem_singleton.mp ha
  have wset : ((ansTo st.2 q st.1.length).set w a)[w]? = some a := List.getElem?_set_self (by rw [ansl]; exact hwl)
  have an1 : a ≠ -1 := by rcases a01 with e | e <;> rw [e] <;> decide
  -- the new history
  have hw' : ∀ u q', u ≠ w ∨ q' ≠ q → (fun u q' => if u = w ∧ q' = q then some a else h u q') u q' = h u q' := fun u q' z => by
    show (if u = w ∧ q' = q then some a else h u q') = _
    rw [if_neg (fun k => z.elim (fun z => z k.1) fun z => z k.2)]
  have hwq : (fun u q' => if u = w ∧ q' = q then some a else h u q') w q = some a := by
    show (if w = w ∧ q = q then some a else h w q) = _
    rw [if_pos ⟨rfl, rfl⟩]
  generalize (fun u q' => if u = w ∧ q' = q then some a else h u q') = h' at hw' hwq
  have inm : ∀ v q', v < 2 → (∃ m, m ∈ remJ st.2 q st.1.length w a ∧ m.1 = q' ∧ m.2[v]? = some (vv v) ∧ m.2[1 - v]? = some (-1)) → AskP (rowsJ ws (1 - v)) (posI (movJ ws st.1 w a) (1 - v)) q' → ∃ m ∈ (behJ ws false st w a).2, m.1 = q' ∧ m.2[v]? = some (vv v) := fun v q' hv ⟨m, m1, m2, m3, m4⟩ hk => by
    refine ⟨m, List.mem_filter.mpr ⟨by rw [hqs]; exact m1, ?_⟩, m2, m3⟩
    refine List.any_eq_true.mpr ⟨1 - v, List.mem_range.mpr (by show 1 - v < (movJ ws st.1 w a).length; unfold movJ; rw [List.length_set, ok.len, h2]; omega), ?_⟩
    rw [Bool.and_eq_true]
    exact ⟨askB_iff.mpr (by rw [m2]; exact hk), by rw [frcW hv m4 m3]; rfl⟩
  refine ⟨h', ⟨fun u hu => ?_, fun m hm u c hc hn => ?_, fun v q' hv hb hk => ?_, fun m hm u hu hk => ?_, fun u q' hu hk => ?_, fun q' => ?_⟩, hw', hwq, hnw⟩
  · show PathP (rowsJ ws u) _ (posI s u) (posI (movJ ws st.1 w a) u)
    by_cases e : u = w
    · subst e
      rw [posI_mov_eq (by rw [ok.len]; exact hwl)]
      refine .snoc ((hi.p u hu).mono fun q' b hb => ?_) h0 (by rw [hqP]; exact hwq) a01
      by_cases e : q' = q
      · subst e
        rw [hnw] at hb
        cases hb
      · rw [hw' _ _ (.inr e)]; exact hb
    · rw [posI_mov_ne e]
      exact (hi.p u hu).mono fun q' b hb => by rw [hw' _ _ (.inl e)]; exact hb
  · have hm : m ∈ remJ st.2 (qJ ws st.1 w) st.1.length w a := (List.mem_filter.mp hm).1
    rw [hqs] at hm
    rcases rem_mem.mp hm with ⟨k, k2⟩ | rfl
    · rw [hw' _ _ (.inr k2)]
      exact hi.b m k u c hc hn
    · have hc : ((ansTo st.2 q st.1.length).set w a)[u]? = some c := hc
      by_cases e : u = w
      · subst e
        rw [wset] at hc
        cases hc
        exact hwq
      · rw [List.getElem?_set_ne (fun z => e z.symm)] at hc
        obtain ⟨m, m1, m2, m3⟩ := ans_told2 hc hn
        have := hi.b m m1 u c m3 hn
        rw [m2] at this
        show h' u q = some c
        rw [hw' _ _ (.inl e)]
        exact this
  · have hk : AskP (rowsJ ws (1 - v)) (posI (movJ ws st.1 w a) (1 - v)) q' := hk
    have hul : 1 - v < ws.length := by omega
    have hbk := back (1 - v) q' hul hk
    refine inm v q' hv ?_ hk
    by_cases e : q' = q
    · subst e
      have evw : v = w := by
        refine Classical.byContradiction fun z => ?_
        have : 1 - v = w := by omega
        rw [this] at hk
        exact nown hk
      subst evw
      rw [hwq] at hb
      have hav := Option.some.inj hb
      refine ⟨(q', (ansTo st.2 q' st.1.length).set v a), rem_mem.mpr (.inr rfl), rfl, by rw [← hav]; exact wset, ?_⟩
      show ((ansTo st.2 q' st.1.length).set v a)[1 - v]? = some (-1)
      rw [List.getElem?_set_ne (by omega)]
      exact ansn _ hul hbk
    · rw [hw' _ _ (.inr e)] at hb
      obtain ⟨m, m1, m2, m3⟩ := hi.c v q' hv hb hbk
      exact ⟨m, rem_mem.mpr (.inl ⟨m1, by rw [m2]; exact e⟩), m2, m3, hi.d m m1 _ hul (by rw [m2]; exact hbk)⟩
  · have hk : AskP (rowsJ ws u) (posI (movJ ws st.1 w a) u) m.1 := hk
    have hm : m ∈ remJ st.2 (qJ ws st.1 w) st.1.length w a := (List.mem_filter.mp hm).1
    rw [hqs] at hm
    have hbk := back u m.1 hu hk
    rcases rem_mem.mp hm with ⟨k, _⟩ | rfl
    · exact hi.d m k u hu hbk
    · have euw : u ≠ w := fun z => by subst z; exact nown hk
      show ((ansTo st.2 q st.1.length).set w a)[u]? = some (-1)
      rw [List.getElem?_set_ne (fun z => euw z.symm)]
      exact ansn u hu hbk
  · have hk : AskP (rowsJ ws u) (posI (movJ ws st.1 w a) u) q' := hk
    have hbk := back u q' hu hk
    have : u ≠ w ∨ q' ≠ q := by
      refine Classical.byContradiction fun z => ?_
      have e1 : u = w := Classical.byContradiction fun k => z (.inl k)
      have e2 : q' = q := Classical.byContradiction fun k => z (.inr k)
      subst e1 e2
      exact nown hk
    rw [hw' _ _ this]
    exact hi.n u q' hu hbk
  · rintro ⟨k1, k2⟩
    have hw01 : w = 0 ∨ w = 1 := by omega
    by_cases e : q' = q
    · subst e
      rcases hw01 with rfl | rfl
      · rw [hwq] at k1
        rw [hw' 1 q' (.inl (by decide))] at k2
        have := frcd 1 (by decide) rfl k2
        have k1 := Option.some.inj k1
        rw [this] at k1
        exact absurd k1 (by decide)
      · rw [hwq] at k2
        rw [hw' 0 q' (.inl (by decide))] at k1
        have := frcd 0 (by decide) rfl k1
        have k2 := Option.some.inj k2
        rw [this] at k2
        exact absurd k2 (by decide)
    · rw [hw' _ _ (.inr e)] at k1 k2
      exact hi.k q' ⟨k1, k2⟩
end L2
namespace L2
open PySem PySem.Spec PyProof.Rows
/-! ## what is answered right on a trail makes a pupil who comes there -/
end L2
namespace L2
open PySem PySem.Spec PyProof.Rows
/-! ## an error that tells a tuple of numbers -/
theorem repr_ints {prog : Program} {w : World} : ∀ {l : List Int} {its : List Value}, Vals (l.map V.int) its → (∀ i ∈ l, Bd i) → ReprAll prog w its (l.map fun i => (toString i : Str))
  | [], _, r, _ => by
    cases r
    exact .nil
  | i :: l, _, r, h => by
    cases r with
    | cons r1 r2 =>
      obtain ⟨t, rfl⟩ := r1
      exact .cons (ReprIs.int t (h i List.mem_cons_self).log) (repr_ints r2 fun z hz => h z (List.mem_cons_of_mem _ hz))
theorem piled_ints : ∀ {l : List Int}, (∀ i ∈ l, Bd i) → piled (l.map fun i => (toString i : Str)) ≤ l.length * 202
  | [], _ => Nat.zero_le _
  | i :: l, h => by
    have ih := piled_ints (l := l) fun z hz => h z (List.mem_cons_of_mem _ hz)
    have h1 : ((toString i : Str)).length ≤ 200 := (h i List.mem_cons_self).len
    rw [List.map_cons, piled_cons, List.length_cons, Nat.succ_mul]
    omega
def tFmtTI (K : PySem.W.Frag) (te : TE) : TE := fun σ H Q => te σ H fun x H1 => ∃ (a : Addr) (l : List Int), x = .ref a ∧ SqT K H1 a (l.map V.int) ∧ l.length ≤ 60 ∧ (∀ i ∈ l, Bd i) ∧ ∀ m : Str, m.length ≤ 60 * 202 + 7 → Q (.str m) H1
theorem pe_fmtTI {X : Cx} {e : Expr} {te : TE} {pos : Pos} {k : Nat} (hr : Room k X.A) (he : PE X e te) : PE X (.FormattedValue e (-1) none pos) (tFmtTI X.K te) := by
  refine ⟨fun pins s σ H Q I h => ?_⟩
  refine wpAny_FormattedValue_plain (thn (he.run pins s σ H _ I h) fun v s1 hv => ?_)
  obtain ⟨x, H1, I1, r1, a, l, rfl, ht, hl, hb, q⟩ := hv
  cases r1
  obtain ⟨its, rv, ⟨o, ho, hcl, n, hd⟩, _⟩ := I1.tuple ht
  have hp := piled_ints hb
  have htx := fmt_text (l.map fun i => (toString i : Str))
  have hu := hr.units
  have h6 : l.length * 202 ≤ 60 * 202 := Nat.mul_le_mul_right _ hl
  have hsz : sizeLine ≥ 100000 := by rw [sizeLine_eq]; omega
  exact fmt_tuple (ts := l.map fun i => (toString i : Str)) (by omega) ho hcl hd (repr_ints rv hb) (by omega) fun m u tk hm => ⟨.str m, H1, I1.tok _, ⟨u, rfl⟩, q m (by omega)⟩
/-- X.__init__(self, ends): the base's __init__, then self.ends = the tuple -/
def spErrT (C : Addr) (f : Str) : Sp := fun vs H Q _ => ∃ (a t : Addr) (l : List Int), vs = [.ref a, .ref t] ∧ H t = some (.tup (l.map V.int)) ∧ l.length ≤ 60 ∧ (∀ i ∈ l, Bd i) ∧ H a = some (exo a C none) ∧
  ∀ dx, H dx = none → dx ≠ a → Q .non (upd (upd H dx (exd dx [(f, .ref t)])) a (exo a C (some dx)))
theorem errT_make {C : Addr} {f : Str} {t : Addr} {l : List Int} {H : Hp} {W : Value → Option Addr → Hp → Prop} {E : XK} (ht : H t = some (.tup (l.map V.int))) (hl : l.length ≤ 60) (hb : ∀ i ∈ l, Bd i) (k : ∀ d, H d = none → W (.ref C) (some d) (upd H d (.xd [(f, .ref t)]))) :
    [V.ref t].length ≤ 1000 ∧ ∀ a, H a = none → spErrT C f (.ref a :: ([.ref t] ++ [])) (upd H a (exo a C none))
      (fun u H2 => u = .non ∧ ∃ (d : Addr) (fs : List (Str × V)), H2 a = some (exo a C (some d)) ∧ H2 d = some (exd d fs) ∧ H d = none ∧ W (.ref C) (some d) (upd (del H2 a) d (.xd fs))) E := by
  refine ⟨by show 1 ≤ 1000; decide, fun a na => ⟨a, t, l, rfl, by rw [upd_ne (ne_of_none ht na)]; exact ht, hl, hb, upd_same, fun dx ndx ne => ⟨rfl, dx, [(f, .ref t)], upd_same, ?_, ?_, ?_⟩⟩⟩
  · rw [upd_ne ne, upd_same]
  · rw [upd_ne ne] at ndx
    exact ndx
  · rw [upd_ne ne] at ndx
    have e : upd (del (upd (upd (upd H a (exo a C none)) dx (exd dx [(f, .ref t)])) a (exo a C (some dx))) a) dx (.xd [(f, .ref t)]) = upd H dx (.xd [(f, .ref t)]) := by
      funext b
      by_cases hb : b = dx
      · subst hb
        rw [upd_same, upd_same]
      · rw [upd_ne hb, upd_ne hb]
        by_cases ha : b = a
        · subst ha
          rw [del_same, na]
        · rw [del_ne ha, upd_ne ha, upd_ne hb, upd_ne ha]
    rw [e]
    exact k dx ndx
end L2
/-! an own error held as a value: made, read, asked for its class -/
namespace L2
open PySem PySem.Spec PyProof.Rows
/-- an error object of the class cls, with its dict at d -/
def ErO (cls : Value) (d : Option Addr) (a : Addr) : HO := .ext fun h => ∃ (oe : Obj) (vs : Array Value), h.get? a = some oe ∧ Zc cls d oe ∧ oe.data = .fields vs
theorem erO_ok {P : Program} {w : World} {H : Hp} {h : Heap} {a : Addr} {cls : Value} {d : Option Addr} {oe : Obj} {vs : Array Value} (e : h.get? a = some oe) (z : Zc cls d oe) (hd : oe.data = .fields vs) : ObjOk P w H h a (ErO cls d a) :=
  ⟨⟨oe, vs, e, z, hd⟩, ⟨oe, e⟩, fun _ _ ⟨o, v, q, r⟩ k => ⟨o, v, k o q, r⟩⟩
/-- the same invariant in a state with the same heap -/
theorem Inv.atS {X : Cx} {pins : List (Addr × Obj)} {σ : St} {H : Hp} {s s' : Shared} (I : Inv X pins σ H s) (e : s'.heap = s.heap) (os : s'.os = s.os) (g : AllBare s'.gens) : Inv X pins σ H s' := by
  obtain ⟨hp, gn, dr, tk, o⟩ := s
  obtain ⟨hp', gn', dr', tk', o'⟩ := s'
  have e : hp' = hp := e
  subst e
  exact ⟨I.ok, os.trans I.os, g, I.base, I.loc, I.cell, I.free, I.freeC, I.pin, I.hok, I.len⟩
/-- made, and kept as a value -/
def tKeep (t : St → Hp → XK → Prop) : TE := fun σ H Q => t σ H fun cls d H1 => ∀ a, H1 a = none → Q (.ref a) (upd H1 a (ErO cls d a))
theorem pe_keep {X : Cx} {e : Expr} {t : St → Hp → XK → Prop} (he : PMk X e t) : PE X e (tKeep t) := by
  refine ⟨fun pins s σ H Q I h => ?_⟩
  refine thn (he pins s σ H _ I h) fun u s1 hu => ?_
  obtain ⟨a, oe, vs, sI, H', cls, d, rfl, J, k, hne, ha, hz, hd, h1, na, os, ag, r, q⟩ := hu
  have J2 := J.laidN (h' := s1.heap) (t' := s1.toks) (o := ErO cls d a) k hne na (erO_ok ha hz hd)
  exact ⟨.ref a, _, J2.atS rfl os ag, rfl, q a na⟩
/-- a field of such -/
def tErf (C : Addr) (f : Str) (te : TE) : TE := fun σ H Q => te σ H fun x H1 => ∃ (a dd : Addr) (fs : List (Str × V)) (v : V), x = .ref a ∧ H1 a = some (ErO (.ref C) (some dd) a) ∧ H1 dd = some (.xd fs) ∧ fs.lookup f = some v ∧ Q v H1
theorem pe_erf {X : Cx} {C : Addr} {e : Expr} {te : TE} {pos : Pos} {n : Str} (T : XfC X.K C) (hno : PySem.W.findIn X.K (.ref C) n = some none) (he : PE X e te) (hb : attributeBase e n X.env (eval e X.env) = eval e X.env := by rfl) :
    PE X (.Attribute e n pos) (tErf C n te) := by
  refine ⟨fun pins s σ H Q I h => ?_⟩
  refine attr_of hb (thn (he.run pins s σ H _ I h) fun u s1 hh => ?_)
  obtain ⟨x, H1, I1, rx, a, dd, fs, v, ex, hEr, ea, l, q⟩ := hh
  subst ex
  obtain rfl : u = Value.ref a := rx
  obtain ⟨⟨oe, vs, ha, hz, hd⟩, _, _⟩ := I1.hok a _ hEr
  have hx : ObjOk X.prog X.w H1 s1.heap dd (.xd fs) := I1.hok dd _ ea
  obtain ⟨mA, hns, hr⟩ := hx
  obtain ⟨od, ho, hl⟩ := lookIn_ns hns
  obtain ⟨u, hu, ru⟩ := RelO.some_of (v := v) (o := mA n) (by rw [← l]; exact hr n)
  have J : PySem.W.InstAt s1.heap a oe C (some od) := ⟨ha, hz.1, by unfold PySem.W.notCls; rw [hd] <;> rfl, by rw [hz.2]; exact ho⟩
  exact HandSPX.exc_get I1.kIn J T.ga T.gg T.exC (PySem.W.findObj_own T.hdC hno rfl (by rw [hl, hu])) (handed_of ru) ⟨v, H1, I1.tok _, ru, q⟩
/-- isinstance(e, c) of such; of one without a dict of its own too -/
def rIsEv (K : PySem.W.Frag) : List V → Hp → VK → Prop := fun xs H Q => ∃ (a D : Addr) (d : Option Addr) (c : V) (cv : Value) (b : Bool), H a = some (ErO (.ref D) d a) ∧ (∀ dd, d = some dd → ∃ fs, H dd = some (.xd fs)) ∧ PySem.W.ErrK K D ∧ xs = [.ref a, c] ∧ ClsV c cv ∧ PySem.W.kitOne K (.ref D) cv = some b ∧ Q (.bl b) H
theorem call_isEv {X : Cx} : CallR X (.builtin "isinstance") (rIsEv X.K) := by
  intro pins s σ H xs us Q I r h
  obtain ⟨a, D, d, c, cv, b, hEr, hdd, Z, rfl, hc, e, q⟩ := h
  cases r with
  | cons rx rr =>
    cases rr with
    | cons rt rr =>
      cases rr
      cases rx
      obtain rfl := hc.eq rt
      obtain ⟨⟨oe, vs, hget, hz, hv⟩, _, _⟩ := I.hok a _ hEr
      have J : ∃ od, PySem.W.InstAt s.heap a oe D od := by
        cases d with
        | none => exact ⟨none, hget, hz.1, by unfold PySem.W.notCls; rw [hv] <;> rfl, by rw [hz.2]; trivial⟩
        | some dd =>
          obtain ⟨fs, hx⟩ := hdd dd rfl
          have hx : ObjOk X.prog X.w H s.heap dd (.xd fs) := I.hok dd _ hx
          obtain ⟨mA, hns, _⟩ := hx
          obtain ⟨od, ho, _⟩ := lookIn_ns hns
          exact ⟨some od, hget, hz.1, by unfold PySem.W.notCls; rw [hv] <;> rfl, by rw [hz.2]; exact ho⟩
      obtain ⟨od, J⟩ := J
      exact PySem.W.kia_one (PySem.W.err_kit Z) I.kIn ⟨oe, od, J⟩ e (fun z => nomatch z) fun tk => ⟨.bl b, H, I.kept (t' := tk) fun _ _ z => z, rfl, q⟩
theorem keep1 {C : Addr} {f : Str} {ok : V → Prop} {v : V} {σ : St} {H : Hp} {i : Nat} {Q : VK} (hi : σ[i]? = some (some v)) (hv : ok v)
    (k : ∀ d b, H d = none → upd H d (.xd [(f, v)]) b = none → Q (.ref b) (upd (upd H d (.xd [(f, v)])) b (ErO (.ref C) (some d) b))) : tKeep (tMkO C (spErr C f ok) [] (tCons (tVar i) tNil)) σ H Q :=
  ⟨v, hi, err_make (W := fun cls d H1 => ∀ a, H1 a = none → Q (.ref a) (upd H1 a (ErO cls d a))) hv fun d nd b nb => k d b nd nb⟩
end L2
namespace K84
open PySem PySem.Spec PyProof.Rows L2 Gg TL HotX L2H RZ
def topS (i : Nat) : Stmt := PySem.Challenge.pw_steppedtests_k84_each_error.main.body.getD i (.Pass ⟨0, 0, 0, 0⟩)
abbrev s_BadEnds_init : Stmt := inClass (topS 2) 0
abbrev N_BadEnds_init : List Str := ["self", "count"]
abbrev P_BadEnds_init : List Str := ["self", "count"]
theorem sc_BadEnds_init : FnScope N_BadEnds_init P_BadEnds_init (defScope s_BadEnds_init) := ⟨rfl, rfl, rfl, by decide +kernel, rfl, by decide +kernel, by decide +kernel⟩
abbrev s_BadNode_init : Stmt := inClass (topS 3) 0
abbrev N_BadNode_init : List Str := ["self", "index"]
abbrev P_BadNode_init : List Str := ["self", "index"]
theorem sc_BadNode_init : FnScope N_BadNode_init P_BadNode_init (defScope s_BadNode_init) := ⟨rfl, rfl, rfl, by decide +kernel, rfl, by decide +kernel, by decide +kernel⟩
abbrev s_BadStart_init : Stmt := inClass (topS 4) 0
abbrev N_BadStart_init : List Str := ["self", "place"]
abbrev P_BadStart_init : List Str := ["self", "place"]
theorem sc_BadStart_init : FnScope N_BadStart_init P_BadStart_init (defScope s_BadStart_init) := ⟨rfl, rfl, rfl, by decide +kernel, rfl, by decide +kernel, by decide +kernel⟩
abbrev s_TwiceAsked_init : Stmt := inClass (topS 5) 0
abbrev N_TwiceAsked_init : List Str := ["self", "index"]
abbrev P_TwiceAsked_init : List Str := ["self", "index"]
theorem sc_TwiceAsked_init : FnScope N_TwiceAsked_init P_TwiceAsked_init (defScope s_TwiceAsked_init) := ⟨rfl, rfl, rfl, by decide +kernel, rfl, by decide +kernel, by decide +kernel⟩
abbrev s_NoNode_init : Stmt := inClass (topS 6) 0
abbrev N_NoNode_init : List Str := ["self", "index"]
abbrev P_NoNode_init : List Str := ["self", "index"]
theorem sc_NoNode_init : FnScope N_NoNode_init P_NoNode_init (defScope s_NoNode_init) := ⟨rfl, rfl, rfl, by decide +kernel, rfl, by decide +kernel, by decide +kernel⟩
abbrev s_NoPosition_init : Stmt := inClass (topS 7) 0
abbrev N_NoPosition_init : List Str := ["self", "place"]
abbrev P_NoPosition_init : List Str := ["self", "place"]
theorem sc_NoPosition_init : FnScope N_NoPosition_init P_NoPosition_init (defScope s_NoPosition_init) := ⟨rfl, rfl, rfl, by decide +kernel, rfl, by decide +kernel, by decide +kernel⟩
abbrev s_BadQuestion_init : Stmt := inClass (topS 8) 0
abbrev N_BadQuestion_init : List Str := ["self", "number"]
abbrev P_BadQuestion_init : List Str := ["self", "number"]
theorem sc_BadQuestion_init : FnScope N_BadQuestion_init P_BadQuestion_init (defScope s_BadQuestion_init) := ⟨rfl, rfl, rfl, by decide +kernel, rfl, by decide +kernel, by decide +kernel⟩
abbrev s_BadMarks_init : Stmt := inClass (topS 9) 0
abbrev N_BadMarks_init : List Str := ["self", "count"]
abbrev P_BadMarks_init : List Str := ["self", "count"]
theorem sc_BadMarks_init : FnScope N_BadMarks_init P_BadMarks_init (defScope s_BadMarks_init) := ⟨rfl, rfl, rfl, by decide +kernel, rfl, by decide +kernel, by decide +kernel⟩
abbrev s_BadLadder_init : Stmt := inClass (topS 10) 0
abbrev N_BadLadder_init : List Str := ["self", "word"]
abbrev P_BadLadder_init : List Str := ["self", "word"]
theorem sc_BadLadder_init : FnScope N_BadLadder_init P_BadLadder_init (defScope s_BadLadder_init) := ⟨rfl, rfl, rfl, by decide +kernel, rfl, by decide +kernel, by decide +kernel⟩
abbrev s_BadCount_init : Stmt := inClass (topS 11) 0
abbrev N_BadCount_init : List Str := ["self", "count"]
abbrev P_BadCount_init : List Str := ["self", "count"]
theorem sc_BadCount_init : FnScope N_BadCount_init P_BadCount_init (defScope s_BadCount_init) := ⟨rfl, rfl, rfl, by decide +kernel, rfl, by decide +kernel, by decide +kernel⟩
abbrev s_BadRelation_init : Stmt := inClass (topS 12) 0
abbrev N_BadRelation_init : List Str := ["self", "word"]
abbrev P_BadRelation_init : List Str := ["self", "word"]
theorem sc_BadRelation_init : FnScope N_BadRelation_init P_BadRelation_init (defScope s_BadRelation_init) := ⟨rfl, rfl, rfl, by decide +kernel, rfl, by decide +kernel, by decide +kernel⟩
abbrev s_BadPositions_init : Stmt := inClass (topS 13) 0
abbrev N_BadPositions_init : List Str := ["self", "index"]
abbrev P_BadPositions_init : List Str := ["self", "index"]
theorem sc_BadPositions_init : FnScope N_BadPositions_init P_BadPositions_init (defScope s_BadPositions_init) := ⟨rfl, rfl, rfl, by decide +kernel, rfl, by decide +kernel, by decide +kernel⟩
abbrev s_NoFinal_init : Stmt := inClass (topS 14) 0
abbrev N_NoFinal_init : List Str := ["self", "ends"]
abbrev P_NoFinal_init : List Str := ["self", "ends"]
theorem sc_NoFinal_init : FnScope N_NoFinal_init P_NoFinal_init (defScope s_NoFinal_init) := ⟨rfl, rfl, rfl, by decide +kernel, rfl, by decide +kernel, by decide +kernel⟩
abbrev s_NotReached_init : Stmt := inClass (topS 15) 0
abbrev N_NotReached_init : List Str := ["self", "index"]
abbrev P_NotReached_init : List Str := ["self", "index"]
theorem sc_NotReached_init : FnScope N_NotReached_init P_NotReached_init (defScope s_NotReached_init) := ⟨rfl, rfl, rfl, by decide +kernel, rfl, by decide +kernel, by decide +kernel⟩
abbrev s_NoEnd_init : Stmt := inClass (topS 16) 0
abbrev N_NoEnd_init : List Str := ["self", "number"]
abbrev P_NoEnd_init : List Str := ["self", "number"]
theorem sc_NoEnd_init : FnScope N_NoEnd_init P_NoEnd_init (defScope s_NoEnd_init) := ⟨rfl, rfl, rfl, by decide +kernel, rfl, by decide +kernel, by decide +kernel⟩
abbrev s_ZeroBottom_init : Stmt := inClass (topS 17) 0
abbrev N_ZeroBottom_init : List Str := ["self"]
abbrev P_ZeroBottom_init : List Str := ["self"]
theorem sc_ZeroBottom_init : FnScope N_ZeroBottom_init P_ZeroBottom_init (defScope s_ZeroBottom_init) := ⟨rfl, rfl, rfl, by decide +kernel, rfl, by decide +kernel, by decide +kernel⟩
abbrev s_NoChance_init : Stmt := inClass (topS 18) 0
abbrev N_NoChance_init : List Str := ["self", "number"]
abbrev P_NoChance_init : List Str := ["self", "number"]
theorem sc_NoChance_init : FnScope N_NoChance_init P_NoChance_init (defScope s_NoChance_init) := ⟨rfl, rfl, rfl, by decide +kernel, rfl, by decide +kernel, by decide +kernel⟩
abbrev s_BadChance_init : Stmt := inClass (topS 19) 0
abbrev N_BadChance_init : List Str := ["self", "number"]
abbrev P_BadChance_init : List Str := ["self", "number"]
theorem sc_BadChance_init : FnScope N_BadChance_init P_BadChance_init (defScope s_BadChance_init) := ⟨rfl, rfl, rfl, by decide +kernel, rfl, by decide +kernel, by decide +kernel⟩
abbrev s_ZeroPolynomial_init : Stmt := inClass (topS 20) 0
abbrev N_ZeroPolynomial_init : List Str := ["self"]
abbrev P_ZeroPolynomial_init : List Str := ["self"]
theorem sc_ZeroPolynomial_init : FnScope N_ZeroPolynomial_init P_ZeroPolynomial_init (defScope s_ZeroPolynomial_init) := ⟨rfl, rfl, rfl, by decide +kernel, rfl, by decide +kernel, by decide +kernel⟩
abbrev s_BadInterval_init : Stmt := inClass (topS 21) 0
abbrev N_BadInterval_init : List Str := ["self"]
abbrev P_BadInterval_init : List Str := ["self"]
theorem sc_BadInterval_init : FnScope N_BadInterval_init P_BadInterval_init (defScope s_BadInterval_init) := ⟨rfl, rfl, rfl, by decide +kernel, rfl, by decide +kernel, by decide +kernel⟩
abbrev s_NoSkip_init : Stmt := inClass (topS 22) 0
abbrev N_NoSkip_init : List Str := ["self", "index"]
abbrev P_NoSkip_init : List Str := ["self", "index"]
theorem sc_NoSkip_init : FnScope N_NoSkip_init P_NoSkip_init (defScope s_NoSkip_init) := ⟨rfl, rfl, rfl, by decide +kernel, rfl, by decide +kernel, by decide +kernel⟩
abbrev s_NotComing_init : Stmt := inClass (topS 23) 0
abbrev N_NotComing_init : List Str := ["self", "index"]
abbrev P_NotComing_init : List Str := ["self", "index"]
theorem sc_NotComing_init : FnScope N_NotComing_init P_NotComing_init (defScope s_NotComing_init) := ⟨rfl, rfl, rfl, by decide +kernel, rfl, by decide +kernel, by decide +kernel⟩
abbrev s_NoPupils_init : Stmt := inClass (topS 24) 0
abbrev N_NoPupils_init : List Str := ["self"]
abbrev P_NoPupils_init : List Str := ["self"]
theorem sc_NoPupils_init : FnScope N_NoPupils_init P_NoPupils_init (defScope s_NoPupils_init) := ⟨rfl, rfl, rfl, by decide +kernel, rfl, by decide +kernel, by decide +kernel⟩
abbrev s_BadLength_init : Stmt := inClass (topS 25) 0
abbrev N_BadLength_init : List Str := ["self", "count"]
abbrev P_BadLength_init : List Str := ["self", "count"]
theorem sc_BadLength_init : FnScope N_BadLength_init P_BadLength_init (defScope s_BadLength_init) := ⟨rfl, rfl, rfl, by decide +kernel, rfl, by decide +kernel, by decide +kernel⟩
abbrev s_AlikePupils_init : Stmt := inClass (topS 26) 0
abbrev N_AlikePupils_init : List Str := ["self", "first", "second"]
abbrev P_AlikePupils_init : List Str := ["self", "first", "second"]
theorem sc_AlikePupils_init : FnScope N_AlikePupils_init P_AlikePupils_init (defScope s_AlikePupils_init) := ⟨rfl, rfl, rfl, by decide +kernel, rfl, by decide +kernel, by decide +kernel⟩
abbrev s_BadLine_init : Stmt := inClass (topS 27) 0
abbrev N_BadLine_init : List Str := ["self", "line"]
abbrev P_BadLine_init : List Str := ["self", "line"]
theorem sc_BadLine_init : FnScope N_BadLine_init P_BadLine_init (defScope s_BadLine_init) := ⟨rfl, rfl, rfl, by decide +kernel, rfl, by decide +kernel, by decide +kernel⟩
abbrev s_Ended_init : Stmt := inClass (topS 28) 0
abbrev N_Ended_init : List Str := ["self"]
abbrev P_Ended_init : List Str := ["self"]
theorem sc_Ended_init : FnScope N_Ended_init P_Ended_init (defScope s_Ended_init) := ⟨rfl, rfl, rfl, by decide +kernel, rfl, by decide +kernel, by decide +kernel⟩
abbrev s_BadDeed_init : Stmt := inClass (topS 29) 0
abbrev N_BadDeed_init : List Str := ["self", "index"]
abbrev P_BadDeed_init : List Str := ["self", "index"]
theorem sc_BadDeed_init : FnScope N_BadDeed_init P_BadDeed_init (defScope s_BadDeed_init) := ⟨rfl, rfl, rfl, by decide +kernel, rfl, by decide +kernel, by decide +kernel⟩
abbrev s_l_pool : Stmt := topS 31
abbrev N_l_pool : List Str := ["_law_script"]
abbrev P_l_pool : List Str := ["_law_script"]
theorem sc_l_pool : FnScope N_l_pool P_l_pool (defScope s_l_pool) := ⟨rfl, rfl, rfl, by decide +kernel, rfl, by decide +kernel, by decide +kernel⟩
abbrev s_l_draw : Stmt := topS 32
abbrev N_l_draw : List Str := ["_law_pool_here", "_law_limit", "_law_cell", "_law_digit", "_law_mixed"]
abbrev P_l_draw : List Str := ["_law_pool_here", "_law_limit"]
theorem sc_l_draw : FnScope N_l_draw P_l_draw (defScope s_l_draw) := ⟨rfl, rfl, rfl, by decide +kernel, rfl, by decide +kernel, by decide +kernel⟩
abbrev s_l_first : Stmt := topS 33
abbrev N_l_first : List Str := ["_law_k", "_law_number", "_law_several", "_law_word", "_law_e"]
abbrev P_l_first : List Str := ["_law_k", "_law_number", "_law_several", "_law_word"]
theorem sc_l_first : FnScope N_l_first P_l_first (defScope s_l_first) := ⟨rfl, rfl, rfl, by decide +kernel, rfl, by decide +kernel, by decide +kernel⟩
abbrev s_l_second : Stmt := topS 34
abbrev N_l_second : List Str := ["_law_k", "_law_number", "_law_several", "_law_word", "_law_e"]
abbrev P_l_second : List Str := ["_law_k", "_law_number", "_law_several", "_law_word"]
theorem sc_l_second : FnScope N_l_second P_l_second (defScope s_l_second) := ⟨rfl, rfl, rfl, by decide +kernel, rfl, by decide +kernel, by decide +kernel⟩
abbrev s_l_third : Stmt := topS 35
abbrev N_l_third : List Str := ["_law_k", "_law_number", "_law_several", "_law_word", "_law_e"]
abbrev P_l_third : List Str := ["_law_k", "_law_number", "_law_several", "_law_word"]
theorem sc_l_third : FnScope N_l_third P_l_third (defScope s_l_third) := ⟨rfl, rfl, rfl, by decide +kernel, rfl, by decide +kernel, by decide +kernel⟩
abbrev s_l_made : Stmt := topS 37
abbrev N_l_made : List Str := ["_law_k", "_law_number", "_law_several", "_law_word"]
abbrev P_l_made : List Str := ["_law_k", "_law_number", "_law_several", "_law_word"]
theorem sc_l_made : FnScope N_l_made P_l_made (defScope s_l_made) := ⟨rfl, rfl, rfl, by decide +kernel, rfl, by decide +kernel, by decide +kernel⟩
abbrev s_l_kinds : Stmt := topS 36
abbrev N_l_kinds : List Str := ["_law_e", "_law_kinds_here"]
abbrev P_l_kinds : List Str := ["_law_e"]
theorem sc_l_kinds : FnScope N_l_kinds P_l_kinds (defScope s_l_kinds) := ⟨rfl, rfl, rfl, by decide +kernel, rfl, by decide +kernel, by decide +kernel⟩
abbrev s_law : Stmt := topS 38
abbrev N_law : List Str := ["_law_script", "_law_pool_here", "_law_k", "_law_number", "_law_several", "_law_word", "_law_error", "_law_told", "_law_due", "_law_at"]
abbrev P_law : List Str := ["_law_script"]
theorem sc_law : FnScope N_law P_law (defScope s_law) := ⟨rfl, rfl, rfl, by decide +kernel, rfl, by decide +kernel, by decide +kernel⟩
structure Ad where
  c_TestError : Addr
  c_BadEnds : Addr
  c_BadNode : Addr
  c_BadStart : Addr
  c_TwiceAsked : Addr
  c_NoNode : Addr
  c_NoPosition : Addr
  c_BadQuestion : Addr
  c_BadMarks : Addr
  c_BadLadder : Addr
  c_BadCount : Addr
  c_BadRelation : Addr
  c_BadPositions : Addr
  c_NoFinal : Addr
  c_NotReached : Addr
  c_NoEnd : Addr
  c_ZeroBottom : Addr
  c_NoChance : Addr
  c_BadChance : Addr
  c_ZeroPolynomial : Addr
  c_BadInterval : Addr
  c_NoSkip : Addr
  c_NotComing : Addr
  c_NoPupils : Addr
  c_BadLength : Addr
  c_AlikePupils : Addr
  c_BadLine : Addr
  c_Ended : Addr
  c_BadDeed : Addr
  f_BadEnds_init : Addr
  d_BadEnds_init : FuncData
  f_BadNode_init : Addr
  d_BadNode_init : FuncData
  f_BadStart_init : Addr
  d_BadStart_init : FuncData
  f_TwiceAsked_init : Addr
  d_TwiceAsked_init : FuncData
  f_NoNode_init : Addr
  d_NoNode_init : FuncData
  f_NoPosition_init : Addr
  d_NoPosition_init : FuncData
  f_BadQuestion_init : Addr
  d_BadQuestion_init : FuncData
  f_BadMarks_init : Addr
  d_BadMarks_init : FuncData
  f_BadLadder_init : Addr
  d_BadLadder_init : FuncData
  f_BadCount_init : Addr
  d_BadCount_init : FuncData
  f_BadRelation_init : Addr
  d_BadRelation_init : FuncData
  f_BadPositions_init : Addr
  d_BadPositions_init : FuncData
  f_NoFinal_init : Addr
  d_NoFinal_init : FuncData
  f_NotReached_init : Addr
  d_NotReached_init : FuncData
  f_NoEnd_init : Addr
  d_NoEnd_init : FuncData
  f_ZeroBottom_init : Addr
  d_ZeroBottom_init : FuncData
  f_NoChance_init : Addr
  d_NoChance_init : FuncData
  f_BadChance_init : Addr
  d_BadChance_init : FuncData
  f_ZeroPolynomial_init : Addr
  d_ZeroPolynomial_init : FuncData
  f_BadInterval_init : Addr
  d_BadInterval_init : FuncData
  f_NoSkip_init : Addr
  d_NoSkip_init : FuncData
  f_NotComing_init : Addr
  d_NotComing_init : FuncData
  f_NoPupils_init : Addr
  d_NoPupils_init : FuncData
  f_BadLength_init : Addr
  d_BadLength_init : FuncData
  f_AlikePupils_init : Addr
  d_AlikePupils_init : FuncData
  f_BadLine_init : Addr
  d_BadLine_init : FuncData
  f_Ended_init : Addr
  d_Ended_init : FuncData
  f_BadDeed_init : Addr
  d_BadDeed_init : FuncData
  f_l_pool : Addr
  d_l_pool : FuncData
  f_l_draw : Addr
  d_l_draw : FuncData
  f_l_first : Addr
  d_l_first : FuncData
  f_l_second : Addr
  d_l_second : FuncData
  f_l_third : Addr
  d_l_third : FuncData
  f_l_made : Addr
  d_l_made : FuncData
  f_l_kinds : Addr
  d_l_kinds : FuncData
  f_law : Addr
  d_law : FuncData
structure Txt (K : PySem.W.Frag) (mg : Str → Option Value) (a : Ad) : Prop where
  g_TestError : mg "TestError" = some (.ref a.c_TestError)
  g_BadEnds : mg "BadEnds" = some (.ref a.c_BadEnds)
  g_BadNode : mg "BadNode" = some (.ref a.c_BadNode)
  g_BadStart : mg "BadStart" = some (.ref a.c_BadStart)
  g_TwiceAsked : mg "TwiceAsked" = some (.ref a.c_TwiceAsked)
  g_NoNode : mg "NoNode" = some (.ref a.c_NoNode)
  g_NoPosition : mg "NoPosition" = some (.ref a.c_NoPosition)
  g_BadQuestion : mg "BadQuestion" = some (.ref a.c_BadQuestion)
  g_BadMarks : mg "BadMarks" = some (.ref a.c_BadMarks)
  g_BadLadder : mg "BadLadder" = some (.ref a.c_BadLadder)
  g_BadCount : mg "BadCount" = some (.ref a.c_BadCount)
  g_BadRelation : mg "BadRelation" = some (.ref a.c_BadRelation)
  g_BadPositions : mg "BadPositions" = some (.ref a.c_BadPositions)
  g_NoFinal : mg "NoFinal" = some (.ref a.c_NoFinal)
  g_NotReached : mg "NotReached" = some (.ref a.c_NotReached)
  g_NoEnd : mg "NoEnd" = some (.ref a.c_NoEnd)
  g_ZeroBottom : mg "ZeroBottom" = some (.ref a.c_ZeroBottom)
  g_NoChance : mg "NoChance" = some (.ref a.c_NoChance)
  g_BadChance : mg "BadChance" = some (.ref a.c_BadChance)
  g_ZeroPolynomial : mg "ZeroPolynomial" = some (.ref a.c_ZeroPolynomial)
  g_BadInterval : mg "BadInterval" = some (.ref a.c_BadInterval)
  g_NoSkip : mg "NoSkip" = some (.ref a.c_NoSkip)
  g_NotComing : mg "NotComing" = some (.ref a.c_NotComing)
  g_NoPupils : mg "NoPupils" = some (.ref a.c_NoPupils)
  g_BadLength : mg "BadLength" = some (.ref a.c_BadLength)
  g_AlikePupils : mg "AlikePupils" = some (.ref a.c_AlikePupils)
  g_BadLine : mg "BadLine" = some (.ref a.c_BadLine)
  g_Ended : mg "Ended" = some (.ref a.c_Ended)
  g_BadDeed : mg "BadDeed" = some (.ref a.c_BadDeed)
  bi_TestError : BaseI K a.c_TestError
  ox_BadEnds : OexC K a.c_BadEnds
  xf_BadEnds : XfC K a.c_BadEnds
  nf_BadEnds_count : PySem.W.findIn K (.ref a.c_BadEnds) "count" = some none
  te_BadEnds : PySem.W.exmOne K (.ref a.c_BadEnds) (.ref a.c_BadEnds) = some true
  ek_BadEnds : PySem.W.ErrK K a.c_BadEnds
  ii_BadEnds : PySem.W.findIn K (.ref a.c_BadEnds) "__init__" = some (some (.ref a.f_BadEnds_init))
  ti_BadEnds : PySem.W.typeIn K (.ref a.f_BadEnds_init) = some (.type "function")
  kt_BadEnds : PySem.W.kitOne K (.ref a.c_BadEnds) (.ref a.c_TestError) = some true
  ox_BadNode : OexC K a.c_BadNode
  xf_BadNode : XfC K a.c_BadNode
  nf_BadNode_index : PySem.W.findIn K (.ref a.c_BadNode) "index" = some none
  te_BadNode : PySem.W.exmOne K (.ref a.c_BadNode) (.ref a.c_BadNode) = some true
  ek_BadNode : PySem.W.ErrK K a.c_BadNode
  ii_BadNode : PySem.W.findIn K (.ref a.c_BadNode) "__init__" = some (some (.ref a.f_BadNode_init))
  ti_BadNode : PySem.W.typeIn K (.ref a.f_BadNode_init) = some (.type "function")
  kt_BadNode : PySem.W.kitOne K (.ref a.c_BadNode) (.ref a.c_TestError) = some true
  ox_BadStart : OexC K a.c_BadStart
  xf_BadStart : XfC K a.c_BadStart
  nf_BadStart_place : PySem.W.findIn K (.ref a.c_BadStart) "place" = some none
  te_BadStart : PySem.W.exmOne K (.ref a.c_BadStart) (.ref a.c_BadStart) = some true
  ek_BadStart : PySem.W.ErrK K a.c_BadStart
  ii_BadStart : PySem.W.findIn K (.ref a.c_BadStart) "__init__" = some (some (.ref a.f_BadStart_init))
  ti_BadStart : PySem.W.typeIn K (.ref a.f_BadStart_init) = some (.type "function")
  kt_BadStart : PySem.W.kitOne K (.ref a.c_BadStart) (.ref a.c_TestError) = some true
  ox_TwiceAsked : OexC K a.c_TwiceAsked
  xf_TwiceAsked : XfC K a.c_TwiceAsked
  nf_TwiceAsked_index : PySem.W.findIn K (.ref a.c_TwiceAsked) "index" = some none
  te_TwiceAsked : PySem.W.exmOne K (.ref a.c_TwiceAsked) (.ref a.c_TwiceAsked) = some true
  ek_TwiceAsked : PySem.W.ErrK K a.c_TwiceAsked
  ii_TwiceAsked : PySem.W.findIn K (.ref a.c_TwiceAsked) "__init__" = some (some (.ref a.f_TwiceAsked_init))
  ti_TwiceAsked : PySem.W.typeIn K (.ref a.f_TwiceAsked_init) = some (.type "function")
  kt_TwiceAsked : PySem.W.kitOne K (.ref a.c_TwiceAsked) (.ref a.c_TestError) = some true
  ox_NoNode : OexC K a.c_NoNode
  xf_NoNode : XfC K a.c_NoNode
  nf_NoNode_index : PySem.W.findIn K (.ref a.c_NoNode) "index" = some none
  te_NoNode : PySem.W.exmOne K (.ref a.c_NoNode) (.ref a.c_NoNode) = some true
  ek_NoNode : PySem.W.ErrK K a.c_NoNode
  ii_NoNode : PySem.W.findIn K (.ref a.c_NoNode) "__init__" = some (some (.ref a.f_NoNode_init))
  ti_NoNode : PySem.W.typeIn K (.ref a.f_NoNode_init) = some (.type "function")
  kt_NoNode : PySem.W.kitOne K (.ref a.c_NoNode) (.ref a.c_TestError) = some true
  ox_NoPosition : OexC K a.c_NoPosition
  xf_NoPosition : XfC K a.c_NoPosition
  nf_NoPosition_place : PySem.W.findIn K (.ref a.c_NoPosition) "place" = some none
  te_NoPosition : PySem.W.exmOne K (.ref a.c_NoPosition) (.ref a.c_NoPosition) = some true
  ek_NoPosition : PySem.W.ErrK K a.c_NoPosition
  ii_NoPosition : PySem.W.findIn K (.ref a.c_NoPosition) "__init__" = some (some (.ref a.f_NoPosition_init))
  ti_NoPosition : PySem.W.typeIn K (.ref a.f_NoPosition_init) = some (.type "function")
  kt_NoPosition : PySem.W.kitOne K (.ref a.c_NoPosition) (.ref a.c_TestError) = some true
  ox_BadQuestion : OexC K a.c_BadQuestion
  xf_BadQuestion : XfC K a.c_BadQuestion
  nf_BadQuestion_number : PySem.W.findIn K (.ref a.c_BadQuestion) "number" = some none
  te_BadQuestion : PySem.W.exmOne K (.ref a.c_BadQuestion) (.ref a.c_BadQuestion) = some true
  ek_BadQuestion : PySem.W.ErrK K a.c_BadQuestion
  ii_BadQuestion : PySem.W.findIn K (.ref a.c_BadQuestion) "__init__" = some (some (.ref a.f_BadQuestion_init))
  ti_BadQuestion : PySem.W.typeIn K (.ref a.f_BadQuestion_init) = some (.type "function")
  kt_BadQuestion : PySem.W.kitOne K (.ref a.c_BadQuestion) (.ref a.c_TestError) = some true
  ox_BadMarks : OexC K a.c_BadMarks
  xf_BadMarks : XfC K a.c_BadMarks
  nf_BadMarks_count : PySem.W.findIn K (.ref a.c_BadMarks) "count" = some none
  te_BadMarks : PySem.W.exmOne K (.ref a.c_BadMarks) (.ref a.c_BadMarks) = some true
  ek_BadMarks : PySem.W.ErrK K a.c_BadMarks
  ii_BadMarks : PySem.W.findIn K (.ref a.c_BadMarks) "__init__" = some (some (.ref a.f_BadMarks_init))
  ti_BadMarks : PySem.W.typeIn K (.ref a.f_BadMarks_init) = some (.type "function")
  kt_BadMarks : PySem.W.kitOne K (.ref a.c_BadMarks) (.ref a.c_TestError) = some true
  ox_BadLadder : OexC K a.c_BadLadder
  xf_BadLadder : XfC K a.c_BadLadder
  nf_BadLadder_word : PySem.W.findIn K (.ref a.c_BadLadder) "word" = some none
  te_BadLadder : PySem.W.exmOne K (.ref a.c_BadLadder) (.ref a.c_BadLadder) = some true
  ek_BadLadder : PySem.W.ErrK K a.c_BadLadder
  ii_BadLadder : PySem.W.findIn K (.ref a.c_BadLadder) "__init__" = some (some (.ref a.f_BadLadder_init))
  ti_BadLadder : PySem.W.typeIn K (.ref a.f_BadLadder_init) = some (.type "function")
  kt_BadLadder : PySem.W.kitOne K (.ref a.c_BadLadder) (.ref a.c_TestError) = some true
  ox_BadCount : OexC K a.c_BadCount
  xf_BadCount : XfC K a.c_BadCount
  nf_BadCount_count : PySem.W.findIn K (.ref a.c_BadCount) "count" = some none
  te_BadCount : PySem.W.exmOne K (.ref a.c_BadCount) (.ref a.c_BadCount) = some true
  ek_BadCount : PySem.W.ErrK K a.c_BadCount
  ii_BadCount : PySem.W.findIn K (.ref a.c_BadCount) "__init__" = some (some (.ref a.f_BadCount_init))
  ti_BadCount : PySem.W.typeIn K (.ref a.f_BadCount_init) = some (.type "function")
  kt_BadCount : PySem.W.kitOne K (.ref a.c_BadCount) (.ref a.c_TestError) = some true
  ox_BadRelation : OexC K a.c_BadRelation
  xf_BadRelation : XfC K a.c_BadRelation
  nf_BadRelation_word : PySem.W.findIn K (.ref a.c_BadRelation) "word" = some none
  te_BadRelation : PySem.W.exmOne K (.ref a.c_BadRelation) (.ref a.c_BadRelation) = some true
  ek_BadRelation : PySem.W.ErrK K a.c_BadRelation
  ii_BadRelation : PySem.W.findIn K (.ref a.c_BadRelation) "__init__" = some (some (.ref a.f_BadRelation_init))
  ti_BadRelation : PySem.W.typeIn K (.ref a.f_BadRelation_init) = some (.type "function")
  kt_BadRelation : PySem.W.kitOne K (.ref a.c_BadRelation) (.ref a.c_TestError) = some true
  ox_BadPositions : OexC K a.c_BadPositions
  xf_BadPositions : XfC K a.c_BadPositions
  nf_BadPositions_index : PySem.W.findIn K (.ref a.c_BadPositions) "index" = some none
  te_BadPositions : PySem.W.exmOne K (.ref a.c_BadPositions) (.ref a.c_BadPositions) = some true
  ek_BadPositions : PySem.W.ErrK K a.c_BadPositions
  ii_BadPositions : PySem.W.findIn K (.ref a.c_BadPositions) "__init__" = some (some (.ref a.f_BadPositions_init))
  ti_BadPositions : PySem.W.typeIn K (.ref a.f_BadPositions_init) = some (.type "function")
  kt_BadPositions : PySem.W.kitOne K (.ref a.c_BadPositions) (.ref a.c_TestError) = some true
  ox_NoFinal : OexC K a.c_NoFinal
  xf_NoFinal : XfC K a.c_NoFinal
  nf_NoFinal_ends : PySem.W.findIn K (.ref a.c_NoFinal) "ends" = some none
  te_NoFinal : PySem.W.exmOne K (.ref a.c_NoFinal) (.ref a.c_NoFinal) = some true
  ek_NoFinal : PySem.W.ErrK K a.c_NoFinal
  ii_NoFinal : PySem.W.findIn K (.ref a.c_NoFinal) "__init__" = some (some (.ref a.f_NoFinal_init))
  ti_NoFinal : PySem.W.typeIn K (.ref a.f_NoFinal_init) = some (.type "function")
  kt_NoFinal : PySem.W.kitOne K (.ref a.c_NoFinal) (.ref a.c_TestError) = some true
  ox_NotReached : OexC K a.c_NotReached
  xf_NotReached : XfC K a.c_NotReached
  nf_NotReached_index : PySem.W.findIn K (.ref a.c_NotReached) "index" = some none
  te_NotReached : PySem.W.exmOne K (.ref a.c_NotReached) (.ref a.c_NotReached) = some true
  ek_NotReached : PySem.W.ErrK K a.c_NotReached
  ii_NotReached : PySem.W.findIn K (.ref a.c_NotReached) "__init__" = some (some (.ref a.f_NotReached_init))
  ti_NotReached : PySem.W.typeIn K (.ref a.f_NotReached_init) = some (.type "function")
  kt_NotReached : PySem.W.kitOne K (.ref a.c_NotReached) (.ref a.c_TestError) = some true
  ox_NoEnd : OexC K a.c_NoEnd
  xf_NoEnd : XfC K a.c_NoEnd
  nf_NoEnd_number : PySem.W.findIn K (.ref a.c_NoEnd) "number" = some none
  te_NoEnd : PySem.W.exmOne K (.ref a.c_NoEnd) (.ref a.c_NoEnd) = some true
  ek_NoEnd : PySem.W.ErrK K a.c_NoEnd
  ii_NoEnd : PySem.W.findIn K (.ref a.c_NoEnd) "__init__" = some (some (.ref a.f_NoEnd_init))
  ti_NoEnd : PySem.W.typeIn K (.ref a.f_NoEnd_init) = some (.type "function")
  kt_NoEnd : PySem.W.kitOne K (.ref a.c_NoEnd) (.ref a.c_TestError) = some true
  ox_ZeroBottom : OexC K a.c_ZeroBottom
  xf_ZeroBottom : XfC K a.c_ZeroBottom
  te_ZeroBottom : PySem.W.exmOne K (.ref a.c_ZeroBottom) (.ref a.c_ZeroBottom) = some true
  ek_ZeroBottom : PySem.W.ErrK K a.c_ZeroBottom
  ii_ZeroBottom : PySem.W.findIn K (.ref a.c_ZeroBottom) "__init__" = some (some (.ref a.f_ZeroBottom_init))
  ti_ZeroBottom : PySem.W.typeIn K (.ref a.f_ZeroBottom_init) = some (.type "function")
  kt_ZeroBottom : PySem.W.kitOne K (.ref a.c_ZeroBottom) (.ref a.c_TestError) = some true
  ox_NoChance : OexC K a.c_NoChance
  xf_NoChance : XfC K a.c_NoChance
  nf_NoChance_number : PySem.W.findIn K (.ref a.c_NoChance) "number" = some none
  te_NoChance : PySem.W.exmOne K (.ref a.c_NoChance) (.ref a.c_NoChance) = some true
  ek_NoChance : PySem.W.ErrK K a.c_NoChance
  ii_NoChance : PySem.W.findIn K (.ref a.c_NoChance) "__init__" = some (some (.ref a.f_NoChance_init))
  ti_NoChance : PySem.W.typeIn K (.ref a.f_NoChance_init) = some (.type "function")
  kt_NoChance : PySem.W.kitOne K (.ref a.c_NoChance) (.ref a.c_TestError) = some true
  ox_BadChance : OexC K a.c_BadChance
  xf_BadChance : XfC K a.c_BadChance
  nf_BadChance_number : PySem.W.findIn K (.ref a.c_BadChance) "number" = some none
  te_BadChance : PySem.W.exmOne K (.ref a.c_BadChance) (.ref a.c_BadChance) = some true
  ek_BadChance : PySem.W.ErrK K a.c_BadChance
  ii_BadChance : PySem.W.findIn K (.ref a.c_BadChance) "__init__" = some (some (.ref a.f_BadChance_init))
  ti_BadChance : PySem.W.typeIn K (.ref a.f_BadChance_init) = some (.type "function")
  kt_BadChance : PySem.W.kitOne K (.ref a.c_BadChance) (.ref a.c_TestError) = some true
  ox_ZeroPolynomial : OexC K a.c_ZeroPolynomial
  xf_ZeroPolynomial : XfC K a.c_ZeroPolynomial
  te_ZeroPolynomial : PySem.W.exmOne K (.ref a.c_ZeroPolynomial) (.ref a.c_ZeroPolynomial) = some true
  ek_ZeroPolynomial : PySem.W.ErrK K a.c_ZeroPolynomial
  ii_ZeroPolynomial : PySem.W.findIn K (.ref a.c_ZeroPolynomial) "__init__" = some (some (.ref a.f_ZeroPolynomial_init))
  ti_ZeroPolynomial : PySem.W.typeIn K (.ref a.f_ZeroPolynomial_init) = some (.type "function")
  kt_ZeroPolynomial : PySem.W.kitOne K (.ref a.c_ZeroPolynomial) (.ref a.c_TestError) = some true
  ox_BadInterval : OexC K a.c_BadInterval
  xf_BadInterval : XfC K a.c_BadInterval
  te_BadInterval : PySem.W.exmOne K (.ref a.c_BadInterval) (.ref a.c_BadInterval) = some true
  ek_BadInterval : PySem.W.ErrK K a.c_BadInterval
  ii_BadInterval : PySem.W.findIn K (.ref a.c_BadInterval) "__init__" = some (some (.ref a.f_BadInterval_init))
  ti_BadInterval : PySem.W.typeIn K (.ref a.f_BadInterval_init) = some (.type "function")
  kt_BadInterval : PySem.W.kitOne K (.ref a.c_BadInterval) (.ref a.c_TestError) = some true
  ox_NoSkip : OexC K a.c_NoSkip
  xf_NoSkip : XfC K a.c_NoSkip
  nf_NoSkip_index : PySem.W.findIn K (.ref a.c_NoSkip) "index" = some none
  te_NoSkip : PySem.W.exmOne K (.ref a.c_NoSkip) (.ref a.c_NoSkip) = some true
  ek_NoSkip : PySem.W.ErrK K a.c_NoSkip
  ii_NoSkip : PySem.W.findIn K (.ref a.c_NoSkip) "__init__" = some (some (.ref a.f_NoSkip_init))
  ti_NoSkip : PySem.W.typeIn K (.ref a.f_NoSkip_init) = some (.type "function")
  kt_NoSkip : PySem.W.kitOne K (.ref a.c_NoSkip) (.ref a.c_TestError) = some true
  ox_NotComing : OexC K a.c_NotComing
  xf_NotComing : XfC K a.c_NotComing
  nf_NotComing_index : PySem.W.findIn K (.ref a.c_NotComing) "index" = some none
  te_NotComing : PySem.W.exmOne K (.ref a.c_NotComing) (.ref a.c_NotComing) = some true
  ek_NotComing : PySem.W.ErrK K a.c_NotComing
  ii_NotComing : PySem.W.findIn K (.ref a.c_NotComing) "__init__" = some (some (.ref a.f_NotComing_init))
  ti_NotComing : PySem.W.typeIn K (.ref a.f_NotComing_init) = some (.type "function")
  kt_NotComing : PySem.W.kitOne K (.ref a.c_NotComing) (.ref a.c_TestError) = some true
  ox_NoPupils : OexC K a.c_NoPupils
  xf_NoPupils : XfC K a.c_NoPupils
  te_NoPupils : PySem.W.exmOne K (.ref a.c_NoPupils) (.ref a.c_NoPupils) = some true
  ek_NoPupils : PySem.W.ErrK K a.c_NoPupils
  ii_NoPupils : PySem.W.findIn K (.ref a.c_NoPupils) "__init__" = some (some (.ref a.f_NoPupils_init))
  ti_NoPupils : PySem.W.typeIn K (.ref a.f_NoPupils_init) = some (.type "function")
  kt_NoPupils : PySem.W.kitOne K (.ref a.c_NoPupils) (.ref a.c_TestError) = some true
  ox_BadLength : OexC K a.c_BadLength
  xf_BadLength : XfC K a.c_BadLength
  nf_BadLength_count : PySem.W.findIn K (.ref a.c_BadLength) "count" = some none
  te_BadLength : PySem.W.exmOne K (.ref a.c_BadLength) (.ref a.c_BadLength) = some true
  ek_BadLength : PySem.W.ErrK K a.c_BadLength
  ii_BadLength : PySem.W.findIn K (.ref a.c_BadLength) "__init__" = some (some (.ref a.f_BadLength_init))
  ti_BadLength : PySem.W.typeIn K (.ref a.f_BadLength_init) = some (.type "function")
  kt_BadLength : PySem.W.kitOne K (.ref a.c_BadLength) (.ref a.c_TestError) = some true
  ox_AlikePupils : OexC K a.c_AlikePupils
  xf_AlikePupils : XfC K a.c_AlikePupils
  nf_AlikePupils_first : PySem.W.findIn K (.ref a.c_AlikePupils) "first" = some none
  nf_AlikePupils_second : PySem.W.findIn K (.ref a.c_AlikePupils) "second" = some none
  te_AlikePupils : PySem.W.exmOne K (.ref a.c_AlikePupils) (.ref a.c_AlikePupils) = some true
  ek_AlikePupils : PySem.W.ErrK K a.c_AlikePupils
  ii_AlikePupils : PySem.W.findIn K (.ref a.c_AlikePupils) "__init__" = some (some (.ref a.f_AlikePupils_init))
  ti_AlikePupils : PySem.W.typeIn K (.ref a.f_AlikePupils_init) = some (.type "function")
  kt_AlikePupils : PySem.W.kitOne K (.ref a.c_AlikePupils) (.ref a.c_TestError) = some true
  ox_BadLine : OexC K a.c_BadLine
  xf_BadLine : XfC K a.c_BadLine
  nf_BadLine_line : PySem.W.findIn K (.ref a.c_BadLine) "line" = some none
  te_BadLine : PySem.W.exmOne K (.ref a.c_BadLine) (.ref a.c_BadLine) = some true
  ek_BadLine : PySem.W.ErrK K a.c_BadLine
  ii_BadLine : PySem.W.findIn K (.ref a.c_BadLine) "__init__" = some (some (.ref a.f_BadLine_init))
  ti_BadLine : PySem.W.typeIn K (.ref a.f_BadLine_init) = some (.type "function")
  kt_BadLine : PySem.W.kitOne K (.ref a.c_BadLine) (.ref a.c_TestError) = some true
  ox_Ended : OexC K a.c_Ended
  xf_Ended : XfC K a.c_Ended
  te_Ended : PySem.W.exmOne K (.ref a.c_Ended) (.ref a.c_Ended) = some true
  ek_Ended : PySem.W.ErrK K a.c_Ended
  ii_Ended : PySem.W.findIn K (.ref a.c_Ended) "__init__" = some (some (.ref a.f_Ended_init))
  ti_Ended : PySem.W.typeIn K (.ref a.f_Ended_init) = some (.type "function")
  kt_Ended : PySem.W.kitOne K (.ref a.c_Ended) (.ref a.c_TestError) = some true
  ox_BadDeed : OexC K a.c_BadDeed
  xf_BadDeed : XfC K a.c_BadDeed
  nf_BadDeed_index : PySem.W.findIn K (.ref a.c_BadDeed) "index" = some none
  te_BadDeed : PySem.W.exmOne K (.ref a.c_BadDeed) (.ref a.c_BadDeed) = some true
  ek_BadDeed : PySem.W.ErrK K a.c_BadDeed
  ii_BadDeed : PySem.W.findIn K (.ref a.c_BadDeed) "__init__" = some (some (.ref a.f_BadDeed_init))
  ti_BadDeed : PySem.W.typeIn K (.ref a.f_BadDeed_init) = some (.type "function")
  kt_BadDeed : PySem.W.kitOne K (.ref a.c_BadDeed) (.ref a.c_TestError) = some true
  kz_BadEnds : PySem.W.kitOne K (.ref a.c_BadEnds) (.ref a.c_BadEnds) = some true
  kz_BadNode : PySem.W.kitOne K (.ref a.c_BadNode) (.ref a.c_BadNode) = some true
  kz_BadStart : PySem.W.kitOne K (.ref a.c_BadStart) (.ref a.c_BadStart) = some true
  kz_TwiceAsked : PySem.W.kitOne K (.ref a.c_TwiceAsked) (.ref a.c_TwiceAsked) = some true
  kz_NoNode : PySem.W.kitOne K (.ref a.c_NoNode) (.ref a.c_NoNode) = some true
  kz_NoPosition : PySem.W.kitOne K (.ref a.c_NoPosition) (.ref a.c_NoPosition) = some true
  kz_BadQuestion : PySem.W.kitOne K (.ref a.c_BadQuestion) (.ref a.c_BadQuestion) = some true
  kz_BadMarks : PySem.W.kitOne K (.ref a.c_BadMarks) (.ref a.c_BadMarks) = some true
  kz_BadLadder : PySem.W.kitOne K (.ref a.c_BadLadder) (.ref a.c_BadLadder) = some true
  kz_BadCount : PySem.W.kitOne K (.ref a.c_BadCount) (.ref a.c_BadCount) = some true
  kz_BadRelation : PySem.W.kitOne K (.ref a.c_BadRelation) (.ref a.c_BadRelation) = some true
  kz_BadPositions : PySem.W.kitOne K (.ref a.c_BadPositions) (.ref a.c_BadPositions) = some true
  kz_NoFinal : PySem.W.kitOne K (.ref a.c_NoFinal) (.ref a.c_NoFinal) = some true
  kz_NotReached : PySem.W.kitOne K (.ref a.c_NotReached) (.ref a.c_NotReached) = some true
  kz_NoEnd : PySem.W.kitOne K (.ref a.c_NoEnd) (.ref a.c_NoEnd) = some true
  kz_ZeroBottom : PySem.W.kitOne K (.ref a.c_ZeroBottom) (.ref a.c_ZeroBottom) = some true
  kz_NoChance : PySem.W.kitOne K (.ref a.c_NoChance) (.ref a.c_NoChance) = some true
  kz_BadChance : PySem.W.kitOne K (.ref a.c_BadChance) (.ref a.c_BadChance) = some true
  kz_ZeroPolynomial : PySem.W.kitOne K (.ref a.c_ZeroPolynomial) (.ref a.c_ZeroPolynomial) = some true
  kz_BadInterval : PySem.W.kitOne K (.ref a.c_BadInterval) (.ref a.c_BadInterval) = some true
  kz_NoSkip : PySem.W.kitOne K (.ref a.c_NoSkip) (.ref a.c_NoSkip) = some true
  kz_NotComing : PySem.W.kitOne K (.ref a.c_NotComing) (.ref a.c_NotComing) = some true
  kz_NoPupils : PySem.W.kitOne K (.ref a.c_NoPupils) (.ref a.c_NoPupils) = some true
  kz_BadLength : PySem.W.kitOne K (.ref a.c_BadLength) (.ref a.c_BadLength) = some true
  kz_AlikePupils : PySem.W.kitOne K (.ref a.c_AlikePupils) (.ref a.c_AlikePupils) = some true
  kz_BadLine : PySem.W.kitOne K (.ref a.c_BadLine) (.ref a.c_BadLine) = some true
  kz_Ended : PySem.W.kitOne K (.ref a.c_Ended) (.ref a.c_Ended) = some true
  kz_BadDeed : PySem.W.kitOne K (.ref a.c_BadDeed) (.ref a.c_BadDeed) = some true
  ks_BadEnds_BadNode : PySem.W.kitOne K (.ref a.c_BadEnds) (.ref a.c_BadNode) = some false
  ks_BadEnds_BadStart : PySem.W.kitOne K (.ref a.c_BadEnds) (.ref a.c_BadStart) = some false
  ks_BadEnds_TwiceAsked : PySem.W.kitOne K (.ref a.c_BadEnds) (.ref a.c_TwiceAsked) = some false
  ks_BadEnds_NoNode : PySem.W.kitOne K (.ref a.c_BadEnds) (.ref a.c_NoNode) = some false
  ks_BadEnds_NoPosition : PySem.W.kitOne K (.ref a.c_BadEnds) (.ref a.c_NoPosition) = some false
  ks_BadEnds_BadQuestion : PySem.W.kitOne K (.ref a.c_BadEnds) (.ref a.c_BadQuestion) = some false
  ks_BadEnds_BadMarks : PySem.W.kitOne K (.ref a.c_BadEnds) (.ref a.c_BadMarks) = some false
  ks_BadEnds_BadLadder : PySem.W.kitOne K (.ref a.c_BadEnds) (.ref a.c_BadLadder) = some false
  ks_BadEnds_BadCount : PySem.W.kitOne K (.ref a.c_BadEnds) (.ref a.c_BadCount) = some false
  ks_BadEnds_BadRelation : PySem.W.kitOne K (.ref a.c_BadEnds) (.ref a.c_BadRelation) = some false
  ks_BadEnds_BadPositions : PySem.W.kitOne K (.ref a.c_BadEnds) (.ref a.c_BadPositions) = some false
  ks_BadEnds_NoFinal : PySem.W.kitOne K (.ref a.c_BadEnds) (.ref a.c_NoFinal) = some false
  ks_BadEnds_NotReached : PySem.W.kitOne K (.ref a.c_BadEnds) (.ref a.c_NotReached) = some false
  ks_BadEnds_NoEnd : PySem.W.kitOne K (.ref a.c_BadEnds) (.ref a.c_NoEnd) = some false
  ks_BadEnds_ZeroBottom : PySem.W.kitOne K (.ref a.c_BadEnds) (.ref a.c_ZeroBottom) = some false
  ks_BadEnds_NoChance : PySem.W.kitOne K (.ref a.c_BadEnds) (.ref a.c_NoChance) = some false
  ks_BadEnds_BadChance : PySem.W.kitOne K (.ref a.c_BadEnds) (.ref a.c_BadChance) = some false
  ks_BadEnds_ZeroPolynomial : PySem.W.kitOne K (.ref a.c_BadEnds) (.ref a.c_ZeroPolynomial) = some false
  ks_BadEnds_BadInterval : PySem.W.kitOne K (.ref a.c_BadEnds) (.ref a.c_BadInterval) = some false
  ks_BadEnds_NoSkip : PySem.W.kitOne K (.ref a.c_BadEnds) (.ref a.c_NoSkip) = some false
  ks_BadEnds_NotComing : PySem.W.kitOne K (.ref a.c_BadEnds) (.ref a.c_NotComing) = some false
  ks_BadEnds_NoPupils : PySem.W.kitOne K (.ref a.c_BadEnds) (.ref a.c_NoPupils) = some false
  ks_BadEnds_BadLength : PySem.W.kitOne K (.ref a.c_BadEnds) (.ref a.c_BadLength) = some false
  ks_BadEnds_AlikePupils : PySem.W.kitOne K (.ref a.c_BadEnds) (.ref a.c_AlikePupils) = some false
  ks_BadEnds_BadLine : PySem.W.kitOne K (.ref a.c_BadEnds) (.ref a.c_BadLine) = some false
  ks_BadEnds_Ended : PySem.W.kitOne K (.ref a.c_BadEnds) (.ref a.c_Ended) = some false
  ks_BadEnds_BadDeed : PySem.W.kitOne K (.ref a.c_BadEnds) (.ref a.c_BadDeed) = some false
  ks_BadNode_BadEnds : PySem.W.kitOne K (.ref a.c_BadNode) (.ref a.c_BadEnds) = some false
  ks_BadNode_BadStart : PySem.W.kitOne K (.ref a.c_BadNode) (.ref a.c_BadStart) = some false
  ks_BadNode_TwiceAsked : PySem.W.kitOne K (.ref a.c_BadNode) (.ref a.c_TwiceAsked) = some false
  ks_BadNode_NoNode : PySem.W.kitOne K (.ref a.c_BadNode) (.ref a.c_NoNode) = some false
  ks_BadNode_NoPosition : PySem.W.kitOne K (.ref a.c_BadNode) (.ref a.c_NoPosition) = some false
  ks_BadNode_BadQuestion : PySem.W.kitOne K (.ref a.c_BadNode) (.ref a.c_BadQuestion) = some false
  ks_BadNode_BadMarks : PySem.W.kitOne K (.ref a.c_BadNode) (.ref a.c_BadMarks) = some false
  ks_BadNode_BadLadder : PySem.W.kitOne K (.ref a.c_BadNode) (.ref a.c_BadLadder) = some false
  ks_BadNode_BadCount : PySem.W.kitOne K (.ref a.c_BadNode) (.ref a.c_BadCount) = some false
  ks_BadNode_BadRelation : PySem.W.kitOne K (.ref a.c_BadNode) (.ref a.c_BadRelation) = some false
  ks_BadNode_BadPositions : PySem.W.kitOne K (.ref a.c_BadNode) (.ref a.c_BadPositions) = some false
  ks_BadNode_NoFinal : PySem.W.kitOne K (.ref a.c_BadNode) (.ref a.c_NoFinal) = some false
  ks_BadNode_NotReached : PySem.W.kitOne K (.ref a.c_BadNode) (.ref a.c_NotReached) = some false
  ks_BadNode_NoEnd : PySem.W.kitOne K (.ref a.c_BadNode) (.ref a.c_NoEnd) = some false
  ks_BadNode_ZeroBottom : PySem.W.kitOne K (.ref a.c_BadNode) (.ref a.c_ZeroBottom) = some false
  ks_BadNode_NoChance : PySem.W.kitOne K (.ref a.c_BadNode) (.ref a.c_NoChance) = some false
  ks_BadNode_BadChance : PySem.W.kitOne K (.ref a.c_BadNode) (.ref a.c_BadChance) = some false
  ks_BadNode_ZeroPolynomial : PySem.W.kitOne K (.ref a.c_BadNode) (.ref a.c_ZeroPolynomial) = some false
  ks_BadNode_BadInterval : PySem.W.kitOne K (.ref a.c_BadNode) (.ref a.c_BadInterval) = some false
  ks_BadNode_NoSkip : PySem.W.kitOne K (.ref a.c_BadNode) (.ref a.c_NoSkip) = some false
  ks_BadNode_NotComing : PySem.W.kitOne K (.ref a.c_BadNode) (.ref a.c_NotComing) = some false
  ks_BadNode_NoPupils : PySem.W.kitOne K (.ref a.c_BadNode) (.ref a.c_NoPupils) = some false
  ks_BadNode_BadLength : PySem.W.kitOne K (.ref a.c_BadNode) (.ref a.c_BadLength) = some false
  ks_BadNode_AlikePupils : PySem.W.kitOne K (.ref a.c_BadNode) (.ref a.c_AlikePupils) = some false
  ks_BadNode_BadLine : PySem.W.kitOne K (.ref a.c_BadNode) (.ref a.c_BadLine) = some false
  ks_BadNode_Ended : PySem.W.kitOne K (.ref a.c_BadNode) (.ref a.c_Ended) = some false
  ks_BadNode_BadDeed : PySem.W.kitOne K (.ref a.c_BadNode) (.ref a.c_BadDeed) = some false
  ks_BadStart_BadEnds : PySem.W.kitOne K (.ref a.c_BadStart) (.ref a.c_BadEnds) = some false
  ks_BadStart_BadNode : PySem.W.kitOne K (.ref a.c_BadStart) (.ref a.c_BadNode) = some false
  ks_BadStart_TwiceAsked : PySem.W.kitOne K (.ref a.c_BadStart) (.ref a.c_TwiceAsked) = some false
  ks_BadStart_NoNode : PySem.W.kitOne K (.ref a.c_BadStart) (.ref a.c_NoNode) = some false
  ks_BadStart_NoPosition : PySem.W.kitOne K (.ref a.c_BadStart) (.ref a.c_NoPosition) = some false
  ks_BadStart_BadQuestion : PySem.W.kitOne K (.ref a.c_BadStart) (.ref a.c_BadQuestion) = some false
  ks_BadStart_BadMarks : PySem.W.kitOne K (.ref a.c_BadStart) (.ref a.c_BadMarks) = some false
  ks_BadStart_BadLadder : PySem.W.kitOne K (.ref a.c_BadStart) (.ref a.c_BadLadder) = some false
  ks_BadStart_BadCount : PySem.W.kitOne K (.ref a.c_BadStart) (.ref a.c_BadCount) = some false
  ks_BadStart_BadRelation : PySem.W.kitOne K (.ref a.c_BadStart) (.ref a.c_BadRelation) = some false
  ks_BadStart_BadPositions : PySem.W.kitOne K (.ref a.c_BadStart) (.ref a.c_BadPositions) = some false
  ks_BadStart_NoFinal : PySem.W.kitOne K (.ref a.c_BadStart) (.ref a.c_NoFinal) = some false
  ks_BadStart_NotReached : PySem.W.kitOne K (.ref a.c_BadStart) (.ref a.c_NotReached) = some false
  ks_BadStart_NoEnd : PySem.W.kitOne K (.ref a.c_BadStart) (.ref a.c_NoEnd) = some false
  ks_BadStart_ZeroBottom : PySem.W.kitOne K (.ref a.c_BadStart) (.ref a.c_ZeroBottom) = some false
  ks_BadStart_NoChance : PySem.W.kitOne K (.ref a.c_BadStart) (.ref a.c_NoChance) = some false
  ks_BadStart_BadChance : PySem.W.kitOne K (.ref a.c_BadStart) (.ref a.c_BadChance) = some false
  ks_BadStart_ZeroPolynomial : PySem.W.kitOne K (.ref a.c_BadStart) (.ref a.c_ZeroPolynomial) = some false
  ks_BadStart_BadInterval : PySem.W.kitOne K (.ref a.c_BadStart) (.ref a.c_BadInterval) = some false
  ks_BadStart_NoSkip : PySem.W.kitOne K (.ref a.c_BadStart) (.ref a.c_NoSkip) = some false
  ks_BadStart_NotComing : PySem.W.kitOne K (.ref a.c_BadStart) (.ref a.c_NotComing) = some false
  ks_BadStart_NoPupils : PySem.W.kitOne K (.ref a.c_BadStart) (.ref a.c_NoPupils) = some false
  ks_BadStart_BadLength : PySem.W.kitOne K (.ref a.c_BadStart) (.ref a.c_BadLength) = some false
  ks_BadStart_AlikePupils : PySem.W.kitOne K (.ref a.c_BadStart) (.ref a.c_AlikePupils) = some false
  ks_BadStart_BadLine : PySem.W.kitOne K (.ref a.c_BadStart) (.ref a.c_BadLine) = some false
  ks_BadStart_Ended : PySem.W.kitOne K (.ref a.c_BadStart) (.ref a.c_Ended) = some false
  ks_BadStart_BadDeed : PySem.W.kitOne K (.ref a.c_BadStart) (.ref a.c_BadDeed) = some false
  ks_TwiceAsked_BadEnds : PySem.W.kitOne K (.ref a.c_TwiceAsked) (.ref a.c_BadEnds) = some false
  ks_TwiceAsked_BadNode : PySem.W.kitOne K (.ref a.c_TwiceAsked) (.ref a.c_BadNode) = some false
  ks_TwiceAsked_BadStart : PySem.W.kitOne K (.ref a.c_TwiceAsked) (.ref a.c_BadStart) = some false
  ks_TwiceAsked_NoNode : PySem.W.kitOne K (.ref a.c_TwiceAsked) (.ref a.c_NoNode) = some false
  ks_TwiceAsked_NoPosition : PySem.W.kitOne K (.ref a.c_TwiceAsked) (.ref a.c_NoPosition) = some false
  ks_TwiceAsked_BadQuestion : PySem.W.kitOne K (.ref a.c_TwiceAsked) (.ref a.c_BadQuestion) = some false
  ks_TwiceAsked_BadMarks : PySem.W.kitOne K (.ref a.c_TwiceAsked) (.ref a.c_BadMarks) = some false
  ks_TwiceAsked_BadLadder : PySem.W.kitOne K (.ref a.c_TwiceAsked) (.ref a.c_BadLadder) = some false
  ks_TwiceAsked_BadCount : PySem.W.kitOne K (.ref a.c_TwiceAsked) (.ref a.c_BadCount) = some false
  ks_TwiceAsked_BadRelation : PySem.W.kitOne K (.ref a.c_TwiceAsked) (.ref a.c_BadRelation) = some false
  ks_TwiceAsked_BadPositions : PySem.W.kitOne K (.ref a.c_TwiceAsked) (.ref a.c_BadPositions) = some false
  ks_TwiceAsked_NoFinal : PySem.W.kitOne K (.ref a.c_TwiceAsked) (.ref a.c_NoFinal) = some false
  ks_TwiceAsked_NotReached : PySem.W.kitOne K (.ref a.c_TwiceAsked) (.ref a.c_NotReached) = some false
  ks_TwiceAsked_NoEnd : PySem.W.kitOne K (.ref a.c_TwiceAsked) (.ref a.c_NoEnd) = some false
  ks_TwiceAsked_ZeroBottom : PySem.W.kitOne K (.ref a.c_TwiceAsked) (.ref a.c_ZeroBottom) = some false
  ks_TwiceAsked_NoChance : PySem.W.kitOne K (.ref a.c_TwiceAsked) (.ref a.c_NoChance) = some false
  ks_TwiceAsked_BadChance : PySem.W.kitOne K (.ref a.c_TwiceAsked) (.ref a.c_BadChance) = some false
  ks_TwiceAsked_ZeroPolynomial : PySem.W.kitOne K (.ref a.c_TwiceAsked) (.ref a.c_ZeroPolynomial) = some false
  ks_TwiceAsked_BadInterval : PySem.W.kitOne K (.ref a.c_TwiceAsked) (.ref a.c_BadInterval) = some false
  ks_TwiceAsked_NoSkip : PySem.W.kitOne K (.ref a.c_TwiceAsked) (.ref a.c_NoSkip) = some false
  ks_TwiceAsked_NotComing : PySem.W.kitOne K (.ref a.c_TwiceAsked) (.ref a.c_NotComing) = some false
  ks_TwiceAsked_NoPupils : PySem.W.kitOne K (.ref a.c_TwiceAsked) (.ref a.c_NoPupils) = some false
  ks_TwiceAsked_BadLength : PySem.W.kitOne K (.ref a.c_TwiceAsked) (.ref a.c_BadLength) = some false
  ks_TwiceAsked_AlikePupils : PySem.W.kitOne K (.ref a.c_TwiceAsked) (.ref a.c_AlikePupils) = some false
  ks_TwiceAsked_BadLine : PySem.W.kitOne K (.ref a.c_TwiceAsked) (.ref a.c_BadLine) = some false
  ks_TwiceAsked_Ended : PySem.W.kitOne K (.ref a.c_TwiceAsked) (.ref a.c_Ended) = some false
  ks_TwiceAsked_BadDeed : PySem.W.kitOne K (.ref a.c_TwiceAsked) (.ref a.c_BadDeed) = some false
  ks_NoNode_BadEnds : PySem.W.kitOne K (.ref a.c_NoNode) (.ref a.c_BadEnds) = some false
  ks_NoNode_BadNode : PySem.W.kitOne K (.ref a.c_NoNode) (.ref a.c_BadNode) = some false
  ks_NoNode_BadStart : PySem.W.kitOne K (.ref a.c_NoNode) (.ref a.c_BadStart) = some false
  ks_NoNode_TwiceAsked : PySem.W.kitOne K (.ref a.c_NoNode) (.ref a.c_TwiceAsked) = some false
  ks_NoNode_NoPosition : PySem.W.kitOne K (.ref a.c_NoNode) (.ref a.c_NoPosition) = some false
  ks_NoNode_BadQuestion : PySem.W.kitOne K (.ref a.c_NoNode) (.ref a.c_BadQuestion) = some false
  ks_NoNode_BadMarks : PySem.W.kitOne K (.ref a.c_NoNode) (.ref a.c_BadMarks) = some false
  ks_NoNode_BadLadder : PySem.W.kitOne K (.ref a.c_NoNode) (.ref a.c_BadLadder) = some false
  ks_NoNode_BadCount : PySem.W.kitOne K (.ref a.c_NoNode) (.ref a.c_BadCount) = some false
  ks_NoNode_BadRelation : PySem.W.kitOne K (.ref a.c_NoNode) (.ref a.c_BadRelation) = some false
  ks_NoNode_BadPositions : PySem.W.kitOne K (.ref a.c_NoNode) (.ref a.c_BadPositions) = some false
  ks_NoNode_NoFinal : PySem.W.kitOne K (.ref a.c_NoNode) (.ref a.c_NoFinal) = some false
  ks_NoNode_NotReached : PySem.W.kitOne K (.ref a.c_NoNode) (.ref a.c_NotReached) = some false
  ks_NoNode_NoEnd : PySem.W.kitOne K (.ref a.c_NoNode) (.ref a.c_NoEnd) = some false
  ks_NoNode_ZeroBottom : PySem.W.kitOne K (.ref a.c_NoNode) (.ref a.c_ZeroBottom) = some false
  ks_NoNode_NoChance : PySem.W.kitOne K (.ref a.c_NoNode) (.ref a.c_NoChance) = some false
  ks_NoNode_BadChance : PySem.W.kitOne K (.ref a.c_NoNode) (.ref a.c_BadChance) = some false
  ks_NoNode_ZeroPolynomial : PySem.W.kitOne K (.ref a.c_NoNode) (.ref a.c_ZeroPolynomial) = some false
  ks_NoNode_BadInterval : PySem.W.kitOne K (.ref a.c_NoNode) (.ref a.c_BadInterval) = some false
  ks_NoNode_NoSkip : PySem.W.kitOne K (.ref a.c_NoNode) (.ref a.c_NoSkip) = some false
  ks_NoNode_NotComing : PySem.W.kitOne K (.ref a.c_NoNode) (.ref a.c_NotComing) = some false
  ks_NoNode_NoPupils : PySem.W.kitOne K (.ref a.c_NoNode) (.ref a.c_NoPupils) = some false
  ks_NoNode_BadLength : PySem.W.kitOne K (.ref a.c_NoNode) (.ref a.c_BadLength) = some false
  ks_NoNode_AlikePupils : PySem.W.kitOne K (.ref a.c_NoNode) (.ref a.c_AlikePupils) = some false
  ks_NoNode_BadLine : PySem.W.kitOne K (.ref a.c_NoNode) (.ref a.c_BadLine) = some false
  ks_NoNode_Ended : PySem.W.kitOne K (.ref a.c_NoNode) (.ref a.c_Ended) = some false
  ks_NoNode_BadDeed : PySem.W.kitOne K (.ref a.c_NoNode) (.ref a.c_BadDeed) = some false
  ks_NoPosition_BadEnds : PySem.W.kitOne K (.ref a.c_NoPosition) (.ref a.c_BadEnds) = some false
  ks_NoPosition_BadNode : PySem.W.kitOne K (.ref a.c_NoPosition) (.ref a.c_BadNode) = some false
  ks_NoPosition_BadStart : PySem.W.kitOne K (.ref a.c_NoPosition) (.ref a.c_BadStart) = some false
  ks_NoPosition_TwiceAsked : PySem.W.kitOne K (.ref a.c_NoPosition) (.ref a.c_TwiceAsked) = some false
  ks_NoPosition_NoNode : PySem.W.kitOne K (.ref a.c_NoPosition) (.ref a.c_NoNode) = some false
  ks_NoPosition_BadQuestion : PySem.W.kitOne K (.ref a.c_NoPosition) (.ref a.c_BadQuestion) = some false
  ks_NoPosition_BadMarks : PySem.W.kitOne K (.ref a.c_NoPosition) (.ref a.c_BadMarks) = some false
  ks_NoPosition_BadLadder : PySem.W.kitOne K (.ref a.c_NoPosition) (.ref a.c_BadLadder) = some false
  ks_NoPosition_BadCount : PySem.W.kitOne K (.ref a.c_NoPosition) (.ref a.c_BadCount) = some false
  ks_NoPosition_BadRelation : PySem.W.kitOne K (.ref a.c_NoPosition) (.ref a.c_BadRelation) = some false
  ks_NoPosition_BadPositions : PySem.W.kitOne K (.ref a.c_NoPosition) (.ref a.c_BadPositions) = some false
  ks_NoPosition_NoFinal : PySem.W.kitOne K (.ref a.c_NoPosition) (.ref a.c_NoFinal) = some false
  ks_NoPosition_NotReached : PySem.W.kitOne K (.ref a.c_NoPosition) (.ref a.c_NotReached) = some false
  ks_NoPosition_NoEnd : PySem.W.kitOne K (.ref a.c_NoPosition) (.ref a.c_NoEnd) = some false
  ks_NoPosition_ZeroBottom : PySem.W.kitOne K (.ref a.c_NoPosition) (.ref a.c_ZeroBottom) = some false
  ks_NoPosition_NoChance : PySem.W.kitOne K (.ref a.c_NoPosition) (.ref a.c_NoChance) = some false
  ks_NoPosition_BadChance : PySem.W.kitOne K (.ref a.c_NoPosition) (.ref a.c_BadChance) = some false
  ks_NoPosition_ZeroPolynomial : PySem.W.kitOne K (.ref a.c_NoPosition) (.ref a.c_ZeroPolynomial) = some false
  ks_NoPosition_BadInterval : PySem.W.kitOne K (.ref a.c_NoPosition) (.ref a.c_BadInterval) = some false
  ks_NoPosition_NoSkip : PySem.W.kitOne K (.ref a.c_NoPosition) (.ref a.c_NoSkip) = some false
  ks_NoPosition_NotComing : PySem.W.kitOne K (.ref a.c_NoPosition) (.ref a.c_NotComing) = some false
  ks_NoPosition_NoPupils : PySem.W.kitOne K (.ref a.c_NoPosition) (.ref a.c_NoPupils) = some false
  ks_NoPosition_BadLength : PySem.W.kitOne K (.ref a.c_NoPosition) (.ref a.c_BadLength) = some false
  ks_NoPosition_AlikePupils : PySem.W.kitOne K (.ref a.c_NoPosition) (.ref a.c_AlikePupils) = some false
  ks_NoPosition_BadLine : PySem.W.kitOne K (.ref a.c_NoPosition) (.ref a.c_BadLine) = some false
  ks_NoPosition_Ended : PySem.W.kitOne K (.ref a.c_NoPosition) (.ref a.c_Ended) = some false
  ks_NoPosition_BadDeed : PySem.W.kitOne K (.ref a.c_NoPosition) (.ref a.c_BadDeed) = some false
  ks_BadQuestion_BadEnds : PySem.W.kitOne K (.ref a.c_BadQuestion) (.ref a.c_BadEnds) = some false
  ks_BadQuestion_BadNode : PySem.W.kitOne K (.ref a.c_BadQuestion) (.ref a.c_BadNode) = some false
  ks_BadQuestion_BadStart : PySem.W.kitOne K (.ref a.c_BadQuestion) (.ref a.c_BadStart) = some false
  ks_BadQuestion_TwiceAsked : PySem.W.kitOne K (.ref a.c_BadQuestion) (.ref a.c_TwiceAsked) = some false
  ks_BadQuestion_NoNode : PySem.W.kitOne K (.ref a.c_BadQuestion) (.ref a.c_NoNode) = some false
  ks_BadQuestion_NoPosition : PySem.W.kitOne K (.ref a.c_BadQuestion) (.ref a.c_NoPosition) = some false
  ks_BadQuestion_BadMarks : PySem.W.kitOne K (.ref a.c_BadQuestion) (.ref a.c_BadMarks) = some false
  ks_BadQuestion_BadLadder : PySem.W.kitOne K (.ref a.c_BadQuestion) (.ref a.c_BadLadder) = some false
  ks_BadQuestion_BadCount : PySem.W.kitOne K (.ref a.c_BadQuestion) (.ref a.c_BadCount) = some false
  ks_BadQuestion_BadRelation : PySem.W.kitOne K (.ref a.c_BadQuestion) (.ref a.c_BadRelation) = some false
  ks_BadQuestion_BadPositions : PySem.W.kitOne K (.ref a.c_BadQuestion) (.ref a.c_BadPositions) = some false
  ks_BadQuestion_NoFinal : PySem.W.kitOne K (.ref a.c_BadQuestion) (.ref a.c_NoFinal) = some false
  ks_BadQuestion_NotReached : PySem.W.kitOne K (.ref a.c_BadQuestion) (.ref a.c_NotReached) = some false
  ks_BadQuestion_NoEnd : PySem.W.kitOne K (.ref a.c_BadQuestion) (.ref a.c_NoEnd) = some false
  ks_BadQuestion_ZeroBottom : PySem.W.kitOne K (.ref a.c_BadQuestion) (.ref a.c_ZeroBottom) = some false
  ks_BadQuestion_NoChance : PySem.W.kitOne K (.ref a.c_BadQuestion) (.ref a.c_NoChance) = some false
  ks_BadQuestion_BadChance : PySem.W.kitOne K (.ref a.c_BadQuestion) (.ref a.c_BadChance) = some false
  ks_BadQuestion_ZeroPolynomial : PySem.W.kitOne K (.ref a.c_BadQuestion) (.ref a.c_ZeroPolynomial) = some false
  ks_BadQuestion_BadInterval : PySem.W.kitOne K (.ref a.c_BadQuestion) (.ref a.c_BadInterval) = some false
  ks_BadQuestion_NoSkip : PySem.W.kitOne K (.ref a.c_BadQuestion) (.ref a.c_NoSkip) = some false
  ks_BadQuestion_NotComing : PySem.W.kitOne K (.ref a.c_BadQuestion) (.ref a.c_NotComing) = some false
  ks_BadQuestion_NoPupils : PySem.W.kitOne K (.ref a.c_BadQuestion) (.ref a.c_NoPupils) = some false
  ks_BadQuestion_BadLength : PySem.W.kitOne K (.ref a.c_BadQuestion) (.ref a.c_BadLength) = some false
  ks_BadQuestion_AlikePupils : PySem.W.kitOne K (.ref a.c_BadQuestion) (.ref a.c_AlikePupils) = some false
  ks_BadQuestion_BadLine : PySem.W.kitOne K (.ref a.c_BadQuestion) (.ref a.c_BadLine) = some false
  ks_BadQuestion_Ended : PySem.W.kitOne K (.ref a.c_BadQuestion) (.ref a.c_Ended) = some false
  ks_BadQuestion_BadDeed : PySem.W.kitOne K (.ref a.c_BadQuestion) (.ref a.c_BadDeed) = some false
  ks_BadMarks_BadEnds : PySem.W.kitOne K (.ref a.c_BadMarks) (.ref a.c_BadEnds) = some false
  ks_BadMarks_BadNode : PySem.W.kitOne K (.ref a.c_BadMarks) (.ref a.c_BadNode) = some false
  ks_BadMarks_BadStart : PySem.W.kitOne K (.ref a.c_BadMarks) (.ref a.c_BadStart) = some false
  ks_BadMarks_TwiceAsked : PySem.W.kitOne K (.ref a.c_BadMarks) (.ref a.c_TwiceAsked) = some false
  ks_BadMarks_NoNode : PySem.W.kitOne K (.ref a.c_BadMarks) (.ref a.c_NoNode) = some false
  ks_BadMarks_NoPosition : PySem.W.kitOne K (.ref a.c_BadMarks) (.ref a.c_NoPosition) = some false
  ks_BadMarks_BadQuestion : PySem.W.kitOne K (.ref a.c_BadMarks) (.ref a.c_BadQuestion) = some false
  ks_BadMarks_BadLadder : PySem.W.kitOne K (.ref a.c_BadMarks) (.ref a.c_BadLadder) = some false
  ks_BadMarks_BadCount : PySem.W.kitOne K (.ref a.c_BadMarks) (.ref a.c_BadCount) = some false
  ks_BadMarks_BadRelation : PySem.W.kitOne K (.ref a.c_BadMarks) (.ref a.c_BadRelation) = some false
  ks_BadMarks_BadPositions : PySem.W.kitOne K (.ref a.c_BadMarks) (.ref a.c_BadPositions) = some false
  ks_BadMarks_NoFinal : PySem.W.kitOne K (.ref a.c_BadMarks) (.ref a.c_NoFinal) = some false
  ks_BadMarks_NotReached : PySem.W.kitOne K (.ref a.c_BadMarks) (.ref a.c_NotReached) = some false
  ks_BadMarks_NoEnd : PySem.W.kitOne K (.ref a.c_BadMarks) (.ref a.c_NoEnd) = some false
  ks_BadMarks_ZeroBottom : PySem.W.kitOne K (.ref a.c_BadMarks) (.ref a.c_ZeroBottom) = some false
  ks_BadMarks_NoChance : PySem.W.kitOne K (.ref a.c_BadMarks) (.ref a.c_NoChance) = some false
  ks_BadMarks_BadChance : PySem.W.kitOne K (.ref a.c_BadMarks) (.ref a.c_BadChance) = some false
  ks_BadMarks_ZeroPolynomial : PySem.W.kitOne K (.ref a.c_BadMarks) (.ref a.c_ZeroPolynomial) = some false
  ks_BadMarks_BadInterval : PySem.W.kitOne K (.ref a.c_BadMarks) (.ref a.c_BadInterval) = some false
  ks_BadMarks_NoSkip : PySem.W.kitOne K (.ref a.c_BadMarks) (.ref a.c_NoSkip) = some false
  ks_BadMarks_NotComing : PySem.W.kitOne K (.ref a.c_BadMarks) (.ref a.c_NotComing) = some false
  ks_BadMarks_NoPupils : PySem.W.kitOne K (.ref a.c_BadMarks) (.ref a.c_NoPupils) = some false
  ks_BadMarks_BadLength : PySem.W.kitOne K (.ref a.c_BadMarks) (.ref a.c_BadLength) = some false
  ks_BadMarks_AlikePupils : PySem.W.kitOne K (.ref a.c_BadMarks) (.ref a.c_AlikePupils) = some false
  ks_BadMarks_BadLine : PySem.W.kitOne K (.ref a.c_BadMarks) (.ref a.c_BadLine) = some false
  ks_BadMarks_Ended : PySem.W.kitOne K (.ref a.c_BadMarks) (.ref a.c_Ended) = some false
  ks_BadMarks_BadDeed : PySem.W.kitOne K (.ref a.c_BadMarks) (.ref a.c_BadDeed) = some false
  ks_BadLadder_BadEnds : PySem.W.kitOne K (.ref a.c_BadLadder) (.ref a.c_BadEnds) = some false
  ks_BadLadder_BadNode : PySem.W.kitOne K (.ref a.c_BadLadder) (.ref a.c_BadNode) = some false
  ks_BadLadder_BadStart : PySem.W.kitOne K (.ref a.c_BadLadder) (.ref a.c_BadStart) = some false
  ks_BadLadder_TwiceAsked : PySem.W.kitOne K (.ref a.c_BadLadder) (.ref a.c_TwiceAsked) = some false
  ks_BadLadder_NoNode : PySem.W.kitOne K (.ref a.c_BadLadder) (.ref a.c_NoNode) = some false
  ks_BadLadder_NoPosition : PySem.W.kitOne K (.ref a.c_BadLadder) (.ref a.c_NoPosition) = some false
  ks_BadLadder_BadQuestion : PySem.W.kitOne K (.ref a.c_BadLadder) (.ref a.c_BadQuestion) = some false
  ks_BadLadder_BadMarks : PySem.W.kitOne K (.ref a.c_BadLadder) (.ref a.c_BadMarks) = some false
  ks_BadLadder_BadCount : PySem.W.kitOne K (.ref a.c_BadLadder) (.ref a.c_BadCount) = some false
  ks_BadLadder_BadRelation : PySem.W.kitOne K (.ref a.c_BadLadder) (.ref a.c_BadRelation) = some false
  ks_BadLadder_BadPositions : PySem.W.kitOne K (.ref a.c_BadLadder) (.ref a.c_BadPositions) = some false
  ks_BadLadder_NoFinal : PySem.W.kitOne K (.ref a.c_BadLadder) (.ref a.c_NoFinal) = some false
  ks_BadLadder_NotReached : PySem.W.kitOne K (.ref a.c_BadLadder) (.ref a.c_NotReached) = some false
  ks_BadLadder_NoEnd : PySem.W.kitOne K (.ref a.c_BadLadder) (.ref a.c_NoEnd) = some false
  ks_BadLadder_ZeroBottom : PySem.W.kitOne K (.ref a.c_BadLadder) (.ref a.c_ZeroBottom) = some false
  ks_BadLadder_NoChance : PySem.W.kitOne K (.ref a.c_BadLadder) (.ref a.c_NoChance) = some false
  ks_BadLadder_BadChance : PySem.W.kitOne K (.ref a.c_BadLadder) (.ref a.c_BadChance) = some false
  ks_BadLadder_ZeroPolynomial : PySem.W.kitOne K (.ref a.c_BadLadder) (.ref a.c_ZeroPolynomial) = some false
  ks_BadLadder_BadInterval : PySem.W.kitOne K (.ref a.c_BadLadder) (.ref a.c_BadInterval) = some false
  ks_BadLadder_NoSkip : PySem.W.kitOne K (.ref a.c_BadLadder) (.ref a.c_NoSkip) = some false
  ks_BadLadder_NotComing : PySem.W.kitOne K (.ref a.c_BadLadder) (.ref a.c_NotComing) = some false
  ks_BadLadder_NoPupils : PySem.W.kitOne K (.ref a.c_BadLadder) (.ref a.c_NoPupils) = some false
  ks_BadLadder_BadLength : PySem.W.kitOne K (.ref a.c_BadLadder) (.ref a.c_BadLength) = some false
  ks_BadLadder_AlikePupils : PySem.W.kitOne K (.ref a.c_BadLadder) (.ref a.c_AlikePupils) = some false
  ks_BadLadder_BadLine : PySem.W.kitOne K (.ref a.c_BadLadder) (.ref a.c_BadLine) = some false
  ks_BadLadder_Ended : PySem.W.kitOne K (.ref a.c_BadLadder) (.ref a.c_Ended) = some false
  ks_BadLadder_BadDeed : PySem.W.kitOne K (.ref a.c_BadLadder) (.ref a.c_BadDeed) = some false
  ks_BadCount_BadEnds : PySem.W.kitOne K (.ref a.c_BadCount) (.ref a.c_BadEnds) = some false
  ks_BadCount_BadNode : PySem.W.kitOne K (.ref a.c_BadCount) (.ref a.c_BadNode) = some false
  ks_BadCount_BadStart : PySem.W.kitOne K (.ref a.c_BadCount) (.ref a.c_BadStart) = some false
  ks_BadCount_TwiceAsked : PySem.W.kitOne K (.ref a.c_BadCount) (.ref a.c_TwiceAsked) = some false
  ks_BadCount_NoNode : PySem.W.kitOne K (.ref a.c_BadCount) (.ref a.c_NoNode) = some false
  ks_BadCount_NoPosition : PySem.W.kitOne K (.ref a.c_BadCount) (.ref a.c_NoPosition) = some false
  ks_BadCount_BadQuestion : PySem.W.kitOne K (.ref a.c_BadCount) (.ref a.c_BadQuestion) = some false
  ks_BadCount_BadMarks : PySem.W.kitOne K (.ref a.c_BadCount) (.ref a.c_BadMarks) = some false
  ks_BadCount_BadLadder : PySem.W.kitOne K (.ref a.c_BadCount) (.ref a.c_BadLadder) = some false
  ks_BadCount_BadRelation : PySem.W.kitOne K (.ref a.c_BadCount) (.ref a.c_BadRelation) = some false
  ks_BadCount_BadPositions : PySem.W.kitOne K (.ref a.c_BadCount) (.ref a.c_BadPositions) = some false
  ks_BadCount_NoFinal : PySem.W.kitOne K (.ref a.c_BadCount) (.ref a.c_NoFinal) = some false
  ks_BadCount_NotReached : PySem.W.kitOne K (.ref a.c_BadCount) (.ref a.c_NotReached) = some false
  ks_BadCount_NoEnd : PySem.W.kitOne K (.ref a.c_BadCount) (.ref a.c_NoEnd) = some false
  ks_BadCount_ZeroBottom : PySem.W.kitOne K (.ref a.c_BadCount) (.ref a.c_ZeroBottom) = some false
  ks_BadCount_NoChance : PySem.W.kitOne K (.ref a.c_BadCount) (.ref a.c_NoChance) = some false
  ks_BadCount_BadChance : PySem.W.kitOne K (.ref a.c_BadCount) (.ref a.c_BadChance) = some false
  ks_BadCount_ZeroPolynomial : PySem.W.kitOne K (.ref a.c_BadCount) (.ref a.c_ZeroPolynomial) = some false
  ks_BadCount_BadInterval : PySem.W.kitOne K (.ref a.c_BadCount) (.ref a.c_BadInterval) = some false
  ks_BadCount_NoSkip : PySem.W.kitOne K (.ref a.c_BadCount) (.ref a.c_NoSkip) = some false
  ks_BadCount_NotComing : PySem.W.kitOne K (.ref a.c_BadCount) (.ref a.c_NotComing) = some false
  ks_BadCount_NoPupils : PySem.W.kitOne K (.ref a.c_BadCount) (.ref a.c_NoPupils) = some false
  ks_BadCount_BadLength : PySem.W.kitOne K (.ref a.c_BadCount) (.ref a.c_BadLength) = some false
  ks_BadCount_AlikePupils : PySem.W.kitOne K (.ref a.c_BadCount) (.ref a.c_AlikePupils) = some false
  ks_BadCount_BadLine : PySem.W.kitOne K (.ref a.c_BadCount) (.ref a.c_BadLine) = some false
  ks_BadCount_Ended : PySem.W.kitOne K (.ref a.c_BadCount) (.ref a.c_Ended) = some false
  ks_BadCount_BadDeed : PySem.W.kitOne K (.ref a.c_BadCount) (.ref a.c_BadDeed) = some false
  ks_BadRelation_BadEnds : PySem.W.kitOne K (.ref a.c_BadRelation) (.ref a.c_BadEnds) = some false
  ks_BadRelation_BadNode : PySem.W.kitOne K (.ref a.c_BadRelation) (.ref a.c_BadNode) = some false
  ks_BadRelation_BadStart : PySem.W.kitOne K (.ref a.c_BadRelation) (.ref a.c_BadStart) = some false
  ks_BadRelation_TwiceAsked : PySem.W.kitOne K (.ref a.c_BadRelation) (.ref a.c_TwiceAsked) = some false
  ks_BadRelation_NoNode : PySem.W.kitOne K (.ref a.c_BadRelation) (.ref a.c_NoNode) = some false
  ks_BadRelation_NoPosition : PySem.W.kitOne K (.ref a.c_BadRelation) (.ref a.c_NoPosition) = some false
  ks_BadRelation_BadQuestion : PySem.W.kitOne K (.ref a.c_BadRelation) (.ref a.c_BadQuestion) = some false
  ks_BadRelation_BadMarks : PySem.W.kitOne K (.ref a.c_BadRelation) (.ref a.c_BadMarks) = some false
  ks_BadRelation_BadLadder : PySem.W.kitOne K (.ref a.c_BadRelation) (.ref a.c_BadLadder) = some false
  ks_BadRelation_BadCount : PySem.W.kitOne K (.ref a.c_BadRelation) (.ref a.c_BadCount) = some false
  ks_BadRelation_BadPositions : PySem.W.kitOne K (.ref a.c_BadRelation) (.ref a.c_BadPositions) = some false
  ks_BadRelation_NoFinal : PySem.W.kitOne K (.ref a.c_BadRelation) (.ref a.c_NoFinal) = some false
  ks_BadRelation_NotReached : PySem.W.kitOne K (.ref a.c_BadRelation) (.ref a.c_NotReached) = some false
  ks_BadRelation_NoEnd : PySem.W.kitOne K (.ref a.c_BadRelation) (.ref a.c_NoEnd) = some false
  ks_BadRelation_ZeroBottom : PySem.W.kitOne K (.ref a.c_BadRelation) (.ref a.c_ZeroBottom) = some false
  ks_BadRelation_NoChance : PySem.W.kitOne K (.ref a.c_BadRelation) (.ref a.c_NoChance) = some false
  ks_BadRelation_BadChance : PySem.W.kitOne K (.ref a.c_BadRelation) (.ref a.c_BadChance) = some false
  ks_BadRelation_ZeroPolynomial : PySem.W.kitOne K (.ref a.c_BadRelation) (.ref a.c_ZeroPolynomial) = some false
  ks_BadRelation_BadInterval : PySem.W.kitOne K (.ref a.c_BadRelation) (.ref a.c_BadInterval) = some false
  ks_BadRelation_NoSkip : PySem.W.kitOne K (.ref a.c_BadRelation) (.ref a.c_NoSkip) = some false
  ks_BadRelation_NotComing : PySem.W.kitOne K (.ref a.c_BadRelation) (.ref a.c_NotComing) = some false
  ks_BadRelation_NoPupils : PySem.W.kitOne K (.ref a.c_BadRelation) (.ref a.c_NoPupils) = some false
  ks_BadRelation_BadLength : PySem.W.kitOne K (.ref a.c_BadRelation) (.ref a.c_BadLength) = some false
  ks_BadRelation_AlikePupils : PySem.W.kitOne K (.ref a.c_BadRelation) (.ref a.c_AlikePupils) = some false
  ks_BadRelation_BadLine : PySem.W.kitOne K (.ref a.c_BadRelation) (.ref a.c_BadLine) = some false
  ks_BadRelation_Ended : PySem.W.kitOne K (.ref a.c_BadRelation) (.ref a.c_Ended) = some false
  ks_BadRelation_BadDeed : PySem.W.kitOne K (.ref a.c_BadRelation) (.ref a.c_BadDeed) = some false
  ks_BadPositions_BadEnds : PySem.W.kitOne K (.ref a.c_BadPositions) (.ref a.c_BadEnds) = some false
  ks_BadPositions_BadNode : PySem.W.kitOne K (.ref a.c_BadPositions) (.ref a.c_BadNode) = some false
  ks_BadPositions_BadStart : PySem.W.kitOne K (.ref a.c_BadPositions) (.ref a.c_BadStart) = some false
  ks_BadPositions_TwiceAsked : PySem.W.kitOne K (.ref a.c_BadPositions) (.ref a.c_TwiceAsked) = some false
  ks_BadPositions_NoNode : PySem.W.kitOne K (.ref a.c_BadPositions) (.ref a.c_NoNode) = some false
  ks_BadPositions_NoPosition : PySem.W.kitOne K (.ref a.c_BadPositions) (.ref a.c_NoPosition) = some false
  ks_BadPositions_BadQuestion : PySem.W.kitOne K (.ref a.c_BadPositions) (.ref a.c_BadQuestion) = some false
  ks_BadPositions_BadMarks : PySem.W.kitOne K (.ref a.c_BadPositions) (.ref a.c_BadMarks) = some false
  ks_BadPositions_BadLadder : PySem.W.kitOne K (.ref a.c_BadPositions) (.ref a.c_BadLadder) = some false
  ks_BadPositions_BadCount : PySem.W.kitOne K (.ref a.c_BadPositions) (.ref a.c_BadCount) = some false
  ks_BadPositions_BadRelation : PySem.W.kitOne K (.ref a.c_BadPositions) (.ref a.c_BadRelation) = some false
  ks_BadPositions_NoFinal : PySem.W.kitOne K (.ref a.c_BadPositions) (.ref a.c_NoFinal) = some false
  ks_BadPositions_NotReached : PySem.W.kitOne K (.ref a.c_BadPositions) (.ref a.c_NotReached) = some false
  ks_BadPositions_NoEnd : PySem.W.kitOne K (.ref a.c_BadPositions) (.ref a.c_NoEnd) = some false
  ks_BadPositions_ZeroBottom : PySem.W.kitOne K (.ref a.c_BadPositions) (.ref a.c_ZeroBottom) = some false
  ks_BadPositions_NoChance : PySem.W.kitOne K (.ref a.c_BadPositions) (.ref a.c_NoChance) = some false
  ks_BadPositions_BadChance : PySem.W.kitOne K (.ref a.c_BadPositions) (.ref a.c_BadChance) = some false
  ks_BadPositions_ZeroPolynomial : PySem.W.kitOne K (.ref a.c_BadPositions) (.ref a.c_ZeroPolynomial) = some false
  ks_BadPositions_BadInterval : PySem.W.kitOne K (.ref a.c_BadPositions) (.ref a.c_BadInterval) = some false
  ks_BadPositions_NoSkip : PySem.W.kitOne K (.ref a.c_BadPositions) (.ref a.c_NoSkip) = some false
  ks_BadPositions_NotComing : PySem.W.kitOne K (.ref a.c_BadPositions) (.ref a.c_NotComing) = some false
  ks_BadPositions_NoPupils : PySem.W.kitOne K (.ref a.c_BadPositions) (.ref a.c_NoPupils) = some false
  ks_BadPositions_BadLength : PySem.W.kitOne K (.ref a.c_BadPositions) (.ref a.c_BadLength) = some false
  ks_BadPositions_AlikePupils : PySem.W.kitOne K (.ref a.c_BadPositions) (.ref a.c_AlikePupils) = some false
  ks_BadPositions_BadLine : PySem.W.kitOne K (.ref a.c_BadPositions) (.ref a.c_BadLine) = some false
  ks_BadPositions_Ended : PySem.W.kitOne K (.ref a.c_BadPositions) (.ref a.c_Ended) = some false
  ks_BadPositions_BadDeed : PySem.W.kitOne K (.ref a.c_BadPositions) (.ref a.c_BadDeed) = some false
  ks_NoFinal_BadEnds : PySem.W.kitOne K (.ref a.c_NoFinal) (.ref a.c_BadEnds) = some false
  ks_NoFinal_BadNode : PySem.W.kitOne K (.ref a.c_NoFinal) (.ref a.c_BadNode) = some false
  ks_NoFinal_BadStart : PySem.W.kitOne K (.ref a.c_NoFinal) (.ref a.c_BadStart) = some false
  ks_NoFinal_TwiceAsked : PySem.W.kitOne K (.ref a.c_NoFinal) (.ref a.c_TwiceAsked) = some false
  ks_NoFinal_NoNode : PySem.W.kitOne K (.ref a.c_NoFinal) (.ref a.c_NoNode) = some false
  ks_NoFinal_NoPosition : PySem.W.kitOne K (.ref a.c_NoFinal) (.ref a.c_NoPosition) = some false
  ks_NoFinal_BadQuestion : PySem.W.kitOne K (.ref a.c_NoFinal) (.ref a.c_BadQuestion) = some false
  ks_NoFinal_BadMarks : PySem.W.kitOne K (.ref a.c_NoFinal) (.ref a.c_BadMarks) = some false
  ks_NoFinal_BadLadder : PySem.W.kitOne K (.ref a.c_NoFinal) (.ref a.c_BadLadder) = some false
  ks_NoFinal_BadCount : PySem.W.kitOne K (.ref a.c_NoFinal) (.ref a.c_BadCount) = some false
  ks_NoFinal_BadRelation : PySem.W.kitOne K (.ref a.c_NoFinal) (.ref a.c_BadRelation) = some false
  ks_NoFinal_BadPositions : PySem.W.kitOne K (.ref a.c_NoFinal) (.ref a.c_BadPositions) = some false
  ks_NoFinal_NotReached : PySem.W.kitOne K (.ref a.c_NoFinal) (.ref a.c_NotReached) = some false
  ks_NoFinal_NoEnd : PySem.W.kitOne K (.ref a.c_NoFinal) (.ref a.c_NoEnd) = some false
  ks_NoFinal_ZeroBottom : PySem.W.kitOne K (.ref a.c_NoFinal) (.ref a.c_ZeroBottom) = some false
  ks_NoFinal_NoChance : PySem.W.kitOne K (.ref a.c_NoFinal) (.ref a.c_NoChance) = some false
  ks_NoFinal_BadChance : PySem.W.kitOne K (.ref a.c_NoFinal) (.ref a.c_BadChance) = some false
  ks_NoFinal_ZeroPolynomial : PySem.W.kitOne K (.ref a.c_NoFinal) (.ref a.c_ZeroPolynomial) = some false
  ks_NoFinal_BadInterval : PySem.W.kitOne K (.ref a.c_NoFinal) (.ref a.c_BadInterval) = some false
  ks_NoFinal_NoSkip : PySem.W.kitOne K (.ref a.c_NoFinal) (.ref a.c_NoSkip) = some false
  ks_NoFinal_NotComing : PySem.W.kitOne K (.ref a.c_NoFinal) (.ref a.c_NotComing) = some false
  ks_NoFinal_NoPupils : PySem.W.kitOne K (.ref a.c_NoFinal) (.ref a.c_NoPupils) = some false
  ks_NoFinal_BadLength : PySem.W.kitOne K (.ref a.c_NoFinal) (.ref a.c_BadLength) = some false
  ks_NoFinal_AlikePupils : PySem.W.kitOne K (.ref a.c_NoFinal) (.ref a.c_AlikePupils) = some false
  ks_NoFinal_BadLine : PySem.W.kitOne K (.ref a.c_NoFinal) (.ref a.c_BadLine) = some false
  ks_NoFinal_Ended : PySem.W.kitOne K (.ref a.c_NoFinal) (.ref a.c_Ended) = some false
  ks_NoFinal_BadDeed : PySem.W.kitOne K (.ref a.c_NoFinal) (.ref a.c_BadDeed) = some false
  ks_NotReached_BadEnds : PySem.W.kitOne K (.ref a.c_NotReached) (.ref a.c_BadEnds) = some false
  ks_NotReached_BadNode : PySem.W.kitOne K (.ref a.c_NotReached) (.ref a.c_BadNode) = some false
  ks_NotReached_BadStart : PySem.W.kitOne K (.ref a.c_NotReached) (.ref a.c_BadStart) = some false
  ks_NotReached_TwiceAsked : PySem.W.kitOne K (.ref a.c_NotReached) (.ref a.c_TwiceAsked) = some false
  ks_NotReached_NoNode : PySem.W.kitOne K (.ref a.c_NotReached) (.ref a.c_NoNode) = some false
  ks_NotReached_NoPosition : PySem.W.kitOne K (.ref a.c_NotReached) (.ref a.c_NoPosition) = some false
  ks_NotReached_BadQuestion : PySem.W.kitOne K (.ref a.c_NotReached) (.ref a.c_BadQuestion) = some false
  ks_NotReached_BadMarks : PySem.W.kitOne K (.ref a.c_NotReached) (.ref a.c_BadMarks) = some false
  ks_NotReached_BadLadder : PySem.W.kitOne K (.ref a.c_NotReached) (.ref a.c_BadLadder) = some false
  ks_NotReached_BadCount : PySem.W.kitOne K (.ref a.c_NotReached) (.ref a.c_BadCount) = some false
  ks_NotReached_BadRelation : PySem.W.kitOne K (.ref a.c_NotReached) (.ref a.c_BadRelation) = some false
  ks_NotReached_BadPositions : PySem.W.kitOne K (.ref a.c_NotReached) (.ref a.c_BadPositions) = some false
  ks_NotReached_NoFinal : PySem.W.kitOne K (.ref a.c_NotReached) (.ref a.c_NoFinal) = some false
  ks_NotReached_NoEnd : PySem.W.kitOne K (.ref a.c_NotReached) (.ref a.c_NoEnd) = some false
  ks_NotReached_ZeroBottom : PySem.W.kitOne K (.ref a.c_NotReached) (.ref a.c_ZeroBottom) = some false
  ks_NotReached_NoChance : PySem.W.kitOne K (.ref a.c_NotReached) (.ref a.c_NoChance) = some false
  ks_NotReached_BadChance : PySem.W.kitOne K (.ref a.c_NotReached) (.ref a.c_BadChance) = some false
  ks_NotReached_ZeroPolynomial : PySem.W.kitOne K (.ref a.c_NotReached) (.ref a.c_ZeroPolynomial) = some false
  ks_NotReached_BadInterval : PySem.W.kitOne K (.ref a.c_NotReached) (.ref a.c_BadInterval) = some false
  ks_NotReached_NoSkip : PySem.W.kitOne K (.ref a.c_NotReached) (.ref a.c_NoSkip) = some false
  ks_NotReached_NotComing : PySem.W.kitOne K (.ref a.c_NotReached) (.ref a.c_NotComing) = some false
  ks_NotReached_NoPupils : PySem.W.kitOne K (.ref a.c_NotReached) (.ref a.c_NoPupils) = some false
  ks_NotReached_BadLength : PySem.W.kitOne K (.ref a.c_NotReached) (.ref a.c_BadLength) = some false
  ks_NotReached_AlikePupils : PySem.W.kitOne K (.ref a.c_NotReached) (.ref a.c_AlikePupils) = some false
  ks_NotReached_BadLine : PySem.W.kitOne K (.ref a.c_NotReached) (.ref a.c_BadLine) = some false
  ks_NotReached_Ended : PySem.W.kitOne K (.ref a.c_NotReached) (.ref a.c_Ended) = some false
  ks_NotReached_BadDeed : PySem.W.kitOne K (.ref a.c_NotReached) (.ref a.c_BadDeed) = some false
  ks_NoEnd_BadEnds : PySem.W.kitOne K (.ref a.c_NoEnd) (.ref a.c_BadEnds) = some false
  ks_NoEnd_BadNode : PySem.W.kitOne K (.ref a.c_NoEnd) (.ref a.c_BadNode) = some false
  ks_NoEnd_BadStart : PySem.W.kitOne K (.ref a.c_NoEnd) (.ref a.c_BadStart) = some false
  ks_NoEnd_TwiceAsked : PySem.W.kitOne K (.ref a.c_NoEnd) (.ref a.c_TwiceAsked) = some false
  ks_NoEnd_NoNode : PySem.W.kitOne K (.ref a.c_NoEnd) (.ref a.c_NoNode) = some false
  ks_NoEnd_NoPosition : PySem.W.kitOne K (.ref a.c_NoEnd) (.ref a.c_NoPosition) = some false
  ks_NoEnd_BadQuestion : PySem.W.kitOne K (.ref a.c_NoEnd) (.ref a.c_BadQuestion) = some false
  ks_NoEnd_BadMarks : PySem.W.kitOne K (.ref a.c_NoEnd) (.ref a.c_BadMarks) = some false
  ks_NoEnd_BadLadder : PySem.W.kitOne K (.ref a.c_NoEnd) (.ref a.c_BadLadder) = some false
  ks_NoEnd_BadCount : PySem.W.kitOne K (.ref a.c_NoEnd) (.ref a.c_BadCount) = some false
  ks_NoEnd_BadRelation : PySem.W.kitOne K (.ref a.c_NoEnd) (.ref a.c_BadRelation) = some false
  ks_NoEnd_BadPositions : PySem.W.kitOne K (.ref a.c_NoEnd) (.ref a.c_BadPositions) = some false
  ks_NoEnd_NoFinal : PySem.W.kitOne K (.ref a.c_NoEnd) (.ref a.c_NoFinal) = some false
  ks_NoEnd_NotReached : PySem.W.kitOne K (.ref a.c_NoEnd) (.ref a.c_NotReached) = some false
  ks_NoEnd_ZeroBottom : PySem.W.kitOne K (.ref a.c_NoEnd) (.ref a.c_ZeroBottom) = some false
  ks_NoEnd_NoChance : PySem.W.kitOne K (.ref a.c_NoEnd) (.ref a.c_NoChance) = some false
  ks_NoEnd_BadChance : PySem.W.kitOne K (.ref a.c_NoEnd) (.ref a.c_BadChance) = some false
  ks_NoEnd_ZeroPolynomial : PySem.W.kitOne K (.ref a.c_NoEnd) (.ref a.c_ZeroPolynomial) = some false
  ks_NoEnd_BadInterval : PySem.W.kitOne K (.ref a.c_NoEnd) (.ref a.c_BadInterval) = some false
  ks_NoEnd_NoSkip : PySem.W.kitOne K (.ref a.c_NoEnd) (.ref a.c_NoSkip) = some false
  ks_NoEnd_NotComing : PySem.W.kitOne K (.ref a.c_NoEnd) (.ref a.c_NotComing) = some false
  ks_NoEnd_NoPupils : PySem.W.kitOne K (.ref a.c_NoEnd) (.ref a.c_NoPupils) = some false
  ks_NoEnd_BadLength : PySem.W.kitOne K (.ref a.c_NoEnd) (.ref a.c_BadLength) = some false
  ks_NoEnd_AlikePupils : PySem.W.kitOne K (.ref a.c_NoEnd) (.ref a.c_AlikePupils) = some false
  ks_NoEnd_BadLine : PySem.W.kitOne K (.ref a.c_NoEnd) (.ref a.c_BadLine) = some false
  ks_NoEnd_Ended : PySem.W.kitOne K (.ref a.c_NoEnd) (.ref a.c_Ended) = some false
  ks_NoEnd_BadDeed : PySem.W.kitOne K (.ref a.c_NoEnd) (.ref a.c_BadDeed) = some false
  ks_ZeroBottom_BadEnds : PySem.W.kitOne K (.ref a.c_ZeroBottom) (.ref a.c_BadEnds) = some false
  ks_ZeroBottom_BadNode : PySem.W.kitOne K (.ref a.c_ZeroBottom) (.ref a.c_BadNode) = some false
  ks_ZeroBottom_BadStart : PySem.W.kitOne K (.ref a.c_ZeroBottom) (.ref a.c_BadStart) = some false
  ks_ZeroBottom_TwiceAsked : PySem.W.kitOne K (.ref a.c_ZeroBottom) (.ref a.c_TwiceAsked) = some false
  ks_ZeroBottom_NoNode : PySem.W.kitOne K (.ref a.c_ZeroBottom) (.ref a.c_NoNode) = some false
  ks_ZeroBottom_NoPosition : PySem.W.kitOne K (.ref a.c_ZeroBottom) (.ref a.c_NoPosition) = some false
  ks_ZeroBottom_BadQuestion : PySem.W.kitOne K (.ref a.c_ZeroBottom) (.ref a.c_BadQuestion) = some false
  ks_ZeroBottom_BadMarks : PySem.W.kitOne K (.ref a.c_ZeroBottom) (.ref a.c_BadMarks) = some false
  ks_ZeroBottom_BadLadder : PySem.W.kitOne K (.ref a.c_ZeroBottom) (.ref a.c_BadLadder) = some false
  ks_ZeroBottom_BadCount : PySem.W.kitOne K (.ref a.c_ZeroBottom) (.ref a.c_BadCount) = some false
  ks_ZeroBottom_BadRelation : PySem.W.kitOne K (.ref a.c_ZeroBottom) (.ref a.c_BadRelation) = some false
  ks_ZeroBottom_BadPositions : PySem.W.kitOne K (.ref a.c_ZeroBottom) (.ref a.c_BadPositions) = some false
  ks_ZeroBottom_NoFinal : PySem.W.kitOne K (.ref a.c_ZeroBottom) (.ref a.c_NoFinal) = some false
  ks_ZeroBottom_NotReached : PySem.W.kitOne K (.ref a.c_ZeroBottom) (.ref a.c_NotReached) = some false
  ks_ZeroBottom_NoEnd : PySem.W.kitOne K (.ref a.c_ZeroBottom) (.ref a.c_NoEnd) = some false
  ks_ZeroBottom_NoChance : PySem.W.kitOne K (.ref a.c_ZeroBottom) (.ref a.c_NoChance) = some false
  ks_ZeroBottom_BadChance : PySem.W.kitOne K (.ref a.c_ZeroBottom) (.ref a.c_BadChance) = some false
  ks_ZeroBottom_ZeroPolynomial : PySem.W.kitOne K (.ref a.c_ZeroBottom) (.ref a.c_ZeroPolynomial) = some false
  ks_ZeroBottom_BadInterval : PySem.W.kitOne K (.ref a.c_ZeroBottom) (.ref a.c_BadInterval) = some false
  ks_ZeroBottom_NoSkip : PySem.W.kitOne K (.ref a.c_ZeroBottom) (.ref a.c_NoSkip) = some false
  ks_ZeroBottom_NotComing : PySem.W.kitOne K (.ref a.c_ZeroBottom) (.ref a.c_NotComing) = some false
  ks_ZeroBottom_NoPupils : PySem.W.kitOne K (.ref a.c_ZeroBottom) (.ref a.c_NoPupils) = some false
  ks_ZeroBottom_BadLength : PySem.W.kitOne K (.ref a.c_ZeroBottom) (.ref a.c_BadLength) = some false
  ks_ZeroBottom_AlikePupils : PySem.W.kitOne K (.ref a.c_ZeroBottom) (.ref a.c_AlikePupils) = some false
  ks_ZeroBottom_BadLine : PySem.W.kitOne K (.ref a.c_ZeroBottom) (.ref a.c_BadLine) = some false
  ks_ZeroBottom_Ended : PySem.W.kitOne K (.ref a.c_ZeroBottom) (.ref a.c_Ended) = some false
  ks_ZeroBottom_BadDeed : PySem.W.kitOne K (.ref a.c_ZeroBottom) (.ref a.c_BadDeed) = some false
  ks_NoChance_BadEnds : PySem.W.kitOne K (.ref a.c_NoChance) (.ref a.c_BadEnds) = some false
  ks_NoChance_BadNode : PySem.W.kitOne K (.ref a.c_NoChance) (.ref a.c_BadNode) = some false
  ks_NoChance_BadStart : PySem.W.kitOne K (.ref a.c_NoChance) (.ref a.c_BadStart) = some false
  ks_NoChance_TwiceAsked : PySem.W.kitOne K (.ref a.c_NoChance) (.ref a.c_TwiceAsked) = some false
  ks_NoChance_NoNode : PySem.W.kitOne K (.ref a.c_NoChance) (.ref a.c_NoNode) = some false
  ks_NoChance_NoPosition : PySem.W.kitOne K (.ref a.c_NoChance) (.ref a.c_NoPosition) = some false
  ks_NoChance_BadQuestion : PySem.W.kitOne K (.ref a.c_NoChance) (.ref a.c_BadQuestion) = some false
  ks_NoChance_BadMarks : PySem.W.kitOne K (.ref a.c_NoChance) (.ref a.c_BadMarks) = some false
  ks_NoChance_BadLadder : PySem.W.kitOne K (.ref a.c_NoChance) (.ref a.c_BadLadder) = some false
  ks_NoChance_BadCount : PySem.W.kitOne K (.ref a.c_NoChance) (.ref a.c_BadCount) = some false
  ks_NoChance_BadRelation : PySem.W.kitOne K (.ref a.c_NoChance) (.ref a.c_BadRelation) = some false
  ks_NoChance_BadPositions : PySem.W.kitOne K (.ref a.c_NoChance) (.ref a.c_BadPositions) = some false
  ks_NoChance_NoFinal : PySem.W.kitOne K (.ref a.c_NoChance) (.ref a.c_NoFinal) = some false
  ks_NoChance_NotReached : PySem.W.kitOne K (.ref a.c_NoChance) (.ref a.c_NotReached) = some false
  ks_NoChance_NoEnd : PySem.W.kitOne K (.ref a.c_NoChance) (.ref a.c_NoEnd) = some false
  ks_NoChance_ZeroBottom : PySem.W.kitOne K (.ref a.c_NoChance) (.ref a.c_ZeroBottom) = some false
  ks_NoChance_BadChance : PySem.W.kitOne K (.ref a.c_NoChance) (.ref a.c_BadChance) = some false
  ks_NoChance_ZeroPolynomial : PySem.W.kitOne K (.ref a.c_NoChance) (.ref a.c_ZeroPolynomial) = some false
  ks_NoChance_BadInterval : PySem.W.kitOne K (.ref a.c_NoChance) (.ref a.c_BadInterval) = some false
  ks_NoChance_NoSkip : PySem.W.kitOne K (.ref a.c_NoChance) (.ref a.c_NoSkip) = some false
  ks_NoChance_NotComing : PySem.W.kitOne K (.ref a.c_NoChance) (.ref a.c_NotComing) = some false
  ks_NoChance_NoPupils : PySem.W.kitOne K (.ref a.c_NoChance) (.ref a.c_NoPupils) = some false
  ks_NoChance_BadLength : PySem.W.kitOne K (.ref a.c_NoChance) (.ref a.c_BadLength) = some false
  ks_NoChance_AlikePupils : PySem.W.kitOne K (.ref a.c_NoChance) (.ref a.c_AlikePupils) = some false
  ks_NoChance_BadLine : PySem.W.kitOne K (.ref a.c_NoChance) (.ref a.c_BadLine) = some false
  ks_NoChance_Ended : PySem.W.kitOne K (.ref a.c_NoChance) (.ref a.c_Ended) = some false
  ks_NoChance_BadDeed : PySem.W.kitOne K (.ref a.c_NoChance) (.ref a.c_BadDeed) = some false
  ks_BadChance_BadEnds : PySem.W.kitOne K (.ref a.c_BadChance) (.ref a.c_BadEnds) = some false
  ks_BadChance_BadNode : PySem.W.kitOne K (.ref a.c_BadChance) (.ref a.c_BadNode) = some false
  ks_BadChance_BadStart : PySem.W.kitOne K (.ref a.c_BadChance) (.ref a.c_BadStart) = some false
  ks_BadChance_TwiceAsked : PySem.W.kitOne K (.ref a.c_BadChance) (.ref a.c_TwiceAsked) = some false
  ks_BadChance_NoNode : PySem.W.kitOne K (.ref a.c_BadChance) (.ref a.c_NoNode) = some false
  ks_BadChance_NoPosition : PySem.W.kitOne K (.ref a.c_BadChance) (.ref a.c_NoPosition) = some false
  ks_BadChance_BadQuestion : PySem.W.kitOne K (.ref a.c_BadChance) (.ref a.c_BadQuestion) = some false
  ks_BadChance_BadMarks : PySem.W.kitOne K (.ref a.c_BadChance) (.ref a.c_BadMarks) = some false
  ks_BadChance_BadLadder : PySem.W.kitOne K (.ref a.c_BadChance) (.ref a.c_BadLadder) = some false
  ks_BadChance_BadCount : PySem.W.kitOne K (.ref a.c_BadChance) (.ref a.c_BadCount) = some false
  ks_BadChance_BadRelation : PySem.W.kitOne K (.ref a.c_BadChance) (.ref a.c_BadRelation) = some false
  ks_BadChance_BadPositions : PySem.W.kitOne K (.ref a.c_BadChance) (.ref a.c_BadPositions) = some false
  ks_BadChance_NoFinal : PySem.W.kitOne K (.ref a.c_BadChance) (.ref a.c_NoFinal) = some false
  ks_BadChance_NotReached : PySem.W.kitOne K (.ref a.c_BadChance) (.ref a.c_NotReached) = some false
  ks_BadChance_NoEnd : PySem.W.kitOne K (.ref a.c_BadChance) (.ref a.c_NoEnd) = some false
  ks_BadChance_ZeroBottom : PySem.W.kitOne K (.ref a.c_BadChance) (.ref a.c_ZeroBottom) = some false
  ks_BadChance_NoChance : PySem.W.kitOne K (.ref a.c_BadChance) (.ref a.c_NoChance) = some false
  ks_BadChance_ZeroPolynomial : PySem.W.kitOne K (.ref a.c_BadChance) (.ref a.c_ZeroPolynomial) = some false
  ks_BadChance_BadInterval : PySem.W.kitOne K (.ref a.c_BadChance) (.ref a.c_BadInterval) = some false
  ks_BadChance_NoSkip : PySem.W.kitOne K (.ref a.c_BadChance) (.ref a.c_NoSkip) = some false
  ks_BadChance_NotComing : PySem.W.kitOne K (.ref a.c_BadChance) (.ref a.c_NotComing) = some false
  ks_BadChance_NoPupils : PySem.W.kitOne K (.ref a.c_BadChance) (.ref a.c_NoPupils) = some false
  ks_BadChance_BadLength : PySem.W.kitOne K (.ref a.c_BadChance) (.ref a.c_BadLength) = some false
  ks_BadChance_AlikePupils : PySem.W.kitOne K (.ref a.c_BadChance) (.ref a.c_AlikePupils) = some false
  ks_BadChance_BadLine : PySem.W.kitOne K (.ref a.c_BadChance) (.ref a.c_BadLine) = some false
  ks_BadChance_Ended : PySem.W.kitOne K (.ref a.c_BadChance) (.ref a.c_Ended) = some false
  ks_BadChance_BadDeed : PySem.W.kitOne K (.ref a.c_BadChance) (.ref a.c_BadDeed) = some false
  ks_ZeroPolynomial_BadEnds : PySem.W.kitOne K (.ref a.c_ZeroPolynomial) (.ref a.c_BadEnds) = some false
  ks_ZeroPolynomial_BadNode : PySem.W.kitOne K (.ref a.c_ZeroPolynomial) (.ref a.c_BadNode) = some false
  ks_ZeroPolynomial_BadStart : PySem.W.kitOne K (.ref a.c_ZeroPolynomial) (.ref a.c_BadStart) = some false
  ks_ZeroPolynomial_TwiceAsked : PySem.W.kitOne K (.ref a.c_ZeroPolynomial) (.ref a.c_TwiceAsked) = some false
  ks_ZeroPolynomial_NoNode : PySem.W.kitOne K (.ref a.c_ZeroPolynomial) (.ref a.c_NoNode) = some false
  ks_ZeroPolynomial_NoPosition : PySem.W.kitOne K (.ref a.c_ZeroPolynomial) (.ref a.c_NoPosition) = some false
  ks_ZeroPolynomial_BadQuestion : PySem.W.kitOne K (.ref a.c_ZeroPolynomial) (.ref a.c_BadQuestion) = some false
  ks_ZeroPolynomial_BadMarks : PySem.W.kitOne K (.ref a.c_ZeroPolynomial) (.ref a.c_BadMarks) = some false
  ks_ZeroPolynomial_BadLadder : PySem.W.kitOne K (.ref a.c_ZeroPolynomial) (.ref a.c_BadLadder) = some false
  ks_ZeroPolynomial_BadCount : PySem.W.kitOne K (.ref a.c_ZeroPolynomial) (.ref a.c_BadCount) = some false
  ks_ZeroPolynomial_BadRelation : PySem.W.kitOne K (.ref a.c_ZeroPolynomial) (.ref a.c_BadRelation) = some false
  ks_ZeroPolynomial_BadPositions : PySem.W.kitOne K (.ref a.c_ZeroPolynomial) (.ref a.c_BadPositions) = some false
  ks_ZeroPolynomial_NoFinal : PySem.W.kitOne K (.ref a.c_ZeroPolynomial) (.ref a.c_NoFinal) = some false
  ks_ZeroPolynomial_NotReached : PySem.W.kitOne K (.ref a.c_ZeroPolynomial) (.ref a.c_NotReached) = some false
  ks_ZeroPolynomial_NoEnd : PySem.W.kitOne K (.ref a.c_ZeroPolynomial) (.ref a.c_NoEnd) = some false
  ks_ZeroPolynomial_ZeroBottom : PySem.W.kitOne K (.ref a.c_ZeroPolynomial) (.ref a.c_ZeroBottom) = some false
  ks_ZeroPolynomial_NoChance : PySem.W.kitOne K (.ref a.c_ZeroPolynomial) (.ref a.c_NoChance) = some false
  ks_ZeroPolynomial_BadChance : PySem.W.kitOne K (.ref a.c_ZeroPolynomial) (.ref a.c_BadChance) = some false
  ks_ZeroPolynomial_BadInterval : PySem.W.kitOne K (.ref a.c_ZeroPolynomial) (.ref a.c_BadInterval) = some false
  ks_ZeroPolynomial_NoSkip : PySem.W.kitOne K (.ref a.c_ZeroPolynomial) (.ref a.c_NoSkip) = some false
  ks_ZeroPolynomial_NotComing : PySem.W.kitOne K (.ref a.c_ZeroPolynomial) (.ref a.c_NotComing) = some false
  ks_ZeroPolynomial_NoPupils : PySem.W.kitOne K (.ref a.c_ZeroPolynomial) (.ref a.c_NoPupils) = some false
  ks_ZeroPolynomial_BadLength : PySem.W.kitOne K (.ref a.c_ZeroPolynomial) (.ref a.c_BadLength) = some false
  ks_ZeroPolynomial_AlikePupils : PySem.W.kitOne K (.ref a.c_ZeroPolynomial) (.ref a.c_AlikePupils) = some false
  ks_ZeroPolynomial_BadLine : PySem.W.kitOne K (.ref a.c_ZeroPolynomial) (.ref a.c_BadLine) = some false
  ks_ZeroPolynomial_Ended : PySem.W.kitOne K (.ref a.c_ZeroPolynomial) (.ref a.c_Ended) = some false
  ks_ZeroPolynomial_BadDeed : PySem.W.kitOne K (.ref a.c_ZeroPolynomial) (.ref a.c_BadDeed) = some false
  ks_BadInterval_BadEnds : PySem.W.kitOne K (.ref a.c_BadInterval) (.ref a.c_BadEnds) = some false
  ks_BadInterval_BadNode : PySem.W.kitOne K (.ref a.c_BadInterval) (.ref a.c_BadNode) = some false
  ks_BadInterval_BadStart : PySem.W.kitOne K (.ref a.c_BadInterval) (.ref a.c_BadStart) = some false
  ks_BadInterval_TwiceAsked : PySem.W.kitOne K (.ref a.c_BadInterval) (.ref a.c_TwiceAsked) = some false
  ks_BadInterval_NoNode : PySem.W.kitOne K (.ref a.c_BadInterval) (.ref a.c_NoNode) = some false
  ks_BadInterval_NoPosition : PySem.W.kitOne K (.ref a.c_BadInterval) (.ref a.c_NoPosition) = some false
  ks_BadInterval_BadQuestion : PySem.W.kitOne K (.ref a.c_BadInterval) (.ref a.c_BadQuestion) = some false
  ks_BadInterval_BadMarks : PySem.W.kitOne K (.ref a.c_BadInterval) (.ref a.c_BadMarks) = some false
  ks_BadInterval_BadLadder : PySem.W.kitOne K (.ref a.c_BadInterval) (.ref a.c_BadLadder) = some false
  ks_BadInterval_BadCount : PySem.W.kitOne K (.ref a.c_BadInterval) (.ref a.c_BadCount) = some false
  ks_BadInterval_BadRelation : PySem.W.kitOne K (.ref a.c_BadInterval) (.ref a.c_BadRelation) = some false
  ks_BadInterval_BadPositions : PySem.W.kitOne K (.ref a.c_BadInterval) (.ref a.c_BadPositions) = some false
  ks_BadInterval_NoFinal : PySem.W.kitOne K (.ref a.c_BadInterval) (.ref a.c_NoFinal) = some false
  ks_BadInterval_NotReached : PySem.W.kitOne K (.ref a.c_BadInterval) (.ref a.c_NotReached) = some false
  ks_BadInterval_NoEnd : PySem.W.kitOne K (.ref a.c_BadInterval) (.ref a.c_NoEnd) = some false
  ks_BadInterval_ZeroBottom : PySem.W.kitOne K (.ref a.c_BadInterval) (.ref a.c_ZeroBottom) = some false
  ks_BadInterval_NoChance : PySem.W.kitOne K (.ref a.c_BadInterval) (.ref a.c_NoChance) = some false
  ks_BadInterval_BadChance : PySem.W.kitOne K (.ref a.c_BadInterval) (.ref a.c_BadChance) = some false
  ks_BadInterval_ZeroPolynomial : PySem.W.kitOne K (.ref a.c_BadInterval) (.ref a.c_ZeroPolynomial) = some false
  ks_BadInterval_NoSkip : PySem.W.kitOne K (.ref a.c_BadInterval) (.ref a.c_NoSkip) = some false
  ks_BadInterval_NotComing : PySem.W.kitOne K (.ref a.c_BadInterval) (.ref a.c_NotComing) = some false
  ks_BadInterval_NoPupils : PySem.W.kitOne K (.ref a.c_BadInterval) (.ref a.c_NoPupils) = some false
  ks_BadInterval_BadLength : PySem.W.kitOne K (.ref a.c_BadInterval) (.ref a.c_BadLength) = some false
  ks_BadInterval_AlikePupils : PySem.W.kitOne K (.ref a.c_BadInterval) (.ref a.c_AlikePupils) = some false
  ks_BadInterval_BadLine : PySem.W.kitOne K (.ref a.c_BadInterval) (.ref a.c_BadLine) = some false
  ks_BadInterval_Ended : PySem.W.kitOne K (.ref a.c_BadInterval) (.ref a.c_Ended) = some false
  ks_BadInterval_BadDeed : PySem.W.kitOne K (.ref a.c_BadInterval) (.ref a.c_BadDeed) = some false
  ks_NoSkip_BadEnds : PySem.W.kitOne K (.ref a.c_NoSkip) (.ref a.c_BadEnds) = some false
  ks_NoSkip_BadNode : PySem.W.kitOne K (.ref a.c_NoSkip) (.ref a.c_BadNode) = some false
  ks_NoSkip_BadStart : PySem.W.kitOne K (.ref a.c_NoSkip) (.ref a.c_BadStart) = some false
  ks_NoSkip_TwiceAsked : PySem.W.kitOne K (.ref a.c_NoSkip) (.ref a.c_TwiceAsked) = some false
  ks_NoSkip_NoNode : PySem.W.kitOne K (.ref a.c_NoSkip) (.ref a.c_NoNode) = some false
  ks_NoSkip_NoPosition : PySem.W.kitOne K (.ref a.c_NoSkip) (.ref a.c_NoPosition) = some false
  ks_NoSkip_BadQuestion : PySem.W.kitOne K (.ref a.c_NoSkip) (.ref a.c_BadQuestion) = some false
  ks_NoSkip_BadMarks : PySem.W.kitOne K (.ref a.c_NoSkip) (.ref a.c_BadMarks) = some false
  ks_NoSkip_BadLadder : PySem.W.kitOne K (.ref a.c_NoSkip) (.ref a.c_BadLadder) = some false
  ks_NoSkip_BadCount : PySem.W.kitOne K (.ref a.c_NoSkip) (.ref a.c_BadCount) = some false
  ks_NoSkip_BadRelation : PySem.W.kitOne K (.ref a.c_NoSkip) (.ref a.c_BadRelation) = some false
  ks_NoSkip_BadPositions : PySem.W.kitOne K (.ref a.c_NoSkip) (.ref a.c_BadPositions) = some false
  ks_NoSkip_NoFinal : PySem.W.kitOne K (.ref a.c_NoSkip) (.ref a.c_NoFinal) = some false
  ks_NoSkip_NotReached : PySem.W.kitOne K (.ref a.c_NoSkip) (.ref a.c_NotReached) = some false
  ks_NoSkip_NoEnd : PySem.W.kitOne K (.ref a.c_NoSkip) (.ref a.c_NoEnd) = some false
  ks_NoSkip_ZeroBottom : PySem.W.kitOne K (.ref a.c_NoSkip) (.ref a.c_ZeroBottom) = some false
  ks_NoSkip_NoChance : PySem.W.kitOne K (.ref a.c_NoSkip) (.ref a.c_NoChance) = some false
  ks_NoSkip_BadChance : PySem.W.kitOne K (.ref a.c_NoSkip) (.ref a.c_BadChance) = some false
  ks_NoSkip_ZeroPolynomial : PySem.W.kitOne K (.ref a.c_NoSkip) (.ref a.c_ZeroPolynomial) = some false
  ks_NoSkip_BadInterval : PySem.W.kitOne K (.ref a.c_NoSkip) (.ref a.c_BadInterval) = some false
  ks_NoSkip_NotComing : PySem.W.kitOne K (.ref a.c_NoSkip) (.ref a.c_NotComing) = some false
  ks_NoSkip_NoPupils : PySem.W.kitOne K (.ref a.c_NoSkip) (.ref a.c_NoPupils) = some false
  ks_NoSkip_BadLength : PySem.W.kitOne K (.ref a.c_NoSkip) (.ref a.c_BadLength) = some false
  ks_NoSkip_AlikePupils : PySem.W.kitOne K (.ref a.c_NoSkip) (.ref a.c_AlikePupils) = some false
  ks_NoSkip_BadLine : PySem.W.kitOne K (.ref a.c_NoSkip) (.ref a.c_BadLine) = some false
  ks_NoSkip_Ended : PySem.W.kitOne K (.ref a.c_NoSkip) (.ref a.c_Ended) = some false
  ks_NoSkip_BadDeed : PySem.W.kitOne K (.ref a.c_NoSkip) (.ref a.c_BadDeed) = some false
  ks_NotComing_BadEnds : PySem.W.kitOne K (.ref a.c_NotComing) (.ref a.c_BadEnds) = some false
  ks_NotComing_BadNode : PySem.W.kitOne K (.ref a.c_NotComing) (.ref a.c_BadNode) = some false
  ks_NotComing_BadStart : PySem.W.kitOne K (.ref a.c_NotComing) (.ref a.c_BadStart) = some false
  ks_NotComing_TwiceAsked : PySem.W.kitOne K (.ref a.c_NotComing) (.ref a.c_TwiceAsked) = some false
  ks_NotComing_NoNode : PySem.W.kitOne K (.ref a.c_NotComing) (.ref a.c_NoNode) = some false
  ks_NotComing_NoPosition : PySem.W.kitOne K (.ref a.c_NotComing) (.ref a.c_NoPosition) = some false
  ks_NotComing_BadQuestion : PySem.W.kitOne K (.ref a.c_NotComing) (.ref a.c_BadQuestion) = some false
  ks_NotComing_BadMarks : PySem.W.kitOne K (.ref a.c_NotComing) (.ref a.c_BadMarks) = some false
  ks_NotComing_BadLadder : PySem.W.kitOne K (.ref a.c_NotComing) (.ref a.c_BadLadder) = some false
  ks_NotComing_BadCount : PySem.W.kitOne K (.ref a.c_NotComing) (.ref a.c_BadCount) = some false
  ks_NotComing_BadRelation : PySem.W.kitOne K (.ref a.c_NotComing) (.ref a.c_BadRelation) = some false
  ks_NotComing_BadPositions : PySem.W.kitOne K (.ref a.c_NotComing) (.ref a.c_BadPositions) = some false
  ks_NotComing_NoFinal : PySem.W.kitOne K (.ref a.c_NotComing) (.ref a.c_NoFinal) = some false
  ks_NotComing_NotReached : PySem.W.kitOne K (.ref a.c_NotComing) (.ref a.c_NotReached) = some false
  ks_NotComing_NoEnd : PySem.W.kitOne K (.ref a.c_NotComing) (.ref a.c_NoEnd) = some false
  ks_NotComing_ZeroBottom : PySem.W.kitOne K (.ref a.c_NotComing) (.ref a.c_ZeroBottom) = some false
  ks_NotComing_NoChance : PySem.W.kitOne K (.ref a.c_NotComing) (.ref a.c_NoChance) = some false
  ks_NotComing_BadChance : PySem.W.kitOne K (.ref a.c_NotComing) (.ref a.c_BadChance) = some false
  ks_NotComing_ZeroPolynomial : PySem.W.kitOne K (.ref a.c_NotComing) (.ref a.c_ZeroPolynomial) = some false
  ks_NotComing_BadInterval : PySem.W.kitOne K (.ref a.c_NotComing) (.ref a.c_BadInterval) = some false
  ks_NotComing_NoSkip : PySem.W.kitOne K (.ref a.c_NotComing) (.ref a.c_NoSkip) = some false
  ks_NotComing_NoPupils : PySem.W.kitOne K (.ref a.c_NotComing) (.ref a.c_NoPupils) = some false
  ks_NotComing_BadLength : PySem.W.kitOne K (.ref a.c_NotComing) (.ref a.c_BadLength) = some false
  ks_NotComing_AlikePupils : PySem.W.kitOne K (.ref a.c_NotComing) (.ref a.c_AlikePupils) = some false
  ks_NotComing_BadLine : PySem.W.kitOne K (.ref a.c_NotComing) (.ref a.c_BadLine) = some false
  ks_NotComing_Ended : PySem.W.kitOne K (.ref a.c_NotComing) (.ref a.c_Ended) = some false
  ks_NotComing_BadDeed : PySem.W.kitOne K (.ref a.c_NotComing) (.ref a.c_BadDeed) = some false
  ks_NoPupils_BadEnds : PySem.W.kitOne K (.ref a.c_NoPupils) (.ref a.c_BadEnds) = some false
  ks_NoPupils_BadNode : PySem.W.kitOne K (.ref a.c_NoPupils) (.ref a.c_BadNode) = some false
  ks_NoPupils_BadStart : PySem.W.kitOne K (.ref a.c_NoPupils) (.ref a.c_BadStart) = some false
  ks_NoPupils_TwiceAsked : PySem.W.kitOne K (.ref a.c_NoPupils) (.ref a.c_TwiceAsked) = some false
  ks_NoPupils_NoNode : PySem.W.kitOne K (.ref a.c_NoPupils) (.ref a.c_NoNode) = some false
  ks_NoPupils_NoPosition : PySem.W.kitOne K (.ref a.c_NoPupils) (.ref a.c_NoPosition) = some false
  ks_NoPupils_BadQuestion : PySem.W.kitOne K (.ref a.c_NoPupils) (.ref a.c_BadQuestion) = some false
  ks_NoPupils_BadMarks : PySem.W.kitOne K (.ref a.c_NoPupils) (.ref a.c_BadMarks) = some false
  ks_NoPupils_BadLadder : PySem.W.kitOne K (.ref a.c_NoPupils) (.ref a.c_BadLadder) = some false
  ks_NoPupils_BadCount : PySem.W.kitOne K (.ref a.c_NoPupils) (.ref a.c_BadCount) = some false
  ks_NoPupils_BadRelation : PySem.W.kitOne K (.ref a.c_NoPupils) (.ref a.c_BadRelation) = some false
  ks_NoPupils_BadPositions : PySem.W.kitOne K (.ref a.c_NoPupils) (.ref a.c_BadPositions) = some false
  ks_NoPupils_NoFinal : PySem.W.kitOne K (.ref a.c_NoPupils) (.ref a.c_NoFinal) = some false
  ks_NoPupils_NotReached : PySem.W.kitOne K (.ref a.c_NoPupils) (.ref a.c_NotReached) = some false
  ks_NoPupils_NoEnd : PySem.W.kitOne K (.ref a.c_NoPupils) (.ref a.c_NoEnd) = some false
  ks_NoPupils_ZeroBottom : PySem.W.kitOne K (.ref a.c_NoPupils) (.ref a.c_ZeroBottom) = some false
  ks_NoPupils_NoChance : PySem.W.kitOne K (.ref a.c_NoPupils) (.ref a.c_NoChance) = some false
  ks_NoPupils_BadChance : PySem.W.kitOne K (.ref a.c_NoPupils) (.ref a.c_BadChance) = some false
  ks_NoPupils_ZeroPolynomial : PySem.W.kitOne K (.ref a.c_NoPupils) (.ref a.c_ZeroPolynomial) = some false
  ks_NoPupils_BadInterval : PySem.W.kitOne K (.ref a.c_NoPupils) (.ref a.c_BadInterval) = some false
  ks_NoPupils_NoSkip : PySem.W.kitOne K (.ref a.c_NoPupils) (.ref a.c_NoSkip) = some false
  ks_NoPupils_NotComing : PySem.W.kitOne K (.ref a.c_NoPupils) (.ref a.c_NotComing) = some false
  ks_NoPupils_BadLength : PySem.W.kitOne K (.ref a.c_NoPupils) (.ref a.c_BadLength) = some false
  ks_NoPupils_AlikePupils : PySem.W.kitOne K (.ref a.c_NoPupils) (.ref a.c_AlikePupils) = some false
  ks_NoPupils_BadLine : PySem.W.kitOne K (.ref a.c_NoPupils) (.ref a.c_BadLine) = some false
  ks_NoPupils_Ended : PySem.W.kitOne K (.ref a.c_NoPupils) (.ref a.c_Ended) = some false
  ks_NoPupils_BadDeed : PySem.W.kitOne K (.ref a.c_NoPupils) (.ref a.c_BadDeed) = some false
  ks_BadLength_BadEnds : PySem.W.kitOne K (.ref a.c_BadLength) (.ref a.c_BadEnds) = some false
  ks_BadLength_BadNode : PySem.W.kitOne K (.ref a.c_BadLength) (.ref a.c_BadNode) = some false
  ks_BadLength_BadStart : PySem.W.kitOne K (.ref a.c_BadLength) (.ref a.c_BadStart) = some false
  ks_BadLength_TwiceAsked : PySem.W.kitOne K (.ref a.c_BadLength) (.ref a.c_TwiceAsked) = some false
  ks_BadLength_NoNode : PySem.W.kitOne K (.ref a.c_BadLength) (.ref a.c_NoNode) = some false
  ks_BadLength_NoPosition : PySem.W.kitOne K (.ref a.c_BadLength) (.ref a.c_NoPosition) = some false
  ks_BadLength_BadQuestion : PySem.W.kitOne K (.ref a.c_BadLength) (.ref a.c_BadQuestion) = some false
  ks_BadLength_BadMarks : PySem.W.kitOne K (.ref a.c_BadLength) (.ref a.c_BadMarks) = some false
  ks_BadLength_BadLadder : PySem.W.kitOne K (.ref a.c_BadLength) (.ref a.c_BadLadder) = some false
  ks_BadLength_BadCount : PySem.W.kitOne K (.ref a.c_BadLength) (.ref a.c_BadCount) = some false
  ks_BadLength_BadRelation : PySem.W.kitOne K (.ref a.c_BadLength) (.ref a.c_BadRelation) = some false
  ks_BadLength_BadPositions : PySem.W.kitOne K (.ref a.c_BadLength) (.ref a.c_BadPositions) = some false
  ks_BadLength_NoFinal : PySem.W.kitOne K (.ref a.c_BadLength) (.ref a.c_NoFinal) = some false
  ks_BadLength_NotReached : PySem.W.kitOne K (.ref a.c_BadLength) (.ref a.c_NotReached) = some false
  ks_BadLength_NoEnd : PySem.W.kitOne K (.ref a.c_BadLength) (.ref a.c_NoEnd) = some false
  ks_BadLength_ZeroBottom : PySem.W.kitOne K (.ref a.c_BadLength) (.ref a.c_ZeroBottom) = some false
  ks_BadLength_NoChance : PySem.W.kitOne K (.ref a.c_BadLength) (.ref a.c_NoChance) = some false
  ks_BadLength_BadChance : PySem.W.kitOne K (.ref a.c_BadLength) (.ref a.c_BadChance) = some false
  ks_BadLength_ZeroPolynomial : PySem.W.kitOne K (.ref a.c_BadLength) (.ref a.c_ZeroPolynomial) = some false
  ks_BadLength_BadInterval : PySem.W.kitOne K (.ref a.c_BadLength) (.ref a.c_BadInterval) = some false
  ks_BadLength_NoSkip : PySem.W.kitOne K (.ref a.c_BadLength) (.ref a.c_NoSkip) = some false
  ks_BadLength_NotComing : PySem.W.kitOne K (.ref a.c_BadLength) (.ref a.c_NotComing) = some false
  ks_BadLength_NoPupils : PySem.W.kitOne K (.ref a.c_BadLength) (.ref a.c_NoPupils) = some false
  ks_BadLength_AlikePupils : PySem.W.kitOne K (.ref a.c_BadLength) (.ref a.c_AlikePupils) = some false
  ks_BadLength_BadLine : PySem.W.kitOne K (.ref a.c_BadLength) (.ref a.c_BadLine) = some false
  ks_BadLength_Ended : PySem.W.kitOne K (.ref a.c_BadLength) (.ref a.c_Ended) = some false
  ks_BadLength_BadDeed : PySem.W.kitOne K (.ref a.c_BadLength) (.ref a.c_BadDeed) = some false
  ks_AlikePupils_BadEnds : PySem.W.kitOne K (.ref a.c_AlikePupils) (.ref a.c_BadEnds) = some false
  ks_AlikePupils_BadNode : PySem.W.kitOne K (.ref a.c_AlikePupils) (.ref a.c_BadNode) = some false
  ks_AlikePupils_BadStart : PySem.W.kitOne K (.ref a.c_AlikePupils) (.ref a.c_BadStart) = some false
  ks_AlikePupils_TwiceAsked : PySem.W.kitOne K (.ref a.c_AlikePupils) (.ref a.c_TwiceAsked) = some false
  ks_AlikePupils_NoNode : PySem.W.kitOne K (.ref a.c_AlikePupils) (.ref a.c_NoNode) = some false
  ks_AlikePupils_NoPosition : PySem.W.kitOne K (.ref a.c_AlikePupils) (.ref a.c_NoPosition) = some false
  ks_AlikePupils_BadQuestion : PySem.W.kitOne K (.ref a.c_AlikePupils) (.ref a.c_BadQuestion) = some false
  ks_AlikePupils_BadMarks : PySem.W.kitOne K (.ref a.c_AlikePupils) (.ref a.c_BadMarks) = some false
  ks_AlikePupils_BadLadder : PySem.W.kitOne K (.ref a.c_AlikePupils) (.ref a.c_BadLadder) = some false
  ks_AlikePupils_BadCount : PySem.W.kitOne K (.ref a.c_AlikePupils) (.ref a.c_BadCount) = some false
  ks_AlikePupils_BadRelation : PySem.W.kitOne K (.ref a.c_AlikePupils) (.ref a.c_BadRelation) = some false
  ks_AlikePupils_BadPositions : PySem.W.kitOne K (.ref a.c_AlikePupils) (.ref a.c_BadPositions) = some false
  ks_AlikePupils_NoFinal : PySem.W.kitOne K (.ref a.c_AlikePupils) (.ref a.c_NoFinal) = some false
  ks_AlikePupils_NotReached : PySem.W.kitOne K (.ref a.c_AlikePupils) (.ref a.c_NotReached) = some false
  ks_AlikePupils_NoEnd : PySem.W.kitOne K (.ref a.c_AlikePupils) (.ref a.c_NoEnd) = some false
  ks_AlikePupils_ZeroBottom : PySem.W.kitOne K (.ref a.c_AlikePupils) (.ref a.c_ZeroBottom) = some false
  ks_AlikePupils_NoChance : PySem.W.kitOne K (.ref a.c_AlikePupils) (.ref a.c_NoChance) = some false
  ks_AlikePupils_BadChance : PySem.W.kitOne K (.ref a.c_AlikePupils) (.ref a.c_BadChance) = some false
  ks_AlikePupils_ZeroPolynomial : PySem.W.kitOne K (.ref a.c_AlikePupils) (.ref a.c_ZeroPolynomial) = some false
  ks_AlikePupils_BadInterval : PySem.W.kitOne K (.ref a.c_AlikePupils) (.ref a.c_BadInterval) = some false
  ks_AlikePupils_NoSkip : PySem.W.kitOne K (.ref a.c_AlikePupils) (.ref a.c_NoSkip) = some false
  ks_AlikePupils_NotComing : PySem.W.kitOne K (.ref a.c_AlikePupils) (.ref a.c_NotComing) = some false
  ks_AlikePupils_NoPupils : PySem.W.kitOne K (.ref a.c_AlikePupils) (.ref a.c_NoPupils) = some false
  ks_AlikePupils_BadLength : PySem.W.kitOne K (.ref a.c_AlikePupils) (.ref a.c_BadLength) = some false
  ks_AlikePupils_BadLine : PySem.W.kitOne K (.ref a.c_AlikePupils) (.ref a.c_BadLine) = some false
  ks_AlikePupils_Ended : PySem.W.kitOne K (.ref a.c_AlikePupils) (.ref a.c_Ended) = some false
  ks_AlikePupils_BadDeed : PySem.W.kitOne K (.ref a.c_AlikePupils) (.ref a.c_BadDeed) = some false
  ks_BadLine_BadEnds : PySem.W.kitOne K (.ref a.c_BadLine) (.ref a.c_BadEnds) = some false
  ks_BadLine_BadNode : PySem.W.kitOne K (.ref a.c_BadLine) (.ref a.c_BadNode) = some false
  ks_BadLine_BadStart : PySem.W.kitOne K (.ref a.c_BadLine) (.ref a.c_BadStart) = some false
  ks_BadLine_TwiceAsked : PySem.W.kitOne K (.ref a.c_BadLine) (.ref a.c_TwiceAsked) = some false
  ks_BadLine_NoNode : PySem.W.kitOne K (.ref a.c_BadLine) (.ref a.c_NoNode) = some false
  ks_BadLine_NoPosition : PySem.W.kitOne K (.ref a.c_BadLine) (.ref a.c_NoPosition) = some false
  ks_BadLine_BadQuestion : PySem.W.kitOne K (.ref a.c_BadLine) (.ref a.c_BadQuestion) = some false
  ks_BadLine_BadMarks : PySem.W.kitOne K (.ref a.c_BadLine) (.ref a.c_BadMarks) = some false
  ks_BadLine_BadLadder : PySem.W.kitOne K (.ref a.c_BadLine) (.ref a.c_BadLadder) = some false
  ks_BadLine_BadCount : PySem.W.kitOne K (.ref a.c_BadLine) (.ref a.c_BadCount) = some false
  ks_BadLine_BadRelation : PySem.W.kitOne K (.ref a.c_BadLine) (.ref a.c_BadRelation) = some false
  ks_BadLine_BadPositions : PySem.W.kitOne K (.ref a.c_BadLine) (.ref a.c_BadPositions) = some false
  ks_BadLine_NoFinal : PySem.W.kitOne K (.ref a.c_BadLine) (.ref a.c_NoFinal) = some false
  ks_BadLine_NotReached : PySem.W.kitOne K (.ref a.c_BadLine) (.ref a.c_NotReached) = some false
  ks_BadLine_NoEnd : PySem.W.kitOne K (.ref a.c_BadLine) (.ref a.c_NoEnd) = some false
  ks_BadLine_ZeroBottom : PySem.W.kitOne K (.ref a.c_BadLine) (.ref a.c_ZeroBottom) = some false
  ks_BadLine_NoChance : PySem.W.kitOne K (.ref a.c_BadLine) (.ref a.c_NoChance) = some false
  ks_BadLine_BadChance : PySem.W.kitOne K (.ref a.c_BadLine) (.ref a.c_BadChance) = some false
  ks_BadLine_ZeroPolynomial : PySem.W.kitOne K (.ref a.c_BadLine) (.ref a.c_ZeroPolynomial) = some false
  ks_BadLine_BadInterval : PySem.W.kitOne K (.ref a.c_BadLine) (.ref a.c_BadInterval) = some false
  ks_BadLine_NoSkip : PySem.W.kitOne K (.ref a.c_BadLine) (.ref a.c_NoSkip) = some false
  ks_BadLine_NotComing : PySem.W.kitOne K (.ref a.c_BadLine) (.ref a.c_NotComing) = some false
  ks_BadLine_NoPupils : PySem.W.kitOne K (.ref a.c_BadLine) (.ref a.c_NoPupils) = some false
  ks_BadLine_BadLength : PySem.W.kitOne K (.ref a.c_BadLine) (.ref a.c_BadLength) = some false
  ks_BadLine_AlikePupils : PySem.W.kitOne K (.ref a.c_BadLine) (.ref a.c_AlikePupils) = some false
  ks_BadLine_Ended : PySem.W.kitOne K (.ref a.c_BadLine) (.ref a.c_Ended) = some false
  ks_BadLine_BadDeed : PySem.W.kitOne K (.ref a.c_BadLine) (.ref a.c_BadDeed) = some false
  ks_Ended_BadEnds : PySem.W.kitOne K (.ref a.c_Ended) (.ref a.c_BadEnds) = some false
  ks_Ended_BadNode : PySem.W.kitOne K (.ref a.c_Ended) (.ref a.c_BadNode) = some false
  ks_Ended_BadStart : PySem.W.kitOne K (.ref a.c_Ended) (.ref a.c_BadStart) = some false
  ks_Ended_TwiceAsked : PySem.W.kitOne K (.ref a.c_Ended) (.ref a.c_TwiceAsked) = some false
  ks_Ended_NoNode : PySem.W.kitOne K (.ref a.c_Ended) (.ref a.c_NoNode) = some false
  ks_Ended_NoPosition : PySem.W.kitOne K (.ref a.c_Ended) (.ref a.c_NoPosition) = some false
  ks_Ended_BadQuestion : PySem.W.kitOne K (.ref a.c_Ended) (.ref a.c_BadQuestion) = some false
  ks_Ended_BadMarks : PySem.W.kitOne K (.ref a.c_Ended) (.ref a.c_BadMarks) = some false
  ks_Ended_BadLadder : PySem.W.kitOne K (.ref a.c_Ended) (.ref a.c_BadLadder) = some false
  ks_Ended_BadCount : PySem.W.kitOne K (.ref a.c_Ended) (.ref a.c_BadCount) = some false
  ks_Ended_BadRelation : PySem.W.kitOne K (.ref a.c_Ended) (.ref a.c_BadRelation) = some false
  ks_Ended_BadPositions : PySem.W.kitOne K (.ref a.c_Ended) (.ref a.c_BadPositions) = some false
  ks_Ended_NoFinal : PySem.W.kitOne K (.ref a.c_Ended) (.ref a.c_NoFinal) = some false
  ks_Ended_NotReached : PySem.W.kitOne K (.ref a.c_Ended) (.ref a.c_NotReached) = some false
  ks_Ended_NoEnd : PySem.W.kitOne K (.ref a.c_Ended) (.ref a.c_NoEnd) = some false
  ks_Ended_ZeroBottom : PySem.W.kitOne K (.ref a.c_Ended) (.ref a.c_ZeroBottom) = some false
  ks_Ended_NoChance : PySem.W.kitOne K (.ref a.c_Ended) (.ref a.c_NoChance) = some false
  ks_Ended_BadChance : PySem.W.kitOne K (.ref a.c_Ended) (.ref a.c_BadChance) = some false
  ks_Ended_ZeroPolynomial : PySem.W.kitOne K (.ref a.c_Ended) (.ref a.c_ZeroPolynomial) = some false
  ks_Ended_BadInterval : PySem.W.kitOne K (.ref a.c_Ended) (.ref a.c_BadInterval) = some false
  ks_Ended_NoSkip : PySem.W.kitOne K (.ref a.c_Ended) (.ref a.c_NoSkip) = some false
  ks_Ended_NotComing : PySem.W.kitOne K (.ref a.c_Ended) (.ref a.c_NotComing) = some false
  ks_Ended_NoPupils : PySem.W.kitOne K (.ref a.c_Ended) (.ref a.c_NoPupils) = some false
  ks_Ended_BadLength : PySem.W.kitOne K (.ref a.c_Ended) (.ref a.c_BadLength) = some false
  ks_Ended_AlikePupils : PySem.W.kitOne K (.ref a.c_Ended) (.ref a.c_AlikePupils) = some false
  ks_Ended_BadLine : PySem.W.kitOne K (.ref a.c_Ended) (.ref a.c_BadLine) = some false
  ks_Ended_BadDeed : PySem.W.kitOne K (.ref a.c_Ended) (.ref a.c_BadDeed) = some false
  ks_BadDeed_BadEnds : PySem.W.kitOne K (.ref a.c_BadDeed) (.ref a.c_BadEnds) = some false
  ks_BadDeed_BadNode : PySem.W.kitOne K (.ref a.c_BadDeed) (.ref a.c_BadNode) = some false
  ks_BadDeed_BadStart : PySem.W.kitOne K (.ref a.c_BadDeed) (.ref a.c_BadStart) = some false
  ks_BadDeed_TwiceAsked : PySem.W.kitOne K (.ref a.c_BadDeed) (.ref a.c_TwiceAsked) = some false
  ks_BadDeed_NoNode : PySem.W.kitOne K (.ref a.c_BadDeed) (.ref a.c_NoNode) = some false
  ks_BadDeed_NoPosition : PySem.W.kitOne K (.ref a.c_BadDeed) (.ref a.c_NoPosition) = some false
  ks_BadDeed_BadQuestion : PySem.W.kitOne K (.ref a.c_BadDeed) (.ref a.c_BadQuestion) = some false
  ks_BadDeed_BadMarks : PySem.W.kitOne K (.ref a.c_BadDeed) (.ref a.c_BadMarks) = some false
  ks_BadDeed_BadLadder : PySem.W.kitOne K (.ref a.c_BadDeed) (.ref a.c_BadLadder) = some false
  ks_BadDeed_BadCount : PySem.W.kitOne K (.ref a.c_BadDeed) (.ref a.c_BadCount) = some false
  ks_BadDeed_BadRelation : PySem.W.kitOne K (.ref a.c_BadDeed) (.ref a.c_BadRelation) = some false
  ks_BadDeed_BadPositions : PySem.W.kitOne K (.ref a.c_BadDeed) (.ref a.c_BadPositions) = some false
  ks_BadDeed_NoFinal : PySem.W.kitOne K (.ref a.c_BadDeed) (.ref a.c_NoFinal) = some false
  ks_BadDeed_NotReached : PySem.W.kitOne K (.ref a.c_BadDeed) (.ref a.c_NotReached) = some false
  ks_BadDeed_NoEnd : PySem.W.kitOne K (.ref a.c_BadDeed) (.ref a.c_NoEnd) = some false
  ks_BadDeed_ZeroBottom : PySem.W.kitOne K (.ref a.c_BadDeed) (.ref a.c_ZeroBottom) = some false
  ks_BadDeed_NoChance : PySem.W.kitOne K (.ref a.c_BadDeed) (.ref a.c_NoChance) = some false
  ks_BadDeed_BadChance : PySem.W.kitOne K (.ref a.c_BadDeed) (.ref a.c_BadChance) = some false
  ks_BadDeed_ZeroPolynomial : PySem.W.kitOne K (.ref a.c_BadDeed) (.ref a.c_ZeroPolynomial) = some false
  ks_BadDeed_BadInterval : PySem.W.kitOne K (.ref a.c_BadDeed) (.ref a.c_BadInterval) = some false
  ks_BadDeed_NoSkip : PySem.W.kitOne K (.ref a.c_BadDeed) (.ref a.c_NoSkip) = some false
  ks_BadDeed_NotComing : PySem.W.kitOne K (.ref a.c_BadDeed) (.ref a.c_NotComing) = some false
  ks_BadDeed_NoPupils : PySem.W.kitOne K (.ref a.c_BadDeed) (.ref a.c_NoPupils) = some false
  ks_BadDeed_BadLength : PySem.W.kitOne K (.ref a.c_BadDeed) (.ref a.c_BadLength) = some false
  ks_BadDeed_AlikePupils : PySem.W.kitOne K (.ref a.c_BadDeed) (.ref a.c_AlikePupils) = some false
  ks_BadDeed_BadLine : PySem.W.kitOne K (.ref a.c_BadDeed) (.ref a.c_BadLine) = some false
  ks_BadDeed_Ended : PySem.W.kitOne K (.ref a.c_BadDeed) (.ref a.c_Ended) = some false
  ks_BadEnds_ValueError : PySem.W.kitOne K (.ref a.c_BadEnds) (.type "ValueError") = some true
  ks_BadNode_ValueError : PySem.W.kitOne K (.ref a.c_BadNode) (.type "ValueError") = some true
  ks_BadStart_ValueError : PySem.W.kitOne K (.ref a.c_BadStart) (.type "ValueError") = some true
  ks_TwiceAsked_ValueError : PySem.W.kitOne K (.ref a.c_TwiceAsked) (.type "ValueError") = some true
  ks_NoNode_ValueError : PySem.W.kitOne K (.ref a.c_NoNode) (.type "ValueError") = some true
  ks_NoPosition_ValueError : PySem.W.kitOne K (.ref a.c_NoPosition) (.type "ValueError") = some true
  ks_BadQuestion_ValueError : PySem.W.kitOne K (.ref a.c_BadQuestion) (.type "ValueError") = some true
  ks_BadMarks_ValueError : PySem.W.kitOne K (.ref a.c_BadMarks) (.type "ValueError") = some true
  ks_BadLadder_ValueError : PySem.W.kitOne K (.ref a.c_BadLadder) (.type "ValueError") = some true
  ks_BadCount_ValueError : PySem.W.kitOne K (.ref a.c_BadCount) (.type "ValueError") = some true
  ks_BadRelation_ValueError : PySem.W.kitOne K (.ref a.c_BadRelation) (.type "ValueError") = some true
  ks_BadPositions_ValueError : PySem.W.kitOne K (.ref a.c_BadPositions) (.type "ValueError") = some true
  ks_NoFinal_ValueError : PySem.W.kitOne K (.ref a.c_NoFinal) (.type "ValueError") = some true
  ks_NotReached_ValueError : PySem.W.kitOne K (.ref a.c_NotReached) (.type "ValueError") = some true
  ks_NoEnd_ValueError : PySem.W.kitOne K (.ref a.c_NoEnd) (.type "ValueError") = some true
  ks_ZeroBottom_ValueError : PySem.W.kitOne K (.ref a.c_ZeroBottom) (.type "ValueError") = some true
  ks_NoChance_ValueError : PySem.W.kitOne K (.ref a.c_NoChance) (.type "ValueError") = some true
  ks_BadChance_ValueError : PySem.W.kitOne K (.ref a.c_BadChance) (.type "ValueError") = some true
  ks_ZeroPolynomial_ValueError : PySem.W.kitOne K (.ref a.c_ZeroPolynomial) (.type "ValueError") = some true
  ks_BadInterval_ValueError : PySem.W.kitOne K (.ref a.c_BadInterval) (.type "ValueError") = some true
  ks_NoSkip_ValueError : PySem.W.kitOne K (.ref a.c_NoSkip) (.type "ValueError") = some true
  ks_NotComing_ValueError : PySem.W.kitOne K (.ref a.c_NotComing) (.type "ValueError") = some true
  ks_NoPupils_ValueError : PySem.W.kitOne K (.ref a.c_NoPupils) (.type "ValueError") = some true
  ks_BadLength_ValueError : PySem.W.kitOne K (.ref a.c_BadLength) (.type "ValueError") = some true
  ks_AlikePupils_ValueError : PySem.W.kitOne K (.ref a.c_AlikePupils) (.type "ValueError") = some true
  ks_BadLine_ValueError : PySem.W.kitOne K (.ref a.c_BadLine) (.type "ValueError") = some true
  ks_Ended_ValueError : PySem.W.kitOne K (.ref a.c_Ended) (.type "ValueError") = some true
  ks_BadDeed_ValueError : PySem.W.kitOne K (.ref a.c_BadDeed) (.type "ValueError") = some true
  F_BadEnds_init : Fun K "__init__" "BadEnds.__init__" s_BadEnds_init a.f_BadEnds_init a.d_BadEnds_init
  b_BadEnds_init : Binds K a.d_BadEnds_init P_BadEnds_init []
  k_BadEnds_init : PySem.W.keepIn K (.ref a.f_BadEnds_init) = true
  i_BadEnds_init : PySem.W.isFn K (.ref a.f_BadEnds_init) = true
  F_BadNode_init : Fun K "__init__" "BadNode.__init__" s_BadNode_init a.f_BadNode_init a.d_BadNode_init
  b_BadNode_init : Binds K a.d_BadNode_init P_BadNode_init []
  k_BadNode_init : PySem.W.keepIn K (.ref a.f_BadNode_init) = true
  i_BadNode_init : PySem.W.isFn K (.ref a.f_BadNode_init) = true
  F_BadStart_init : Fun K "__init__" "BadStart.__init__" s_BadStart_init a.f_BadStart_init a.d_BadStart_init
  b_BadStart_init : Binds K a.d_BadStart_init P_BadStart_init []
  k_BadStart_init : PySem.W.keepIn K (.ref a.f_BadStart_init) = true
  i_BadStart_init : PySem.W.isFn K (.ref a.f_BadStart_init) = true
  F_TwiceAsked_init : Fun K "__init__" "TwiceAsked.__init__" s_TwiceAsked_init a.f_TwiceAsked_init a.d_TwiceAsked_init
  b_TwiceAsked_init : Binds K a.d_TwiceAsked_init P_TwiceAsked_init []
  k_TwiceAsked_init : PySem.W.keepIn K (.ref a.f_TwiceAsked_init) = true
  i_TwiceAsked_init : PySem.W.isFn K (.ref a.f_TwiceAsked_init) = true
  F_NoNode_init : Fun K "__init__" "NoNode.__init__" s_NoNode_init a.f_NoNode_init a.d_NoNode_init
  b_NoNode_init : Binds K a.d_NoNode_init P_NoNode_init []
  k_NoNode_init : PySem.W.keepIn K (.ref a.f_NoNode_init) = true
  i_NoNode_init : PySem.W.isFn K (.ref a.f_NoNode_init) = true
  F_NoPosition_init : Fun K "__init__" "NoPosition.__init__" s_NoPosition_init a.f_NoPosition_init a.d_NoPosition_init
  b_NoPosition_init : Binds K a.d_NoPosition_init P_NoPosition_init []
  k_NoPosition_init : PySem.W.keepIn K (.ref a.f_NoPosition_init) = true
  i_NoPosition_init : PySem.W.isFn K (.ref a.f_NoPosition_init) = true
  F_BadQuestion_init : Fun K "__init__" "BadQuestion.__init__" s_BadQuestion_init a.f_BadQuestion_init a.d_BadQuestion_init
  b_BadQuestion_init : Binds K a.d_BadQuestion_init P_BadQuestion_init []
  k_BadQuestion_init : PySem.W.keepIn K (.ref a.f_BadQuestion_init) = true
  i_BadQuestion_init : PySem.W.isFn K (.ref a.f_BadQuestion_init) = true
  F_BadMarks_init : Fun K "__init__" "BadMarks.__init__" s_BadMarks_init a.f_BadMarks_init a.d_BadMarks_init
  b_BadMarks_init : Binds K a.d_BadMarks_init P_BadMarks_init []
  k_BadMarks_init : PySem.W.keepIn K (.ref a.f_BadMarks_init) = true
  i_BadMarks_init : PySem.W.isFn K (.ref a.f_BadMarks_init) = true
  F_BadLadder_init : Fun K "__init__" "BadLadder.__init__" s_BadLadder_init a.f_BadLadder_init a.d_BadLadder_init
  b_BadLadder_init : Binds K a.d_BadLadder_init P_BadLadder_init []
  k_BadLadder_init : PySem.W.keepIn K (.ref a.f_BadLadder_init) = true
  i_BadLadder_init : PySem.W.isFn K (.ref a.f_BadLadder_init) = true
  F_BadCount_init : Fun K "__init__" "BadCount.__init__" s_BadCount_init a.f_BadCount_init a.d_BadCount_init
  b_BadCount_init : Binds K a.d_BadCount_init P_BadCount_init []
  k_BadCount_init : PySem.W.keepIn K (.ref a.f_BadCount_init) = true
  i_BadCount_init : PySem.W.isFn K (.ref a.f_BadCount_init) = true
  F_BadRelation_init : Fun K "__init__" "BadRelation.__init__" s_BadRelation_init a.f_BadRelation_init a.d_BadRelation_init
  b_BadRelation_init : Binds K a.d_BadRelation_init P_BadRelation_init []
  k_BadRelation_init : PySem.W.keepIn K (.ref a.f_BadRelation_init) = true
  i_BadRelation_init : PySem.W.isFn K (.ref a.f_BadRelation_init) = true
  F_BadPositions_init : Fun K "__init__" "BadPositions.__init__" s_BadPositions_init a.f_BadPositions_init a.d_BadPositions_init
  b_BadPositions_init : Binds K a.d_BadPositions_init P_BadPositions_init []
  k_BadPositions_init : PySem.W.keepIn K (.ref a.f_BadPositions_init) = true
  i_BadPositions_init : PySem.W.isFn K (.ref a.f_BadPositions_init) = true
  F_NoFinal_init : Fun K "__init__" "NoFinal.__init__" s_NoFinal_init a.f_NoFinal_init a.d_NoFinal_init
  b_NoFinal_init : Binds K a.d_NoFinal_init P_NoFinal_init []
  k_NoFinal_init : PySem.W.keepIn K (.ref a.f_NoFinal_init) = true
  i_NoFinal_init : PySem.W.isFn K (.ref a.f_NoFinal_init) = true
  F_NotReached_init : Fun K "__init__" "NotReached.__init__" s_NotReached_init a.f_NotReached_init a.d_NotReached_init
  b_NotReached_init : Binds K a.d_NotReached_init P_NotReached_init []
  k_NotReached_init : PySem.W.keepIn K (.ref a.f_NotReached_init) = true
  i_NotReached_init : PySem.W.isFn K (.ref a.f_NotReached_init) = true
  F_NoEnd_init : Fun K "__init__" "NoEnd.__init__" s_NoEnd_init a.f_NoEnd_init a.d_NoEnd_init
  b_NoEnd_init : Binds K a.d_NoEnd_init P_NoEnd_init []
  k_NoEnd_init : PySem.W.keepIn K (.ref a.f_NoEnd_init) = true
  i_NoEnd_init : PySem.W.isFn K (.ref a.f_NoEnd_init) = true
  F_ZeroBottom_init : Fun K "__init__" "ZeroBottom.__init__" s_ZeroBottom_init a.f_ZeroBottom_init a.d_ZeroBottom_init
  b_ZeroBottom_init : Binds K a.d_ZeroBottom_init P_ZeroBottom_init []
  k_ZeroBottom_init : PySem.W.keepIn K (.ref a.f_ZeroBottom_init) = true
  i_ZeroBottom_init : PySem.W.isFn K (.ref a.f_ZeroBottom_init) = true
  F_NoChance_init : Fun K "__init__" "NoChance.__init__" s_NoChance_init a.f_NoChance_init a.d_NoChance_init
  b_NoChance_init : Binds K a.d_NoChance_init P_NoChance_init []
  k_NoChance_init : PySem.W.keepIn K (.ref a.f_NoChance_init) = true
  i_NoChance_init : PySem.W.isFn K (.ref a.f_NoChance_init) = true
  F_BadChance_init : Fun K "__init__" "BadChance.__init__" s_BadChance_init a.f_BadChance_init a.d_BadChance_init
  b_BadChance_init : Binds K a.d_BadChance_init P_BadChance_init []
  k_BadChance_init : PySem.W.keepIn K (.ref a.f_BadChance_init) = true
  i_BadChance_init : PySem.W.isFn K (.ref a.f_BadChance_init) = true
  F_ZeroPolynomial_init : Fun K "__init__" "ZeroPolynomial.__init__" s_ZeroPolynomial_init a.f_ZeroPolynomial_init a.d_ZeroPolynomial_init
  b_ZeroPolynomial_init : Binds K a.d_ZeroPolynomial_init P_ZeroPolynomial_init []
  k_ZeroPolynomial_init : PySem.W.keepIn K (.ref a.f_ZeroPolynomial_init) = true
  i_ZeroPolynomial_init : PySem.W.isFn K (.ref a.f_ZeroPolynomial_init) = true
  F_BadInterval_init : Fun K "__init__" "BadInterval.__init__" s_BadInterval_init a.f_BadInterval_init a.d_BadInterval_init
  b_BadInterval_init : Binds K a.d_BadInterval_init P_BadInterval_init []
  k_BadInterval_init : PySem.W.keepIn K (.ref a.f_BadInterval_init) = true
  i_BadInterval_init : PySem.W.isFn K (.ref a.f_BadInterval_init) = true
  F_NoSkip_init : Fun K "__init__" "NoSkip.__init__" s_NoSkip_init a.f_NoSkip_init a.d_NoSkip_init
  b_NoSkip_init : Binds K a.d_NoSkip_init P_NoSkip_init []
  k_NoSkip_init : PySem.W.keepIn K (.ref a.f_NoSkip_init) = true
  i_NoSkip_init : PySem.W.isFn K (.ref a.f_NoSkip_init) = true
  F_NotComing_init : Fun K "__init__" "NotComing.__init__" s_NotComing_init a.f_NotComing_init a.d_NotComing_init
  b_NotComing_init : Binds K a.d_NotComing_init P_NotComing_init []
  k_NotComing_init : PySem.W.keepIn K (.ref a.f_NotComing_init) = true
  i_NotComing_init : PySem.W.isFn K (.ref a.f_NotComing_init) = true
  F_NoPupils_init : Fun K "__init__" "NoPupils.__init__" s_NoPupils_init a.f_NoPupils_init a.d_NoPupils_init
  b_NoPupils_init : Binds K a.d_NoPupils_init P_NoPupils_init []
  k_NoPupils_init : PySem.W.keepIn K (.ref a.f_NoPupils_init) = true
  i_NoPupils_init : PySem.W.isFn K (.ref a.f_NoPupils_init) = true
  F_BadLength_init : Fun K "__init__" "BadLength.__init__" s_BadLength_init a.f_BadLength_init a.d_BadLength_init
  b_BadLength_init : Binds K a.d_BadLength_init P_BadLength_init []
  k_BadLength_init : PySem.W.keepIn K (.ref a.f_BadLength_init) = true
  i_BadLength_init : PySem.W.isFn K (.ref a.f_BadLength_init) = true
  F_AlikePupils_init : Fun K "__init__" "AlikePupils.__init__" s_AlikePupils_init a.f_AlikePupils_init a.d_AlikePupils_init
  b_AlikePupils_init : Binds K a.d_AlikePupils_init P_AlikePupils_init []
  k_AlikePupils_init : PySem.W.keepIn K (.ref a.f_AlikePupils_init) = true
  i_AlikePupils_init : PySem.W.isFn K (.ref a.f_AlikePupils_init) = true
  F_BadLine_init : Fun K "__init__" "BadLine.__init__" s_BadLine_init a.f_BadLine_init a.d_BadLine_init
  b_BadLine_init : Binds K a.d_BadLine_init P_BadLine_init []
  k_BadLine_init : PySem.W.keepIn K (.ref a.f_BadLine_init) = true
  i_BadLine_init : PySem.W.isFn K (.ref a.f_BadLine_init) = true
  F_Ended_init : Fun K "__init__" "Ended.__init__" s_Ended_init a.f_Ended_init a.d_Ended_init
  b_Ended_init : Binds K a.d_Ended_init P_Ended_init []
  k_Ended_init : PySem.W.keepIn K (.ref a.f_Ended_init) = true
  i_Ended_init : PySem.W.isFn K (.ref a.f_Ended_init) = true
  F_BadDeed_init : Fun K "__init__" "BadDeed.__init__" s_BadDeed_init a.f_BadDeed_init a.d_BadDeed_init
  b_BadDeed_init : Binds K a.d_BadDeed_init P_BadDeed_init []
  k_BadDeed_init : PySem.W.keepIn K (.ref a.f_BadDeed_init) = true
  i_BadDeed_init : PySem.W.isFn K (.ref a.f_BadDeed_init) = true
  F_l_pool : Fun K "_law_pool" "_law_pool" s_l_pool a.f_l_pool a.d_l_pool
  b_l_pool : Binds K a.d_l_pool P_l_pool []
  k_l_pool : PySem.W.keepIn K (.ref a.f_l_pool) = true
  g_l_pool : mg "_law_pool" = some (.ref a.f_l_pool)
  F_l_draw : Fun K "_law_draw" "_law_draw" s_l_draw a.f_l_draw a.d_l_draw
  b_l_draw : Binds K a.d_l_draw P_l_draw []
  k_l_draw : PySem.W.keepIn K (.ref a.f_l_draw) = true
  g_l_draw : mg "_law_draw" = some (.ref a.f_l_draw)
  F_l_first : Fun K "_law_first" "_law_first" s_l_first a.f_l_first a.d_l_first
  b_l_first : Binds K a.d_l_first P_l_first []
  k_l_first : PySem.W.keepIn K (.ref a.f_l_first) = true
  g_l_first : mg "_law_first" = some (.ref a.f_l_first)
  F_l_second : Fun K "_law_second" "_law_second" s_l_second a.f_l_second a.d_l_second
  b_l_second : Binds K a.d_l_second P_l_second []
  k_l_second : PySem.W.keepIn K (.ref a.f_l_second) = true
  g_l_second : mg "_law_second" = some (.ref a.f_l_second)
  F_l_third : Fun K "_law_third" "_law_third" s_l_third a.f_l_third a.d_l_third
  b_l_third : Binds K a.d_l_third P_l_third []
  k_l_third : PySem.W.keepIn K (.ref a.f_l_third) = true
  g_l_third : mg "_law_third" = some (.ref a.f_l_third)
  F_l_made : Fun K "_law_made" "_law_made" s_l_made a.f_l_made a.d_l_made
  b_l_made : Binds K a.d_l_made P_l_made []
  k_l_made : PySem.W.keepIn K (.ref a.f_l_made) = true
  g_l_made : mg "_law_made" = some (.ref a.f_l_made)
  F_l_kinds : Fun K "_law_kinds" "_law_kinds" s_l_kinds a.f_l_kinds a.d_l_kinds
  b_l_kinds : Binds K a.d_l_kinds P_l_kinds []
  k_l_kinds : PySem.W.keepIn K (.ref a.f_l_kinds) = true
  g_l_kinds : mg "_law_kinds" = some (.ref a.f_l_kinds)
  F_law : Fun K "law" "law" s_law a.f_law a.d_law
  b_law : Binds K a.d_law P_law []
  k_law : PySem.W.keepIn K (.ref a.f_law) = true
  g_law : mg "law" = some (.ref a.f_law)
  z_ValueError : mg "ValueError" = none
  z_abs : mg "abs" = none
  z_int : mg "int" = none
  z_isinstance : mg "isinstance" = none
  z_len : mg "len" = none
  z_list : mg "list" = none
  z_range : mg "range" = none
  z_tuple : mg "tuple" = none
section
variable {P : Program} {w : World} {K : PySem.W.Frag} {mg : Str → Option Value} {base : Heap} {a : Ad}
theorem ok_l_pool (T : Txt K mg a) : FnOk P w K mg base CX0 1 a.f_l_pool a.d_l_pool P_l_pool (spPool K) := by
  refine T.F_l_pool.ok sc_l_pool (fun vs H Q E h => ?_) (fun cdv A outer s H vs Q E hr h => ?_)
  · obtain ⟨x, ns, rfl, _⟩ := h
    rfl
  · obtain ⟨x, ns, rfl, hx, k⟩ := h
    refine ⟨_, (pss_one (ps_ret (pe_lst (pa_cons (pv 0) (pa_cons pe_int (pa_cons pe_int (pa_cons pe_int (pa_cons pe_int pa_nil)))))))), ?_⟩
    refine ⟨_, rfl, by show 5 ≤ sizeLine; decide, fun p hp => ?_⟩
    exact k p _ hp (same_upd hp) ⟨x, ns, 0, 0, 0, 7, hx.gd (same_upd hp).gd, upd_same, by omega, by omega, by omega, by omega, by omega, by omega, by omega⟩
theorem ok_l_draw (T : Txt K mg a) : FnOk P w K mg base CX0 1 a.f_l_draw a.d_l_draw P_l_draw (spDraw K) := by
  refine T.F_l_draw.ok sc_l_draw (fun vs H Q E h => ?_) (fun cdv A outer s H vs Q E hr h => ?_)
  · obtain ⟨p, c, lim, rfl, _⟩ := h
    rfl
  · obtain ⟨p, c, lim, rfl, ⟨sa, ns, c', i, b, st, hsa, hp, c0, c1, i0, i1, b0, s0, s1⟩, hc, l0, l1, k⟩ := h
    refine ⟨_, (Evl.pss_cut (ps_asg (pe_op op_add (pe_ix ix_list (pv 0) pe_int (by intro _ _; rfl)) pe_int) (pg_sub (pv 0) pe_int set_list))
  (Evl.pss_cut (ps_if (PW.pt (pw_and (pt_cmpR op_eq (pe_ix ix_list (pv 0) pe_int (by intro _ _; rfl)) pe_int (nomark _)) (pw_and1 (pt_cmpR op_lt (pe_ix ix_list (pv 0) pe_int (by intro _ _; rfl)) (pe_callB call_len_seq (by rfl) T.z_len (by decide +kernel) (pa_cons (pe_ix ix_list (pv 0) pe_int (by intro _ _; rfl)) pa_nil)) (nomark _)))))
    (pss_cons (ps_set (i := 2) sc_l_draw.nd rfl (Or.inl rfl) (pe_callB call_abs (by rfl) T.z_abs (by decide +kernel) (pa_cons (pe_ix ix_list (pe_ix ix_list (pv 0) pe_int (by intro _ _; rfl)) (pe_ix ix_list (pv 0) pe_int (by intro _ _; rfl)) (by intro _ _; rfl)) pa_nil)))
  (pss_cons (ps_asg (pe_op op_add (pe_ix ix_list (pv 0) pe_int (by intro _ _; rfl)) pe_int) (pg_sub (pv 0) pe_int set_list))
  (pss_one (ps_if (pt_cmpR op_ge (pv 2) (pe_op op_pow pe_int pe_int) (nomark _))
    (pss_one (ps_asg (pv 2) (pg_sub (pv 0) pe_int set_list)))
    (pss_one (ps_asg (pe_op op_mod (pe_callTy call_int1 (by rfl) T.z_int (by decide +kernel) (pa_cons (pe_op op_mul (pe_op op_add (pe_op op_add (pe_ix ix_list (pv 0) pe_int (by intro _ _; rfl)) (pv 2)) pe_int) pe_int) pa_nil)) pe_int) (pg_sub (pv 0) pe_int set_list)))))))
    pss_nil)
  (pss_cons (ps_if (pt_cmpR op_gt (pe_ix ix_list (pv 0) pe_int (by intro _ _; rfl)) pe_int (nomark _))
    (pss_cons (ps_set (i := 3) sc_l_draw.nd rfl (Or.inl rfl) (pe_op op_mod (pe_callTy call_int1 (by rfl) T.z_int (by decide +kernel) (pa_cons (pe_ix ix_list (pv 0) pe_int (by intro _ _; rfl)) pa_nil)) (pv 1)))
  (pss_cons (ps_asg (pe_op op_fdivW (pe_ix ix_list (pv 0) pe_int (by intro _ _; rfl)) (pv 1)) (pg_sub (pv 0) pe_int set_list))
  (pss_one (ps_ret (pv 3)))))
    pss_nil)
  (pss_cons (ps_set (i := 4) sc_l_draw.nd rfl (Or.inl rfl) (pe_op op_mod (pe_callTy call_int1 (by rfl) T.z_int (by decide +kernel) (pa_cons (pe_op op_pow (pe_op op_add (pe_ix ix_list (pv 0) pe_int (by intro _ _; rfl)) (pe_op op_mul (pe_ix ix_list (pv 0) pe_int (by intro _ _; rfl)) pe_int)) pe_int) pa_nil)) pe_int))
  (pss_one (ps_ret (pe_op op_mod (pe_callTy call_int1 (by rfl) T.z_int (by decide +kernel) (pa_cons (pe_op op_fdivW (pv 4) pe_int) pa_nil)) (pv 1)))))))), ?_⟩
    have hp : H p = some (pl sa c' i b st) := hp
    -- pool[1] = pool[1] + 1
    refine ⟨fun σ H1 => σ = [some (.ref p), some (.int lim), none, none, none] ∧ H1 = upd H p (pl sa (c' + 1) i b st), ?_, ?_⟩
    · exact ⟨_, rfl, p, _, 1, _, rfl, rfl, lst_of hp, atI1, c', 1, rfl, rfl, _, rfl, p, _, 1, 1, rfl, rfl, hp, rfl, rfl, rfl⟩
    · rintro σ H1 ⟨rfl, rfl⟩
      -- the cell
      refine ⟨fun σ H2 => ∃ (i' b' st' : Int) (v : Option V), σ = [some (.ref p), some (.int lim), v, none, none] ∧ H2 = upd H p (pl sa (c' + 1) i' b' st') ∧ 0 ≤ i' ∧ i' ≤ (ns.length : Int) ∧ 0 ≤ b' ∧ 0 ≤ st' ∧ st' < 2147483629, ?_, ?_⟩
      · have hP : upd H p (pl sa (c' + 1) i b st) p = some (pl sa (c' + 1) i b st) := upd_same
        have hS : SqL K (upd H p (pl sa (c' + 1) i b st)) sa (ns.map V.int) := (hsa.gd (gd_pool hp)).seq
        refine ⟨_, rfl, p, _, 3, _, rfl, rfl, lst_of hP, atI3, rfl, _, rfl, ?_⟩
        refine ite2 (fun e1 => ?_) (fun e1 => ?_)
        · refine ⟨_, rfl, p, _, 2, _, rfl, rfl, lst_of hP, atI2, _, rfl, p, _, 0, _, rfl, rfl, lst_of hP, atI0, sa, _, rfl, .inl hS, i, _, rfl, rfl, _, rfl, ?_⟩
          refine ite2 (fun e2 => ?_) (fun e2 => ?_)
          · have hi : i < (ns.length : Int) := by
              have := of_decide_eq_true e2
              rw [List.length_map] at this
              exact this
            obtain ⟨j, rfl⟩ : ∃ j : Nat, i = (j : Int) := ⟨i.toNat, by omega⟩
            have hj : j < ns.length := by omega
            have hg : (ns.map V.int)[j]? = some (.int ns[j]) := by
              rw [List.getElem?_map, List.getElem?_eq_getElem hj]
              rfl
            -- cell = abs(pool[0][pool[2]])
            refine ⟨_, rfl, p, _, 0, _, rfl, rfl, lst_of hP, atI0, _, rfl, p, _, 2, _, rfl, rfl, lst_of hP, atI2, sa, _, (j : Int), _, rfl, rfl, hS, atI_nat hg, _, rfl, ?_⟩
            -- pool[2] = pool[2] + 1
            refine ⟨_, rfl, p, _, 2, _, rfl, rfl, lst_of hP, atI2, (j : Int), 1, rfl, rfl, _, rfl, p, _, 2, 2, rfl, rfl, hP, rfl, ?_⟩
            have hP2 : upd (upd H p (pl sa (c' + 1) (j : Int) b st)) p (pl sa (c' + 1) ((j : Int) + 1) b st) p = some (pl sa (c' + 1) ((j : Int) + 1) b st) := upd_same
            have c0' : 0 ≤ (if ns[j] < 0 then -ns[j] else ns[j]) := by split <;> omega
            refine ⟨_, rfl, _, 18, rfl, rfl, ⟨by decide, by decide, by decide⟩, _, _, rfl, rfl, _, rfl, ?_⟩
            refine ite2 (fun e3 => ?_) (fun e3 => ?_)
            · refine ⟨_, rfl, _, rfl, p, _, 3, 3, rfl, rfl, hP2, rfl, ?_⟩
              refine ⟨(j : Int) + 1, _, st, _, rfl, ?_, by omega, by omega, c0', s0, s1⟩
              rw [upd_upd, upd_upd]
              rfl
            · have hlt : (if ns[j] < 0 then -ns[j] else ns[j]) < 10 ^ (18 : Int).toNat := by
                refine Int.not_le.mp fun hh => e3 (decide_eq_true hh)
              refine ⟨_, rfl, p, _, 4, _, rfl, rfl, lst_of hP2, atI4, _, rfl, st, _, rfl, rfl, _, 1, rfl, rfl, _, 48271, rfl, rfl, .inr ⟨by decide, by decide⟩, .inl ⟨_, rfl, _, 2147483629, rfl, rfl, (by show (0 : Int) < 2147483629; decide), _, rfl, p, _, 4, 4, rfl, rfl, hP2, rfl, ?_⟩⟩
              refine ⟨(j : Int) + 1, b, ((st + if ns[j] < 0 then -ns[j] else ns[j]) + 1) * 48271 % 2147483629, _, rfl, ?_, by omega, by omega, b0, Int.emod_nonneg _ (by decide), Int.emod_lt_of_pos _ (by decide)⟩
              rw [upd_upd, upd_upd]
              rfl
          · exact ⟨i, b, st, _, rfl, rfl, i0, i1, b0, s0, s1⟩
        · exact ⟨i, b, st, _, rfl, rfl, i0, i1, b0, s0, s1⟩
      · rintro σ H2 ⟨i', b', st', v, rfl, rfl, i0', i1', b0', s0', s1'⟩
        have hP : upd H p (pl sa (c' + 1) i' b' st') p = some (pl sa (c' + 1) i' b' st') := upd_same
        have fin : ∀ (b'' : Int) (r : Int), 0 ≤ b'' → 0 ≤ r → r < lim → Q (.int r) (upd H p (pl sa (c' + 1) i' b'' st')) := fun b'' r hb hr0 hr1 =>
          k _ r (gd_pool hp) ⟨sa, ns, c' + 1, i', b'', st', hsa.gd (gd_pool hp), upd_same, by omega, by omega, i0', i1', hb, s0', s1'⟩ hr0 hr1
        refine ⟨_, rfl, p, _, 3, _, rfl, rfl, lst_of hP, atI3, b', 0, rfl, rfl, _, rfl, ?_⟩
        refine ite2 (fun e1 => ?_) (fun e1 => ?_)
        · refine ⟨_, rfl, p, _, 3, _, rfl, rfl, lst_of hP, atI3, .inl ⟨_, rfl, _, rfl, b', lim, rfl, rfl, l0, ?_⟩⟩
          refine ⟨_, rfl, p, _, 3, _, rfl, rfl, lst_of hP, atI3, _, rfl, b', lim, rfl, rfl, ⟨l0, ?_⟩, _, rfl, p, _, 3, 3, rfl, rfl, hP, rfl, _, rfl, ?_⟩
          · exact (wide_div (i := 0) (b := 200) l0 (by omega) (by decide) (by decide)).2
          · have := fin (b' / lim) (b' % lim) (Int.ediv_nonneg b0' (by omega)) (Int.emod_nonneg _ (by omega)) (Int.emod_lt_of_pos _ l0)
            rw [upd_upd]
            exact this
        · refine ⟨_, rfl, p, _, 4, _, rfl, rfl, lst_of hP, atI4, _, rfl, p, _, 1, _, rfl, rfl, lst_of hP, atI1, c' + 1, 7919, rfl, rfl, .inr ⟨by decide, by decide⟩, st', _, rfl, rfl, _, 3, rfl, rfl, ⟨by decide, by decide, ?_⟩, .inl ⟨_, rfl, _, 2147483647, rfl, rfl, (by show (0 : Int) < 2147483647; decide), ?_⟩⟩
          · unfold LIM at hc
            omega
          · refine ⟨_, rfl, _, 16, rfl, rfl, ⟨by decide, by decide⟩, .inl ⟨_, rfl, _, rfl, _, lim, rfl, rfl, l0, ?_⟩⟩
            exact fin b' _ b0' (Int.emod_nonneg _ (by omega)) (Int.emod_lt_of_pos _ l0)
theorem ok_BadEnds_init (T : Txt K mg a) : FnOk P w K mg base CX0 1 a.f_BadEnds_init a.d_BadEnds_init P_BadEnds_init (spErr a.c_BadEnds "count" okB) := by
  refine T.F_BadEnds_init.ok sc_BadEnds_init (fun vs H Q E h => ?_) (fun cdv A outer s H vs Q E hr h => ?_)
  · obtain ⟨x, v, rfl, _⟩ := h
    rfl
  · obtain ⟨x, v, rfl, ⟨i, rfl, hi⟩, hx, k⟩ := h
    refine ⟨_, (pss_cons (ps_expr (pe_binit T.bi_TestError (by rfl) T.g_TestError (pa_cons (pv 0) (pa_cons (pe_joined (PJ.cons (pe_fmt (pv 1)) (PJ.cons pe_str PJ.nil))) pa_nil))))
  (pss_one (ps_ost (pv 0) (pv 1)))), ?_⟩
    have hl := hi.len
    have c0 : Str.empty.length = 0 := rfl
    have c2 : (PySem.Str.ofString " ends instead of 1 to 60").length = 24 := by rw [PySem.ofString_length]; rfl
    refine ⟨_, rfl, ?_⟩
    refine ⟨_, rfl, .inr ⟨i, rfl, hi.log, _, rfl, by simp only [len_app, c0, c2, sizeLine_eq]; omega, ?_⟩⟩
    refine ⟨_, rfl, by simp only [len_app, c0, c2, sizeLine_eq]; omega, ?_⟩
    refine ⟨x, a.c_BadEnds, _, rfl, by show 1 ≤ 1000; decide, T.ox_BadEnds, hx, ?_⟩
    exact ⟨_, rfl, _, rfl, x, a.c_BadEnds, rfl, T.ox_BadEnds, T.nf_BadEnds_count, .inl ⟨hx, fun dx nd ne => k dx nd ne⟩⟩
theorem ok_BadNode_init (T : Txt K mg a) : FnOk P w K mg base CX0 1 a.f_BadNode_init a.d_BadNode_init P_BadNode_init (spErr a.c_BadNode "index" okB) := by
  refine T.F_BadNode_init.ok sc_BadNode_init (fun vs H Q E h => ?_) (fun cdv A outer s H vs Q E hr h => ?_)
  · obtain ⟨x, v, rfl, _⟩ := h
    rfl
  · obtain ⟨x, v, rfl, ⟨i, rfl, hi⟩, hx, k⟩ := h
    refine ⟨_, (pss_cons (ps_expr (pe_binit T.bi_TestError (by rfl) T.g_TestError (pa_cons (pv 0) (pa_cons (pe_joined (PJ.cons pe_str (PJ.cons (pe_fmt (pv 1)) (PJ.cons pe_str PJ.nil)))) pa_nil))))
  (pss_one (ps_ost (pv 0) (pv 1)))), ?_⟩
    have hl := hi.len
    have c0 : Str.empty.length = 0 := rfl
    have c1 : (PySem.Str.ofString "node ").length = 5 := by rw [PySem.ofString_length]; rfl
    have c3 : (PySem.Str.ofString " has a wrong length, question or target").length = 39 := by rw [PySem.ofString_length]; rfl
    refine ⟨_, rfl, ?_⟩
    refine ⟨_, rfl, by simp only [len_app, c0, c1, c3, sizeLine_eq]; omega, ?_⟩
    refine ⟨_, rfl, .inr ⟨i, rfl, hi.log, _, rfl, by simp only [len_app, c0, c1, c3, sizeLine_eq]; omega, ?_⟩⟩
    refine ⟨_, rfl, by simp only [len_app, c0, c1, c3, sizeLine_eq]; omega, ?_⟩
    refine ⟨x, a.c_BadNode, _, rfl, by show 1 ≤ 1000; decide, T.ox_BadNode, hx, ?_⟩
    exact ⟨_, rfl, _, rfl, x, a.c_BadNode, rfl, T.ox_BadNode, T.nf_BadNode_index, .inl ⟨hx, fun dx nd ne => k dx nd ne⟩⟩
theorem ok_BadStart_init (T : Txt K mg a) : FnOk P w K mg base CX0 1 a.f_BadStart_init a.d_BadStart_init P_BadStart_init (spErr a.c_BadStart "place" okB) := by
  refine T.F_BadStart_init.ok sc_BadStart_init (fun vs H Q E h => ?_) (fun cdv A outer s H vs Q E hr h => ?_)
  · obtain ⟨x, v, rfl, _⟩ := h
    rfl
  · obtain ⟨x, v, rfl, ⟨i, rfl, hi⟩, hx, k⟩ := h
    refine ⟨_, (pss_cons (ps_expr (pe_binit T.bi_TestError (by rfl) T.g_TestError (pa_cons (pv 0) (pa_cons (pe_joined (PJ.cons pe_str (PJ.cons (pe_fmt (pv 1)) (PJ.cons pe_str PJ.nil)))) pa_nil))))
  (pss_one (ps_ost (pv 0) (pv 1)))), ?_⟩
    have hl := hi.len
    have c0 : Str.empty.length = 0 := rfl
    have c1 : (PySem.Str.ofString "the start ").length = 10 := by rw [PySem.ofString_length]; rfl
    have c3 : (PySem.Str.ofString " is no position").length = 15 := by rw [PySem.ofString_length]; rfl
    refine ⟨_, rfl, ?_⟩
    refine ⟨_, rfl, by simp only [len_app, c0, c1, c3, sizeLine_eq]; omega, ?_⟩
    refine ⟨_, rfl, .inr ⟨i, rfl, hi.log, _, rfl, by simp only [len_app, c0, c1, c3, sizeLine_eq]; omega, ?_⟩⟩
    refine ⟨_, rfl, by simp only [len_app, c0, c1, c3, sizeLine_eq]; omega, ?_⟩
    refine ⟨x, a.c_BadStart, _, rfl, by show 1 ≤ 1000; decide, T.ox_BadStart, hx, ?_⟩
    exact ⟨_, rfl, _, rfl, x, a.c_BadStart, rfl, T.ox_BadStart, T.nf_BadStart_place, .inl ⟨hx, fun dx nd ne => k dx nd ne⟩⟩
theorem ok_TwiceAsked_init (T : Txt K mg a) : FnOk P w K mg base CX0 1 a.f_TwiceAsked_init a.d_TwiceAsked_init P_TwiceAsked_init (spErr a.c_TwiceAsked "index" okB) := by
  refine T.F_TwiceAsked_init.ok sc_TwiceAsked_init (fun vs H Q E h => ?_) (fun cdv A outer s H vs Q E hr h => ?_)
  · obtain ⟨x, v, rfl, _⟩ := h
    rfl
  · obtain ⟨x, v, rfl, ⟨i, rfl, hi⟩, hx, k⟩ := h
    refine ⟨_, (pss_cons (ps_expr (pe_binit T.bi_TestError (by rfl) T.g_TestError (pa_cons (pv 0) (pa_cons (pe_joined (PJ.cons pe_str (PJ.cons (pe_fmt (pv 1)) (PJ.cons pe_str PJ.nil)))) pa_nil))))
  (pss_one (ps_ost (pv 0) (pv 1)))), ?_⟩
    have hl := hi.len
    have c0 : Str.empty.length = 0 := rfl
    have c1 : (PySem.Str.ofString "the question of node ").length = 21 := by rw [PySem.ofString_length]; rfl
    have c3 : (PySem.Str.ofString " is asked again behind it").length = 25 := by rw [PySem.ofString_length]; rfl
    refine ⟨_, rfl, ?_⟩
    refine ⟨_, rfl, by simp only [len_app, c0, c1, c3, sizeLine_eq]; omega, ?_⟩
    refine ⟨_, rfl, .inr ⟨i, rfl, hi.log, _, rfl, by simp only [len_app, c0, c1, c3, sizeLine_eq]; omega, ?_⟩⟩
    refine ⟨_, rfl, by simp only [len_app, c0, c1, c3, sizeLine_eq]; omega, ?_⟩
    refine ⟨x, a.c_TwiceAsked, _, rfl, by show 1 ≤ 1000; decide, T.ox_TwiceAsked, hx, ?_⟩
    exact ⟨_, rfl, _, rfl, x, a.c_TwiceAsked, rfl, T.ox_TwiceAsked, T.nf_TwiceAsked_index, .inl ⟨hx, fun dx nd ne => k dx nd ne⟩⟩
theorem ok_NoNode_init (T : Txt K mg a) : FnOk P w K mg base CX0 1 a.f_NoNode_init a.d_NoNode_init P_NoNode_init (spErr a.c_NoNode "index" okB) := by
  refine T.F_NoNode_init.ok sc_NoNode_init (fun vs H Q E h => ?_) (fun cdv A outer s H vs Q E hr h => ?_)
  · obtain ⟨x, v, rfl, _⟩ := h
    rfl
  · obtain ⟨x, v, rfl, ⟨i, rfl, hi⟩, hx, k⟩ := h
    refine ⟨_, (pss_cons (ps_expr (pe_binit T.bi_TestError (by rfl) T.g_TestError (pa_cons (pv 0) (pa_cons (pe_joined (PJ.cons pe_str (PJ.cons (pe_fmt (pv 1)) PJ.nil))) pa_nil))))
  (pss_one (ps_ost (pv 0) (pv 1)))), ?_⟩
    have hl := hi.len
    have c0 : Str.empty.length = 0 := rfl
    have c1 : (PySem.Str.ofString "there is no node ").length = 17 := by rw [PySem.ofString_length]; rfl
    refine ⟨_, rfl, ?_⟩
    refine ⟨_, rfl, by simp only [len_app, c0, c1, sizeLine_eq]; omega, ?_⟩
    refine ⟨_, rfl, .inr ⟨i, rfl, hi.log, _, rfl, by simp only [len_app, c0, c1, sizeLine_eq]; omega, ?_⟩⟩
    refine ⟨x, a.c_NoNode, _, rfl, by show 1 ≤ 1000; decide, T.ox_NoNode, hx, ?_⟩
    exact ⟨_, rfl, _, rfl, x, a.c_NoNode, rfl, T.ox_NoNode, T.nf_NoNode_index, .inl ⟨hx, fun dx nd ne => k dx nd ne⟩⟩
theorem ok_NoPosition_init (T : Txt K mg a) : FnOk P w K mg base CX0 1 a.f_NoPosition_init a.d_NoPosition_init P_NoPosition_init (spErr a.c_NoPosition "place" okB) := by
  refine T.F_NoPosition_init.ok sc_NoPosition_init (fun vs H Q E h => ?_) (fun cdv A outer s H vs Q E hr h => ?_)
  · obtain ⟨x, v, rfl, _⟩ := h
    rfl
  · obtain ⟨x, v, rfl, ⟨i, rfl, hi⟩, hx, k⟩ := h
    refine ⟨_, (pss_cons (ps_expr (pe_binit T.bi_TestError (by rfl) T.g_TestError (pa_cons (pv 0) (pa_cons (pe_joined (PJ.cons (pe_fmt (pv 1)) (PJ.cons pe_str PJ.nil))) pa_nil))))
  (pss_one (ps_ost (pv 0) (pv 1)))), ?_⟩
    have hl := hi.len
    have c0 : Str.empty.length = 0 := rfl
    have c2 : (PySem.Str.ofString " is no position").length = 15 := by rw [PySem.ofString_length]; rfl
    refine ⟨_, rfl, ?_⟩
    refine ⟨_, rfl, .inr ⟨i, rfl, hi.log, _, rfl, by simp only [len_app, c0, c2, sizeLine_eq]; omega, ?_⟩⟩
    refine ⟨_, rfl, by simp only [len_app, c0, c2, sizeLine_eq]; omega, ?_⟩
    refine ⟨x, a.c_NoPosition, _, rfl, by show 1 ≤ 1000; decide, T.ox_NoPosition, hx, ?_⟩
    exact ⟨_, rfl, _, rfl, x, a.c_NoPosition, rfl, T.ox_NoPosition, T.nf_NoPosition_place, .inl ⟨hx, fun dx nd ne => k dx nd ne⟩⟩
theorem ok_BadQuestion_init (T : Txt K mg a) : FnOk P w K mg base CX0 1 a.f_BadQuestion_init a.d_BadQuestion_init P_BadQuestion_init (spErr a.c_BadQuestion "number" okB) := by
  refine T.F_BadQuestion_init.ok sc_BadQuestion_init (fun vs H Q E h => ?_) (fun cdv A outer s H vs Q E hr h => ?_)
  · obtain ⟨x, v, rfl, _⟩ := h
    rfl
  · obtain ⟨x, v, rfl, ⟨i, rfl, hi⟩, hx, k⟩ := h
    refine ⟨_, (pss_cons (ps_expr (pe_binit T.bi_TestError (by rfl) T.g_TestError (pa_cons (pv 0) (pa_cons (pe_joined (PJ.cons pe_str (PJ.cons (pe_fmt (pv 1)) (PJ.cons pe_str PJ.nil)))) pa_nil))))
  (pss_one (ps_ost (pv 0) (pv 1)))), ?_⟩
    have hl := hi.len
    have c0 : Str.empty.length = 0 := rfl
    have c1 : (PySem.Str.ofString "question ").length = 9 := by rw [PySem.ofString_length]; rfl
    have c3 : (PySem.Str.ofString " is not 0 to 47").length = 15 := by rw [PySem.ofString_length]; rfl
    refine ⟨_, rfl, ?_⟩
    refine ⟨_, rfl, by simp only [len_app, c0, c1, c3, sizeLine_eq]; omega, ?_⟩
    refine ⟨_, rfl, .inr ⟨i, rfl, hi.log, _, rfl, by simp only [len_app, c0, c1, c3, sizeLine_eq]; omega, ?_⟩⟩
    refine ⟨_, rfl, by simp only [len_app, c0, c1, c3, sizeLine_eq]; omega, ?_⟩
    refine ⟨x, a.c_BadQuestion, _, rfl, by show 1 ≤ 1000; decide, T.ox_BadQuestion, hx, ?_⟩
    exact ⟨_, rfl, _, rfl, x, a.c_BadQuestion, rfl, T.ox_BadQuestion, T.nf_BadQuestion_number, .inl ⟨hx, fun dx nd ne => k dx nd ne⟩⟩
theorem ok_BadMarks_init (T : Txt K mg a) : FnOk P w K mg base CX0 1 a.f_BadMarks_init a.d_BadMarks_init P_BadMarks_init (spErr a.c_BadMarks "count" okB) := by
  refine T.F_BadMarks_init.ok sc_BadMarks_init (fun vs H Q E h => ?_) (fun cdv A outer s H vs Q E hr h => ?_)
  · obtain ⟨x, v, rfl, _⟩ := h
    rfl
  · obtain ⟨x, v, rfl, ⟨i, rfl, hi⟩, hx, k⟩ := h
    refine ⟨_, (pss_cons (ps_expr (pe_binit T.bi_TestError (by rfl) T.g_TestError (pa_cons (pv 0) (pa_cons (pe_joined (PJ.cons (pe_fmt (pv 1)) (PJ.cons pe_str PJ.nil))) pa_nil))))
  (pss_one (ps_ost (pv 0) (pv 1)))), ?_⟩
    have hl := hi.len
    have c0 : Str.empty.length = 0 := rfl
    have c2 : (PySem.Str.ofString " marks are not as many as the ends").length = 34 := by rw [PySem.ofString_length]; rfl
    refine ⟨_, rfl, ?_⟩
    refine ⟨_, rfl, .inr ⟨i, rfl, hi.log, _, rfl, by simp only [len_app, c0, c2, sizeLine_eq]; omega, ?_⟩⟩
    refine ⟨_, rfl, by simp only [len_app, c0, c2, sizeLine_eq]; omega, ?_⟩
    refine ⟨x, a.c_BadMarks, _, rfl, by show 1 ≤ 1000; decide, T.ox_BadMarks, hx, ?_⟩
    exact ⟨_, rfl, _, rfl, x, a.c_BadMarks, rfl, T.ox_BadMarks, T.nf_BadMarks_count, .inl ⟨hx, fun dx nd ne => k dx nd ne⟩⟩
theorem ok_BadCount_init (T : Txt K mg a) : FnOk P w K mg base CX0 1 a.f_BadCount_init a.d_BadCount_init P_BadCount_init (spErr a.c_BadCount "count" okB) := by
  refine T.F_BadCount_init.ok sc_BadCount_init (fun vs H Q E h => ?_) (fun cdv A outer s H vs Q E hr h => ?_)
  · obtain ⟨x, v, rfl, _⟩ := h
    rfl
  · obtain ⟨x, v, rfl, ⟨i, rfl, hi⟩, hx, k⟩ := h
    refine ⟨_, (pss_cons (ps_expr (pe_binit T.bi_TestError (by rfl) T.g_TestError (pa_cons (pv 0) (pa_cons (pe_joined (PJ.cons (pe_fmt (pv 1)) (PJ.cons pe_str PJ.nil))) pa_nil))))
  (pss_one (ps_ost (pv 0) (pv 1)))), ?_⟩
    have hl := hi.len
    have c0 : Str.empty.length = 0 := rfl
    have c2 : (PySem.Str.ofString " webs instead of one to three").length = 29 := by rw [PySem.ofString_length]; rfl
    refine ⟨_, rfl, ?_⟩
    refine ⟨_, rfl, .inr ⟨i, rfl, hi.log, _, rfl, by simp only [len_app, c0, c2, sizeLine_eq]; omega, ?_⟩⟩
    refine ⟨_, rfl, by simp only [len_app, c0, c2, sizeLine_eq]; omega, ?_⟩
    refine ⟨x, a.c_BadCount, _, rfl, by show 1 ≤ 1000; decide, T.ox_BadCount, hx, ?_⟩
    exact ⟨_, rfl, _, rfl, x, a.c_BadCount, rfl, T.ox_BadCount, T.nf_BadCount_count, .inl ⟨hx, fun dx nd ne => k dx nd ne⟩⟩
theorem ok_BadPositions_init (T : Txt K mg a) : FnOk P w K mg base CX0 1 a.f_BadPositions_init a.d_BadPositions_init P_BadPositions_init (spErr a.c_BadPositions "index" okB) := by
  refine T.F_BadPositions_init.ok sc_BadPositions_init (fun vs H Q E h => ?_) (fun cdv A outer s H vs Q E hr h => ?_)
  · obtain ⟨x, v, rfl, _⟩ := h
    rfl
  · obtain ⟨x, v, rfl, ⟨i, rfl, hi⟩, hx, k⟩ := h
    refine ⟨_, (pss_cons (ps_expr (pe_binit T.bi_TestError (by rfl) T.g_TestError (pa_cons (pv 0) (pa_cons (pe_joined (PJ.cons pe_str (PJ.cons (pe_fmt (pv 1)) (PJ.cons pe_str PJ.nil)))) pa_nil))))
  (pss_one (ps_ost (pv 0) (pv 1)))), ?_⟩
    have hl := hi.len
    have c0 : Str.empty.length = 0 := rfl
    have c1 : (PySem.Str.ofString "start ").length = 6 := by rw [PySem.ofString_length]; rfl
    have c3 : (PySem.Str.ofString " has not one position for each walker").length = 37 := by rw [PySem.ofString_length]; rfl
    refine ⟨_, rfl, ?_⟩
    refine ⟨_, rfl, by simp only [len_app, c0, c1, c3, sizeLine_eq]; omega, ?_⟩
    refine ⟨_, rfl, .inr ⟨i, rfl, hi.log, _, rfl, by simp only [len_app, c0, c1, c3, sizeLine_eq]; omega, ?_⟩⟩
    refine ⟨_, rfl, by simp only [len_app, c0, c1, c3, sizeLine_eq]; omega, ?_⟩
    refine ⟨x, a.c_BadPositions, _, rfl, by show 1 ≤ 1000; decide, T.ox_BadPositions, hx, ?_⟩
    exact ⟨_, rfl, _, rfl, x, a.c_BadPositions, rfl, T.ox_BadPositions, T.nf_BadPositions_index, .inl ⟨hx, fun dx nd ne => k dx nd ne⟩⟩
theorem ok_NotReached_init (T : Txt K mg a) : FnOk P w K mg base CX0 1 a.f_NotReached_init a.d_NotReached_init P_NotReached_init (spErr a.c_NotReached "index" okB) := by
  refine T.F_NotReached_init.ok sc_NotReached_init (fun vs H Q E h => ?_) (fun cdv A outer s H vs Q E hr h => ?_)
  · obtain ⟨x, v, rfl, _⟩ := h
    rfl
  · obtain ⟨x, v, rfl, ⟨i, rfl, hi⟩, hx, k⟩ := h
    refine ⟨_, (pss_cons (ps_expr (pe_binit T.bi_TestError (by rfl) T.g_TestError (pa_cons (pv 0) (pa_cons (pe_joined (PJ.cons pe_str (PJ.cons (pe_fmt (pv 1)) (PJ.cons pe_str PJ.nil)))) pa_nil))))
  (pss_one (ps_ost (pv 0) (pv 1)))), ?_⟩
    have hl := hi.len
    have c0 : Str.empty.length = 0 := rfl
    have c1 : (PySem.Str.ofString "node ").length = 5 := by rw [PySem.ofString_length]; rfl
    have c3 : (PySem.Str.ofString " is not reached").length = 15 := by rw [PySem.ofString_length]; rfl
    refine ⟨_, rfl, ?_⟩
    refine ⟨_, rfl, by simp only [len_app, c0, c1, c3, sizeLine_eq]; omega, ?_⟩
    refine ⟨_, rfl, .inr ⟨i, rfl, hi.log, _, rfl, by simp only [len_app, c0, c1, c3, sizeLine_eq]; omega, ?_⟩⟩
    refine ⟨_, rfl, by simp only [len_app, c0, c1, c3, sizeLine_eq]; omega, ?_⟩
    refine ⟨x, a.c_NotReached, _, rfl, by show 1 ≤ 1000; decide, T.ox_NotReached, hx, ?_⟩
    exact ⟨_, rfl, _, rfl, x, a.c_NotReached, rfl, T.ox_NotReached, T.nf_NotReached_index, .inl ⟨hx, fun dx nd ne => k dx nd ne⟩⟩
theorem ok_NoEnd_init (T : Txt K mg a) : FnOk P w K mg base CX0 1 a.f_NoEnd_init a.d_NoEnd_init P_NoEnd_init (spErr a.c_NoEnd "number" okB) := by
  refine T.F_NoEnd_init.ok sc_NoEnd_init (fun vs H Q E h => ?_) (fun cdv A outer s H vs Q E hr h => ?_)
  · obtain ⟨x, v, rfl, _⟩ := h
    rfl
  · obtain ⟨x, v, rfl, ⟨i, rfl, hi⟩, hx, k⟩ := h
    refine ⟨_, (pss_cons (ps_expr (pe_binit T.bi_TestError (by rfl) T.g_TestError (pa_cons (pv 0) (pa_cons (pe_joined (PJ.cons pe_str (PJ.cons (pe_fmt (pv 1)) PJ.nil))) pa_nil))))
  (pss_one (ps_ost (pv 0) (pv 1)))), ?_⟩
    have hl := hi.len
    have c0 : Str.empty.length = 0 := rfl
    have c1 : (PySem.Str.ofString "there is no end ").length = 16 := by rw [PySem.ofString_length]; rfl
    refine ⟨_, rfl, ?_⟩
    refine ⟨_, rfl, by simp only [len_app, c0, c1, sizeLine_eq]; omega, ?_⟩
    refine ⟨_, rfl, .inr ⟨i, rfl, hi.log, _, rfl, by simp only [len_app, c0, c1, sizeLine_eq]; omega, ?_⟩⟩
    refine ⟨x, a.c_NoEnd, _, rfl, by show 1 ≤ 1000; decide, T.ox_NoEnd, hx, ?_⟩
    exact ⟨_, rfl, _, rfl, x, a.c_NoEnd, rfl, T.ox_NoEnd, T.nf_NoEnd_number, .inl ⟨hx, fun dx nd ne => k dx nd ne⟩⟩
theorem ok_ZeroBottom_init (T : Txt K mg a) : FnOk P w K mg base CX0 1 a.f_ZeroBottom_init a.d_ZeroBottom_init P_ZeroBottom_init (spErr0 a.c_ZeroBottom) := by
  refine T.F_ZeroBottom_init.ok sc_ZeroBottom_init (fun vs H Q E h => ?_) (fun cdv A outer s H vs Q E hr h => ?_)
  · obtain ⟨x, rfl, _⟩ := h
    rfl
  · obtain ⟨x, rfl, hx, k⟩ := h
    exact ⟨_, (pss_one (ps_expr (pe_binit T.bi_TestError (by rfl) T.g_TestError (pa_cons (pv 0) (pa_cons pe_str pa_nil))))), _, rfl, x, a.c_ZeroBottom, _, rfl, by show 1 ≤ 1000; decide, T.ox_ZeroBottom, hx, k⟩
theorem ok_NoChance_init (T : Txt K mg a) : FnOk P w K mg base CX0 1 a.f_NoChance_init a.d_NoChance_init P_NoChance_init (spErr a.c_NoChance "number" okB) := by
  refine T.F_NoChance_init.ok sc_NoChance_init (fun vs H Q E h => ?_) (fun cdv A outer s H vs Q E hr h => ?_)
  · obtain ⟨x, v, rfl, _⟩ := h
    rfl
  · obtain ⟨x, v, rfl, ⟨i, rfl, hi⟩, hx, k⟩ := h
    refine ⟨_, (pss_cons (ps_expr (pe_binit T.bi_TestError (by rfl) T.g_TestError (pa_cons (pv 0) (pa_cons (pe_joined (PJ.cons pe_str (PJ.cons (pe_fmt (pv 1)) (PJ.cons pe_str PJ.nil)))) pa_nil))))
  (pss_one (ps_ost (pv 0) (pv 1)))), ?_⟩
    have hl := hi.len
    have c0 : Str.empty.length = 0 := rfl
    have c1 : (PySem.Str.ofString "question ").length = 9 := by rw [PySem.ofString_length]; rfl
    have c3 : (PySem.Str.ofString " has no chance").length = 14 := by rw [PySem.ofString_length]; rfl
    refine ⟨_, rfl, ?_⟩
    refine ⟨_, rfl, by simp only [len_app, c0, c1, c3, sizeLine_eq]; omega, ?_⟩
    refine ⟨_, rfl, .inr ⟨i, rfl, hi.log, _, rfl, by simp only [len_app, c0, c1, c3, sizeLine_eq]; omega, ?_⟩⟩
    refine ⟨_, rfl, by simp only [len_app, c0, c1, c3, sizeLine_eq]; omega, ?_⟩
    refine ⟨x, a.c_NoChance, _, rfl, by show 1 ≤ 1000; decide, T.ox_NoChance, hx, ?_⟩
    exact ⟨_, rfl, _, rfl, x, a.c_NoChance, rfl, T.ox_NoChance, T.nf_NoChance_number, .inl ⟨hx, fun dx nd ne => k dx nd ne⟩⟩
theorem ok_BadChance_init (T : Txt K mg a) : FnOk P w K mg base CX0 1 a.f_BadChance_init a.d_BadChance_init P_BadChance_init (spErr a.c_BadChance "number" okB) := by
  refine T.F_BadChance_init.ok sc_BadChance_init (fun vs H Q E h => ?_) (fun cdv A outer s H vs Q E hr h => ?_)
  · obtain ⟨x, v, rfl, _⟩ := h
    rfl
  · obtain ⟨x, v, rfl, ⟨i, rfl, hi⟩, hx, k⟩ := h
    refine ⟨_, (pss_cons (ps_expr (pe_binit T.bi_TestError (by rfl) T.g_TestError (pa_cons (pv 0) (pa_cons (pe_joined (PJ.cons pe_str (PJ.cons (pe_fmt (pv 1)) (PJ.cons pe_str PJ.nil)))) pa_nil))))
  (pss_one (ps_ost (pv 0) (pv 1)))), ?_⟩
    have hl := hi.len
    have c0 : Str.empty.length = 0 := rfl
    have c1 : (PySem.Str.ofString "the chance of question ").length = 23 := by rw [PySem.ofString_length]; rfl
    have c3 : (PySem.Str.ofString " is not from 0 to 1").length = 19 := by rw [PySem.ofString_length]; rfl
    refine ⟨_, rfl, ?_⟩
    refine ⟨_, rfl, by simp only [len_app, c0, c1, c3, sizeLine_eq]; omega, ?_⟩
    refine ⟨_, rfl, .inr ⟨i, rfl, hi.log, _, rfl, by simp only [len_app, c0, c1, c3, sizeLine_eq]; omega, ?_⟩⟩
    refine ⟨_, rfl, by simp only [len_app, c0, c1, c3, sizeLine_eq]; omega, ?_⟩
    refine ⟨x, a.c_BadChance, _, rfl, by show 1 ≤ 1000; decide, T.ox_BadChance, hx, ?_⟩
    exact ⟨_, rfl, _, rfl, x, a.c_BadChance, rfl, T.ox_BadChance, T.nf_BadChance_number, .inl ⟨hx, fun dx nd ne => k dx nd ne⟩⟩
theorem ok_ZeroPolynomial_init (T : Txt K mg a) : FnOk P w K mg base CX0 1 a.f_ZeroPolynomial_init a.d_ZeroPolynomial_init P_ZeroPolynomial_init (spErr0 a.c_ZeroPolynomial) := by
  refine T.F_ZeroPolynomial_init.ok sc_ZeroPolynomial_init (fun vs H Q E h => ?_) (fun cdv A outer s H vs Q E hr h => ?_)
  · obtain ⟨x, rfl, _⟩ := h
    rfl
  · obtain ⟨x, rfl, hx, k⟩ := h
    exact ⟨_, (pss_one (ps_expr (pe_binit T.bi_TestError (by rfl) T.g_TestError (pa_cons (pv 0) (pa_cons pe_str pa_nil))))), _, rfl, x, a.c_ZeroPolynomial, _, rfl, by show 1 ≤ 1000; decide, T.ox_ZeroPolynomial, hx, k⟩
theorem ok_BadInterval_init (T : Txt K mg a) : FnOk P w K mg base CX0 1 a.f_BadInterval_init a.d_BadInterval_init P_BadInterval_init (spErr0 a.c_BadInterval) := by
  refine T.F_BadInterval_init.ok sc_BadInterval_init (fun vs H Q E h => ?_) (fun cdv A outer s H vs Q E hr h => ?_)
  · obtain ⟨x, rfl, _⟩ := h
    rfl
  · obtain ⟨x, rfl, hx, k⟩ := h
    exact ⟨_, (pss_one (ps_expr (pe_binit T.bi_TestError (by rfl) T.g_TestError (pa_cons (pv 0) (pa_cons pe_str pa_nil))))), _, rfl, x, a.c_BadInterval, _, rfl, by show 1 ≤ 1000; decide, T.ox_BadInterval, hx, k⟩
theorem ok_NoSkip_init (T : Txt K mg a) : FnOk P w K mg base CX0 1 a.f_NoSkip_init a.d_NoSkip_init P_NoSkip_init (spErr a.c_NoSkip "index" okB) := by
  refine T.F_NoSkip_init.ok sc_NoSkip_init (fun vs H Q E h => ?_) (fun cdv A outer s H vs Q E hr h => ?_)
  · obtain ⟨x, v, rfl, _⟩ := h
    rfl
  · obtain ⟨x, v, rfl, ⟨i, rfl, hi⟩, hx, k⟩ := h
    refine ⟨_, (pss_cons (ps_expr (pe_binit T.bi_TestError (by rfl) T.g_TestError (pa_cons (pv 0) (pa_cons (pe_joined (PJ.cons pe_str (PJ.cons (pe_fmt (pv 1)) (PJ.cons pe_str PJ.nil)))) pa_nil))))
  (pss_one (ps_ost (pv 0) (pv 1)))), ?_⟩
    have hl := hi.len
    have c0 : Str.empty.length = 0 := rfl
    have c1 : (PySem.Str.ofString "node ").length = 5 := by rw [PySem.ofString_length]; rfl
    have c3 : (PySem.Str.ofString " has no skip").length = 12 := by rw [PySem.ofString_length]; rfl
    refine ⟨_, rfl, ?_⟩
    refine ⟨_, rfl, by simp only [len_app, c0, c1, c3, sizeLine_eq]; omega, ?_⟩
    refine ⟨_, rfl, .inr ⟨i, rfl, hi.log, _, rfl, by simp only [len_app, c0, c1, c3, sizeLine_eq]; omega, ?_⟩⟩
    refine ⟨_, rfl, by simp only [len_app, c0, c1, c3, sizeLine_eq]; omega, ?_⟩
    refine ⟨x, a.c_NoSkip, _, rfl, by show 1 ≤ 1000; decide, T.ox_NoSkip, hx, ?_⟩
    exact ⟨_, rfl, _, rfl, x, a.c_NoSkip, rfl, T.ox_NoSkip, T.nf_NoSkip_index, .inl ⟨hx, fun dx nd ne => k dx nd ne⟩⟩
theorem ok_NotComing_init (T : Txt K mg a) : FnOk P w K mg base CX0 1 a.f_NotComing_init a.d_NotComing_init P_NotComing_init (spErr a.c_NotComing "index" okB) := by
  refine T.F_NotComing_init.ok sc_NotComing_init (fun vs H Q E h => ?_) (fun cdv A outer s H vs Q E hr h => ?_)
  · obtain ⟨x, v, rfl, _⟩ := h
    rfl
  · obtain ⟨x, v, rfl, ⟨i, rfl, hi⟩, hx, k⟩ := h
    refine ⟨_, (pss_cons (ps_expr (pe_binit T.bi_TestError (by rfl) T.g_TestError (pa_cons (pv 0) (pa_cons (pe_joined (PJ.cons pe_str (PJ.cons (pe_fmt (pv 1)) PJ.nil))) pa_nil))))
  (pss_one (ps_ost (pv 0) (pv 1)))), ?_⟩
    have hl := hi.len
    have c0 : Str.empty.length = 0 := rfl
    have c1 : (PySem.Str.ofString "the pupil does not come to node ").length = 32 := by rw [PySem.ofString_length]; rfl
    refine ⟨_, rfl, ?_⟩
    refine ⟨_, rfl, by simp only [len_app, c0, c1, sizeLine_eq]; omega, ?_⟩
    refine ⟨_, rfl, .inr ⟨i, rfl, hi.log, _, rfl, by simp only [len_app, c0, c1, sizeLine_eq]; omega, ?_⟩⟩
    refine ⟨x, a.c_NotComing, _, rfl, by show 1 ≤ 1000; decide, T.ox_NotComing, hx, ?_⟩
    exact ⟨_, rfl, _, rfl, x, a.c_NotComing, rfl, T.ox_NotComing, T.nf_NotComing_index, .inl ⟨hx, fun dx nd ne => k dx nd ne⟩⟩
theorem ok_NoPupils_init (T : Txt K mg a) : FnOk P w K mg base CX0 1 a.f_NoPupils_init a.d_NoPupils_init P_NoPupils_init (spErr0 a.c_NoPupils) := by
  refine T.F_NoPupils_init.ok sc_NoPupils_init (fun vs H Q E h => ?_) (fun cdv A outer s H vs Q E hr h => ?_)
  · obtain ⟨x, rfl, _⟩ := h
    rfl
  · obtain ⟨x, rfl, hx, k⟩ := h
    exact ⟨_, (pss_one (ps_expr (pe_binit T.bi_TestError (by rfl) T.g_TestError (pa_cons (pv 0) (pa_cons pe_str pa_nil))))), _, rfl, x, a.c_NoPupils, _, rfl, by show 1 ≤ 1000; decide, T.ox_NoPupils, hx, k⟩
theorem ok_BadLength_init (T : Txt K mg a) : FnOk P w K mg base CX0 1 a.f_BadLength_init a.d_BadLength_init P_BadLength_init (spErr a.c_BadLength "count" okB) := by
  refine T.F_BadLength_init.ok sc_BadLength_init (fun vs H Q E h => ?_) (fun cdv A outer s H vs Q E hr h => ?_)
  · obtain ⟨x, v, rfl, _⟩ := h
    rfl
  · obtain ⟨x, v, rfl, ⟨i, rfl, hi⟩, hx, k⟩ := h
    refine ⟨_, (pss_cons (ps_expr (pe_binit T.bi_TestError (by rfl) T.g_TestError (pa_cons (pv 0) (pa_cons (pe_joined (PJ.cons (pe_fmt (pv 1)) (PJ.cons pe_str PJ.nil))) pa_nil))))
  (pss_one (ps_ost (pv 0) (pv 1)))), ?_⟩
    have hl := hi.len
    have c0 : Str.empty.length = 0 := rfl
    have c2 : (PySem.Str.ofString " classes are not as many as the pupils").length = 38 := by rw [PySem.ofString_length]; rfl
    refine ⟨_, rfl, ?_⟩
    refine ⟨_, rfl, .inr ⟨i, rfl, hi.log, _, rfl, by simp only [len_app, c0, c2, sizeLine_eq]; omega, ?_⟩⟩
    refine ⟨_, rfl, by simp only [len_app, c0, c2, sizeLine_eq]; omega, ?_⟩
    refine ⟨x, a.c_BadLength, _, rfl, by show 1 ≤ 1000; decide, T.ox_BadLength, hx, ?_⟩
    exact ⟨_, rfl, _, rfl, x, a.c_BadLength, rfl, T.ox_BadLength, T.nf_BadLength_count, .inl ⟨hx, fun dx nd ne => k dx nd ne⟩⟩
theorem ok_BadLine_init (T : Txt K mg a) : FnOk P w K mg base CX0 1 a.f_BadLine_init a.d_BadLine_init P_BadLine_init (spErr a.c_BadLine "line" okB) := by
  refine T.F_BadLine_init.ok sc_BadLine_init (fun vs H Q E h => ?_) (fun cdv A outer s H vs Q E hr h => ?_)
  · obtain ⟨x, v, rfl, _⟩ := h
    rfl
  · obtain ⟨x, v, rfl, ⟨i, rfl, hi⟩, hx, k⟩ := h
    refine ⟨_, (pss_cons (ps_expr (pe_binit T.bi_TestError (by rfl) T.g_TestError (pa_cons (pv 0) (pa_cons (pe_joined (PJ.cons pe_str (PJ.cons (pe_fmt (pv 1)) (PJ.cons pe_str PJ.nil)))) pa_nil))))
  (pss_one (ps_ost (pv 0) (pv 1)))), ?_⟩
    have hl := hi.len
    have c0 : Str.empty.length = 0 := rfl
    have c1 : (PySem.Str.ofString "line ").length = 5 := by rw [PySem.ofString_length]; rfl
    have c3 : (PySem.Str.ofString " has another form").length = 17 := by rw [PySem.ofString_length]; rfl
    refine ⟨_, rfl, ?_⟩
    refine ⟨_, rfl, by simp only [len_app, c0, c1, c3, sizeLine_eq]; omega, ?_⟩
    refine ⟨_, rfl, .inr ⟨i, rfl, hi.log, _, rfl, by simp only [len_app, c0, c1, c3, sizeLine_eq]; omega, ?_⟩⟩
    refine ⟨_, rfl, by simp only [len_app, c0, c1, c3, sizeLine_eq]; omega, ?_⟩
    refine ⟨x, a.c_BadLine, _, rfl, by show 1 ≤ 1000; decide, T.ox_BadLine, hx, ?_⟩
    exact ⟨_, rfl, _, rfl, x, a.c_BadLine, rfl, T.ox_BadLine, T.nf_BadLine_line, .inl ⟨hx, fun dx nd ne => k dx nd ne⟩⟩
theorem ok_Ended_init (T : Txt K mg a) : FnOk P w K mg base CX0 1 a.f_Ended_init a.d_Ended_init P_Ended_init (spErr0 a.c_Ended) := by
  refine T.F_Ended_init.ok sc_Ended_init (fun vs H Q E h => ?_) (fun cdv A outer s H vs Q E hr h => ?_)
  · obtain ⟨x, rfl, _⟩ := h
    rfl
  · obtain ⟨x, rfl, hx, k⟩ := h
    exact ⟨_, (pss_one (ps_expr (pe_binit T.bi_TestError (by rfl) T.g_TestError (pa_cons (pv 0) (pa_cons pe_str pa_nil))))), _, rfl, x, a.c_Ended, _, rfl, by show 1 ≤ 1000; decide, T.ox_Ended, hx, k⟩
theorem ok_BadDeed_init (T : Txt K mg a) : FnOk P w K mg base CX0 1 a.f_BadDeed_init a.d_BadDeed_init P_BadDeed_init (spErr a.c_BadDeed "index" okB) := by
  refine T.F_BadDeed_init.ok sc_BadDeed_init (fun vs H Q E h => ?_) (fun cdv A outer s H vs Q E hr h => ?_)
  · obtain ⟨x, v, rfl, _⟩ := h
    rfl
  · obtain ⟨x, v, rfl, ⟨i, rfl, hi⟩, hx, k⟩ := h
    refine ⟨_, (pss_cons (ps_expr (pe_binit T.bi_TestError (by rfl) T.g_TestError (pa_cons (pv 0) (pa_cons (pe_joined (PJ.cons pe_str (PJ.cons (pe_fmt (pv 1)) (PJ.cons pe_str PJ.nil)))) pa_nil))))
  (pss_one (ps_ost (pv 0) (pv 1)))), ?_⟩
    have hl := hi.len
    have c0 : Str.empty.length = 0 := rfl
    have c1 : (PySem.Str.ofString "deed ").length = 5 := by rw [PySem.ofString_length]; rfl
    have c3 : (PySem.Str.ofString " has none of the four forms").length = 27 := by rw [PySem.ofString_length]; rfl
    refine ⟨_, rfl, ?_⟩
    refine ⟨_, rfl, by simp only [len_app, c0, c1, c3, sizeLine_eq]; omega, ?_⟩
    refine ⟨_, rfl, .inr ⟨i, rfl, hi.log, _, rfl, by simp only [len_app, c0, c1, c3, sizeLine_eq]; omega, ?_⟩⟩
    refine ⟨_, rfl, by simp only [len_app, c0, c1, c3, sizeLine_eq]; omega, ?_⟩
    refine ⟨x, a.c_BadDeed, _, rfl, by show 1 ≤ 1000; decide, T.ox_BadDeed, hx, ?_⟩
    exact ⟨_, rfl, _, rfl, x, a.c_BadDeed, rfl, T.ox_BadDeed, T.nf_BadDeed_index, .inl ⟨hx, fun dx nd ne => k dx nd ne⟩⟩
theorem ok_BadRelation_init (T : Txt K mg a) : FnOk P w K mg base CX0 1 a.f_BadRelation_init a.d_BadRelation_init P_BadRelation_init (spErr a.c_BadRelation "word" okWd) := by
  refine T.F_BadRelation_init.ok sc_BadRelation_init (fun vs H Q E h => ?_) (fun cdv A outer s H vs Q E hr h => ?_)
  · obtain ⟨x, v, rfl, _⟩ := h
    rfl
  · obtain ⟨x, v, rfl, ⟨z, rfl, hz⟩, hx, k⟩ := h
    refine ⟨_, (pss_cons (ps_expr (pe_binit T.bi_TestError (by rfl) T.g_TestError (pa_cons (pv 0) (pa_cons (pe_joined (PJ.cons pe_str (PJ.cons (pe_fmt (pv 1)) (PJ.cons pe_str PJ.nil)))) pa_nil))))
  (pss_one (ps_ost (pv 0) (pv 1)))), ?_⟩
    have c0 : Str.empty.length = 0 := rfl
    have c1 : (PySem.Str.ofString "there is no relation ").length = 21 := by rw [PySem.ofString_length]; rfl
    have c2 : (PySem.Str.ofString " for these webs").length = 15 := by rw [PySem.ofString_length]; rfl
    have hs : sizeLine ≥ 1000 := by rw [sizeLine_eq]; omega
    refine ⟨_, rfl, ?_⟩
    refine ⟨_, rfl, by simp only [len_app, c0, c1, sizeLine_eq]; omega, ?_⟩
    refine ⟨_, rfl, .inl ⟨z, rfl, by simp only [len_app, c0, c1, c2, sizeLine_eq]; omega, ?_⟩⟩
    refine ⟨_, rfl, by simp only [len_app, c0, c1, c2, sizeLine_eq]; omega, ?_⟩
    refine ⟨_, rfl, by simp only [len_app, c0, c1, c2, sizeLine_eq]; omega, ?_⟩
    refine ⟨x, a.c_BadRelation, _, rfl, by show 1 ≤ 1000; decide, T.ox_BadRelation, hx, ?_⟩
    exact ⟨_, rfl, _, rfl, x, a.c_BadRelation, rfl, T.ox_BadRelation, T.nf_BadRelation_word, .inl ⟨hx, fun dx nd ne => k dx nd ne⟩⟩
theorem ok_NoFinal_init (T : Txt K mg a) : FnOk P w K mg base CX0 1 a.f_NoFinal_init a.d_NoFinal_init P_NoFinal_init (spErrT a.c_NoFinal "ends") := by
  refine T.F_NoFinal_init.ok sc_NoFinal_init (fun vs H Q E h => ?_) (fun cdv A outer s H vs Q E hr h => ?_)
  · obtain ⟨x, t, l, rfl, _⟩ := h
    rfl
  · obtain ⟨x, t, l, rfl, ht, hl, hb, hx, k⟩ := h
    refine ⟨_, (pss_cons (ps_expr (pe_binit T.bi_TestError (by rfl) T.g_TestError (pa_cons (pv 0) (pa_cons (pe_joined (PJ.cons pe_str (PJ.cons (pe_fmtTI hr (pv 1)) (PJ.cons pe_str PJ.nil)))) pa_nil))))
  (pss_one (ps_ost (pv 0) (pe_ifExp (pt_val (pe_callB call_isi (by rfl) T.z_isinstance (by decide +kernel) (pa_cons (pv 1) (pa_cons (pe_bltn (v := .ty "list") (by rfl) T.z_list (by decide +kernel) rfl) pa_nil)))) (pe_callTy call_tuple_of (by rfl) T.z_tuple (by decide +kernel) (pa_cons (pv 1) pa_nil)) (pv 1))))), ?_⟩
    have c0 : Str.empty.length = 0 := rfl
    have c1 : (PySem.Str.ofString "the ends ").length = 9 := by rw [PySem.ofString_length]; rfl
    have c2 : (PySem.Str.ofString " are no final").length = 13 := by rw [PySem.ofString_length]; rfl
    have hs : sizeLine ≥ 100000 := by rw [sizeLine_eq]; omega
    refine ⟨_, rfl, ?_⟩
    refine ⟨_, rfl, by simp only [len_app, c0, c1, sizeLine_eq]; omega, ?_⟩
    refine ⟨_, rfl, t, l, rfl, tup_of ht, hl, hb, fun m hm => ?_⟩
    refine ⟨_, rfl, by simp only [len_app, c0, c1, c2, sizeLine_eq]; omega, ?_⟩
    refine ⟨_, rfl, by simp only [len_app, c0, c1, c2, sizeLine_eq]; omega, ?_⟩
    refine ⟨x, a.c_NoFinal, _, rfl, by show 1 ≤ 1000; decide, T.ox_NoFinal, hx, ?_⟩
    refine ⟨_, rfl, _, .ty "list", _, _, false, rfl, .ty "list", .base (.tup ht), kit_ty (by decide +kernel), _, rfl, iteF ?_⟩
    exact ⟨_, rfl, _, rfl, x, a.c_NoFinal, rfl, T.ox_NoFinal, T.nf_NoFinal_ends, .inl ⟨hx, fun dx nd ne => k dx nd ne⟩⟩
end
end K84
namespace K84
open PySem PySem.Spec PyProof.Rows L2 Gg TL HotX L2H RZ
section
variable {P : Program} {w : World} {K : PySem.W.Frag} {mg : Str → Option Value} {base : Heap} {a : Ad}
def clsA (a : Ad) : List Addr := [a.c_BadEnds, a.c_BadNode, a.c_BadStart, a.c_TwiceAsked, a.c_NoNode, a.c_NoPosition, a.c_BadQuestion, a.c_BadMarks, a.c_BadLadder, a.c_BadCount, a.c_BadRelation, a.c_BadPositions, a.c_NoFinal, a.c_NotReached, a.c_NoEnd, a.c_ZeroBottom, a.c_NoChance, a.c_BadChance, a.c_ZeroPolynomial, a.c_BadInterval, a.c_NoSkip, a.c_NotComing, a.c_NoPupils, a.c_BadLength, a.c_AlikePupils, a.c_BadLine, a.c_Ended, a.c_BadDeed]
def NeF (K : PySem.W.Frag) (H : Hp) (v1 v2 : V) : Prop := ∀ Q' : VK, Q' (.bl false) H → rNeD K v1 v2 H Q'
def spMade (K : PySem.W.Frag) (a : Ad) (lo hi : Nat) : Sp := fun vs H Q _ => ∃ (s : Addr) (k : Nat) (n : Int) (w : Str) (l : List Int), vs = [.int (k : Int), .int n, .ref s, .str w] ∧ lo ≤ k ∧ k < hi ∧ Bd n ∧ Bd (n / 3) ∧ w.length ≤ 60 ∧ PyData.strOk w = true ∧ H s = some (.tup (l.map V.int)) ∧ l.length ≤ 3 ∧ (∀ z ∈ l, Bd z) ∧
  ∀ H' t b d v1 v2 C, Same H H' → (clsA a)[k]? = some C → H' t = some (.tup [.ref b, v1, v2]) → H' b = some (ErO (.ref C) d b) → (∀ dd, d = some dd → ∃ fs, H' dd = some (.xd fs)) → NeF K H' v1 v2 → Q (.ref t) H'
theorem upd2 {H : Hp} {d b : Addr} {X Y : HO} (nb : upd H d X b = none) : upd (upd H d X) b Y d = some X := by
  rw [upd_ne (fun z => by rw [← z, upd_same] at nb; cases nb)]
  exact upd_same
theorem neD_str {H : Hp} {z : Str} {Q : VK} (hz : PyData.strOk z = true) (q : Q (.bl false) H) : rNeD K (.str z) (.str z) H Q :=
  ⟨_, _, .str _, .str _, by simp [SeqAt.shaped, PyData.canLay0, PyData.canLayAll0, PyData.depth, PyData.depthAll, hz], by simp [SeqAt.shaped, PyData.canLay0, PyData.canLayAll0, PyData.depth, PyData.depthAll, hz], by
    rw [show PyData.eqv (.str z) (.str z) = true by simp [PyData.eqv]]
    exact q⟩
theorem keep0 {C : Addr} {σ : L2.St} {H : Hp} {Q : VK} (k : ∀ b, H b = none → Q (.ref b) (upd H b (ErO (.ref C) none b))) : tKeep (tMk0 C (spErr0 C)) σ H Q :=
  err_make0 (W := fun cls d H1 => ∀ a, H1 a = none → Q (.ref a) (upd H1 a (ErO cls d a))) k
theorem keepT {C : Addr} {f : Str} {t : Addr} {l : List Int} {σ : L2.St} {H : Hp} {i : Nat} {Q : VK} (hi : σ[i]? = some (some (.ref t))) (ht : H t = some (.tup (l.map V.int))) (hl : l.length ≤ 60) (hb : ∀ i ∈ l, Bd i)
    (k : ∀ d b, H d = none → upd H d (.xd [(f, .ref t)]) b = none → Q (.ref b) (upd (upd H d (.xd [(f, .ref t)])) b (ErO (.ref C) (some d) b))) : tKeep (tMkO C (spErrT C f) [] (tCons (tVar i) tNil)) σ H Q :=
  ⟨_, hi, errT_make (W := fun cls d H1 => ∀ a, H1 a = none → Q (.ref a) (upd H1 a (ErO cls d a))) ht hl hb fun d nd b nb => k d b nd nb⟩
theorem ok_BadLadder_init (T : Txt K mg a) : FnOk P w K mg base CX0 1 a.f_BadLadder_init a.d_BadLadder_init P_BadLadder_init (spErr a.c_BadLadder "word" okWd) := by
  refine T.F_BadLadder_init.ok sc_BadLadder_init (fun vs H Q E h => ?_) (fun cdv A outer s H vs Q E hr h => ?_)
  · obtain ⟨x, v, rfl, _⟩ := h
    rfl
  · obtain ⟨x, v, rfl, ⟨z, rfl, hz⟩, hx, k⟩ := h
    refine ⟨_, (pss_cons (ps_expr (pe_binit T.bi_TestError (by rfl) T.g_TestError (pa_cons (pv 0) (pa_cons (pe_joined (PJ.cons (pe_fmt (pv 1)) (PJ.cons pe_str PJ.nil))) pa_nil))))
  (pss_one (ps_ost (pv 0) (pv 1)))), ?_⟩
    have c0 : Str.empty.length = 0 := rfl
    have c1 : (PySem.Str.ofString " is not a number that a ladder can have").length = 39 := by rw [PySem.ofString_length]; rfl
    have hs : sizeLine ≥ 1000 := by rw [sizeLine_eq]; omega
    refine ⟨_, rfl, ?_⟩
    refine ⟨_, rfl, .inl ⟨z, rfl, by simp only [len_app, c0, c1, sizeLine_eq]; omega, ?_⟩⟩
    refine ⟨_, rfl, by simp only [len_app, c0, c1, sizeLine_eq]; omega, ?_⟩
    refine ⟨_, rfl, by simp only [len_app, c0, c1, sizeLine_eq]; omega, ?_⟩
    refine ⟨x, a.c_BadLadder, _, rfl, by show 1 ≤ 1000; decide, T.ox_BadLadder, hx, ?_⟩
    exact ⟨_, rfl, _, rfl, x, a.c_BadLadder, rfl, T.ox_BadLadder, T.nf_BadLadder_word, .inl ⟨hx, fun dx nd ne => k dx nd ne⟩⟩
def spErr2 (C : Addr) (f g : Str) : Sp := fun vs H Q _ => ∃ (a : Addr) (v u : V), vs = [.ref a, v, u] ∧ okB v ∧ okB u ∧ H a = some (exo a C none) ∧
  ∀ dx H', H dx = none → dx ≠ a → H' dx = some (exd dx [(g, u), (f, v)]) → H' a = some (exo a C (some dx)) → (∀ b, b ≠ dx → b ≠ a → H' b = H b) → Q .non H'
theorem ok_AlikePupils_init (T : Txt K mg a) : FnOk P w K mg base CX0 1 a.f_AlikePupils_init a.d_AlikePupils_init P_AlikePupils_init (spErr2 a.c_AlikePupils "first" "second") := by
  refine T.F_AlikePupils_init.ok sc_AlikePupils_init (fun vs H Q E h => ?_) (fun cdv A outer s H vs Q E hr h => ?_)
  · obtain ⟨x, v, u, rfl, _⟩ := h
    rfl
  · obtain ⟨x, v, u, rfl, ⟨i, rfl, hi⟩, ⟨j, rfl, hj⟩, hx, k⟩ := h
    refine ⟨_, (pss_cons (ps_expr (pe_binit T.bi_TestError (by rfl) T.g_TestError (pa_cons (pv 0) (pa_cons (pe_joined (PJ.cons pe_str (PJ.cons (pe_fmt (pv 1)) (PJ.cons pe_str (PJ.cons (pe_fmt (pv 2)) (PJ.cons pe_str PJ.nil)))))) pa_nil))))
  (pss_cons (ps_ost (pv 0) (pv 1))
  (pss_one (ps_ost (pv 0) (pv 2))))), ?_⟩
    have hl := hi.len
    have hl' := hj.len
    have c0 : Str.empty.length = 0 := rfl
    have c1 : (PySem.Str.ofString "pupils ").length = 7 := by rw [PySem.ofString_length]; rfl
    have c2 : (PySem.Str.ofString " and ").length = 5 := by rw [PySem.ofString_length]; rfl
    have c3 : (PySem.Str.ofString " answer all the questions alike").length = 31 := by rw [PySem.ofString_length]; rfl
    refine ⟨_, rfl, ?_⟩
    refine ⟨_, rfl, by simp only [len_app, c0, c1, sizeLine_eq]; omega, ?_⟩
    refine ⟨_, rfl, .inr ⟨i, rfl, hi.log, _, rfl, by simp only [len_app, c0, c1, sizeLine_eq]; omega, ?_⟩⟩
    refine ⟨_, rfl, by simp only [len_app, c0, c1, c2, sizeLine_eq]; omega, ?_⟩
    refine ⟨_, rfl, .inr ⟨j, rfl, hj.log, _, rfl, by simp only [len_app, c0, c1, c2, sizeLine_eq]; omega, ?_⟩⟩
    refine ⟨_, rfl, by simp only [len_app, c0, c1, c2, c3, sizeLine_eq]; omega, ?_⟩
    refine ⟨x, a.c_AlikePupils, _, rfl, by show 1 ≤ 1000; decide, T.ox_AlikePupils, hx, ?_⟩
    refine ⟨_, rfl, _, rfl, x, a.c_AlikePupils, rfl, T.ox_AlikePupils, T.nf_AlikePupils_first, .inl ⟨hx, fun dx nd ne => ?_⟩⟩
    refine ⟨_, rfl, _, rfl, x, a.c_AlikePupils, rfl, T.ox_AlikePupils, T.nf_AlikePupils_second, .inr ⟨dx, _, upd_same, by rw [upd_ne ne]; exact upd_same, by show 1 ≤ 900; decide, ?_⟩⟩
    exact k dx _ nd ne upd_same (by rw [upd_ne ne.symm]; exact upd_same) fun b h1 h2 => by rw [upd_ne h1, upd_ne h2, upd_ne h1]
theorem keep2 {C : Addr} {f g : Str} {σ : L2.St} {H : Hp} {i : Nat} {v u : V} {te : TE} {Q : VK} (hi : σ[i]? = some (some v)) (hte : ∀ (Q : VK), Q u H → te σ H Q) (hv : okB v) (hu : okB u)
    (k : ∀ d b, H d = none → upd H d (.xd [(g, u), (f, v)]) b = none → Q (.ref b) (upd (upd H d (.xd [(g, u), (f, v)])) b (ErO (.ref C) (some d) b))) : tKeep (tMkO C (spErr2 C f g) [] (tCons (tVar i) (tCons te tNil))) σ H Q := by
  refine ⟨v, hi, hte _ ⟨by show 2 ≤ 1000; decide, fun a na => ⟨a, v, u, rfl, hv, hu, upd_same, fun dx H' nd ne hd ha hb => ⟨rfl, dx, _, ha, hd, ?_, ?_⟩⟩⟩⟩
  · rw [upd_ne ne] at nd
    exact nd
  · rw [upd_ne ne] at nd
    have e : upd (del H' a) dx (.xd [(g, u), (f, v)]) = upd H dx (.xd [(g, u), (f, v)]) := by
      funext b
      by_cases h1 : b = dx
      · rw [h1, upd_same, upd_same]
      · rw [upd_ne h1, upd_ne h1]
        by_cases h2 : b = a
        · rw [h2, del_same, na]
        · rw [del_ne h2, hb b h1 h2, upd_ne h2]
    intro b nb
    rw [e] at nb ⊢
    exact k dx b nd nb
theorem ok_l_first (T : Txt K mg a) : FnOk P w K mg base CX0 3 a.f_l_first a.d_l_first P_l_first (spMade K a 0 10) := by
  refine T.F_l_first.ok sc_l_first (fun vs H Q E h => ?_) (fun cdv A outer s0 H vs Q E hr h => ?_)
  · obtain ⟨s, kk, n, w, l, rfl, _⟩ := h
    rfl
  · obtain ⟨s, kk, n, w, l, rfl, k0, k1, Bn, Bn3, hw, hwo, hs, hl, hb, k⟩ := h
    refine ⟨_, (pss_cons (ps_if (pt_cmpR op_eq (pv 0) pe_int (nomark _))
    (pss_cons (ps_set (i := 4) sc_l_first.nd rfl (Or.inl rfl) (pe_keep (pmk_oex T.ox_BadEnds T.ii_BadEnds T.ti_BadEnds (ok_BadEnds_init T) (hr.mono (by decide)) T.b_BadEnds_init .nil pass0 (by rfl) T.g_BadEnds (pa_cons (pv 1) pa_nil))))
  (pss_one (ps_ret (pe_tup (pa_cons (pv 4) (pa_cons (pe_erf T.xf_BadEnds T.nf_BadEnds_count (pv 4)) (pa_cons (pv 1) pa_nil)))))))
    pss_nil)
  (pss_cons (ps_if (pt_cmpR op_eq (pv 0) pe_int (nomark _))
    (pss_cons (ps_set (i := 4) sc_l_first.nd rfl (Or.inl rfl) (pe_keep (pmk_oex T.ox_BadNode T.ii_BadNode T.ti_BadNode (ok_BadNode_init T) (hr.mono (by decide)) T.b_BadNode_init .nil pass0 (by rfl) T.g_BadNode (pa_cons (pv 1) pa_nil))))
  (pss_one (ps_ret (pe_tup (pa_cons (pv 4) (pa_cons (pe_erf T.xf_BadNode T.nf_BadNode_index (pv 4)) (pa_cons (pv 1) pa_nil)))))))
    pss_nil)
  (pss_cons (ps_if (pt_cmpR op_eq (pv 0) pe_int (nomark _))
    (pss_cons (ps_set (i := 4) sc_l_first.nd rfl (Or.inl rfl) (pe_keep (pmk_oex T.ox_BadStart T.ii_BadStart T.ti_BadStart (ok_BadStart_init T) (hr.mono (by decide)) T.b_BadStart_init .nil pass0 (by rfl) T.g_BadStart (pa_cons (pv 1) pa_nil))))
  (pss_one (ps_ret (pe_tup (pa_cons (pv 4) (pa_cons (pe_erf T.xf_BadStart T.nf_BadStart_place (pv 4)) (pa_cons (pv 1) pa_nil)))))))
    pss_nil)
  (pss_cons (ps_if (pt_cmpR op_eq (pv 0) pe_int (nomark _))
    (pss_cons (ps_set (i := 4) sc_l_first.nd rfl (Or.inl rfl) (pe_keep (pmk_oex T.ox_TwiceAsked T.ii_TwiceAsked T.ti_TwiceAsked (ok_TwiceAsked_init T) (hr.mono (by decide)) T.b_TwiceAsked_init .nil pass0 (by rfl) T.g_TwiceAsked (pa_cons (pv 1) pa_nil))))
  (pss_one (ps_ret (pe_tup (pa_cons (pv 4) (pa_cons (pe_erf T.xf_TwiceAsked T.nf_TwiceAsked_index (pv 4)) (pa_cons (pv 1) pa_nil)))))))
    pss_nil)
  (pss_cons (ps_if (pt_cmpR op_eq (pv 0) pe_int (nomark _))
    (pss_cons (ps_set (i := 4) sc_l_first.nd rfl (Or.inl rfl) (pe_keep (pmk_oex T.ox_NoNode T.ii_NoNode T.ti_NoNode (ok_NoNode_init T) (hr.mono (by decide)) T.b_NoNode_init .nil pass0 (by rfl) T.g_NoNode (pa_cons (pv 1) pa_nil))))
  (pss_one (ps_ret (pe_tup (pa_cons (pv 4) (pa_cons (pe_erf T.xf_NoNode T.nf_NoNode_index (pv 4)) (pa_cons (pv 1) pa_nil)))))))
    pss_nil)
  (pss_cons (ps_if (pt_cmpR op_eq (pv 0) pe_int (nomark _))
    (pss_cons (ps_set (i := 4) sc_l_first.nd rfl (Or.inl rfl) (pe_keep (pmk_oex T.ox_NoPosition T.ii_NoPosition T.ti_NoPosition (ok_NoPosition_init T) (hr.mono (by decide)) T.b_NoPosition_init .nil pass0 (by rfl) T.g_NoPosition (pa_cons (pv 1) pa_nil))))
  (pss_one (ps_ret (pe_tup (pa_cons (pv 4) (pa_cons (pe_erf T.xf_NoPosition T.nf_NoPosition_place (pv 4)) (pa_cons (pv 1) pa_nil)))))))
    pss_nil)
  (pss_cons (ps_if (pt_cmpR op_eq (pv 0) pe_int (nomark _))
    (pss_cons (ps_set (i := 4) sc_l_first.nd rfl (Or.inl rfl) (pe_keep (pmk_oex T.ox_BadQuestion T.ii_BadQuestion T.ti_BadQuestion (ok_BadQuestion_init T) (hr.mono (by decide)) T.b_BadQuestion_init .nil pass0 (by rfl) T.g_BadQuestion (pa_cons (pv 1) pa_nil))))
  (pss_one (ps_ret (pe_tup (pa_cons (pv 4) (pa_cons (pe_erf T.xf_BadQuestion T.nf_BadQuestion_number (pv 4)) (pa_cons (pv 1) pa_nil)))))))
    pss_nil)
  (pss_cons (ps_if (pt_cmpR op_eq (pv 0) pe_int (nomark _))
    (pss_cons (ps_set (i := 4) sc_l_first.nd rfl (Or.inl rfl) (pe_keep (pmk_oex T.ox_BadMarks T.ii_BadMarks T.ti_BadMarks (ok_BadMarks_init T) (hr.mono (by decide)) T.b_BadMarks_init .nil pass0 (by rfl) T.g_BadMarks (pa_cons (pv 1) pa_nil))))
  (pss_one (ps_ret (pe_tup (pa_cons (pv 4) (pa_cons (pe_erf T.xf_BadMarks T.nf_BadMarks_count (pv 4)) (pa_cons (pv 1) pa_nil)))))))
    pss_nil)
  (pss_cons (ps_if (pt_cmpR op_eq (pv 0) pe_int (nomark _))
    (pss_cons (ps_set (i := 4) sc_l_first.nd rfl (Or.inl rfl) (pe_keep (pmk_oex T.ox_BadLadder T.ii_BadLadder T.ti_BadLadder (ok_BadLadder_init T) (hr.mono (by decide)) T.b_BadLadder_init .nil pass0 (by rfl) T.g_BadLadder (pa_cons (pv 3) pa_nil))))
  (pss_one (ps_ret (pe_tup (pa_cons (pv 4) (pa_cons (pe_erf T.xf_BadLadder T.nf_BadLadder_word (pv 4)) (pa_cons (pv 3) pa_nil)))))))
    pss_nil)
  (pss_cons (ps_set (i := 4) sc_l_first.nd rfl (Or.inl rfl) (pe_keep (pmk_oex T.ox_BadCount T.ii_BadCount T.ti_BadCount (ok_BadCount_init T) (hr.mono (by decide)) T.b_BadCount_init .nil pass0 (by rfl) T.g_BadCount (pa_cons (pv 1) pa_nil))))
  (pss_one (ps_ret (pe_tup (pa_cons (pv 4) (pa_cons (pe_erf T.xf_BadCount T.nf_BadCount_count (pv 4)) (pa_cons (pv 1) pa_nil)))))))))))))))), ?_⟩
    have dE : ∀ i j : Int, decide (V.int i = V.int j) = decide (i = j) := fun i j => by simp
    obtain rfl | rfl | rfl | rfl | rfl | rfl | rfl | rfl | rfl | rfl : kk = 0 ∨ kk = 1 ∨ kk = 2 ∨ kk = 3 ∨ kk = 4 ∨ kk = 5 ∨ kk = 6 ∨ kk = 7 ∨ kk = 8 ∨ kk = 9 := by omega
    · refine ⟨_, rfl, rfl, _, rfl, ?_⟩
      rw [dE]
      refine iteT ?_
      dsimp only [tNext, tSeq, tAsg]
      refine keep1 rfl ⟨_, rfl, Bn⟩ fun d b nd nb => ?_
      refine ⟨_, rfl, _, rfl, b, d, _, _, rfl, upd_same, upd2 nb, rfl, _, rfl, by show 3 ≤ sizeLine; decide, fun t nt => ?_⟩
      exact k _ t b (some d) _ _ _ ((same_upd nd).trans ((same_upd nb).trans (same_upd nt))) rfl upd_same ((same_upd nt) _ _ upd_same) (fun dd e => by cases e; exact ⟨_, (same_upd nt) _ _ (upd2 nb)⟩) (fun Q' q' => neD_int (by simpa using q'))
    · refine ⟨_, rfl, rfl, _, rfl, ?_⟩
      rw [dE]
      refine iteF ⟨_, rfl, rfl, _, rfl, ?_⟩
      rw [dE]
      refine iteT ?_
      dsimp only [tNext, tSeq, tAsg]
      refine keep1 rfl ⟨_, rfl, Bn⟩ fun d b nd nb => ?_
      refine ⟨_, rfl, _, rfl, b, d, _, _, rfl, upd_same, upd2 nb, rfl, _, rfl, by show 3 ≤ sizeLine; decide, fun t nt => ?_⟩
      exact k _ t b (some d) _ _ _ ((same_upd nd).trans ((same_upd nb).trans (same_upd nt))) rfl upd_same ((same_upd nt) _ _ upd_same) (fun dd e => by cases e; exact ⟨_, (same_upd nt) _ _ (upd2 nb)⟩) (fun Q' q' => neD_int (by simpa using q'))
    · refine ⟨_, rfl, rfl, _, rfl, ?_⟩
      rw [dE]
      refine iteF ⟨_, rfl, rfl, _, rfl, ?_⟩
      rw [dE]
      refine iteF ⟨_, rfl, rfl, _, rfl, ?_⟩
      rw [dE]
      refine iteT ?_
      dsimp only [tNext, tSeq, tAsg]
      refine keep1 rfl ⟨_, rfl, Bn⟩ fun d b nd nb => ?_
      refine ⟨_, rfl, _, rfl, b, d, _, _, rfl, upd_same, upd2 nb, rfl, _, rfl, by show 3 ≤ sizeLine; decide, fun t nt => ?_⟩
      exact k _ t b (some d) _ _ _ ((same_upd nd).trans ((same_upd nb).trans (same_upd nt))) rfl upd_same ((same_upd nt) _ _ upd_same) (fun dd e => by cases e; exact ⟨_, (same_upd nt) _ _ (upd2 nb)⟩) (fun Q' q' => neD_int (by simpa using q'))
    · refine ⟨_, rfl, rfl, _, rfl, ?_⟩
      rw [dE]
      refine iteF ⟨_, rfl, rfl, _, rfl, ?_⟩
      rw [dE]
      refine iteF ⟨_, rfl, rfl, _, rfl, ?_⟩
      rw [dE]
      refine iteF ⟨_, rfl, rfl, _, rfl, ?_⟩
      rw [dE]
      refine iteT ?_
      dsimp only [tNext, tSeq, tAsg]
      refine keep1 rfl ⟨_, rfl, Bn⟩ fun d b nd nb => ?_
      refine ⟨_, rfl, _, rfl, b, d, _, _, rfl, upd_same, upd2 nb, rfl, _, rfl, by show 3 ≤ sizeLine; decide, fun t nt => ?_⟩
      exact k _ t b (some d) _ _ _ ((same_upd nd).trans ((same_upd nb).trans (same_upd nt))) rfl upd_same ((same_upd nt) _ _ upd_same) (fun dd e => by cases e; exact ⟨_, (same_upd nt) _ _ (upd2 nb)⟩) (fun Q' q' => neD_int (by simpa using q'))
    · refine ⟨_, rfl, rfl, _, rfl, ?_⟩
      rw [dE]
      refine iteF ⟨_, rfl, rfl, _, rfl, ?_⟩
      rw [dE]
      refine iteF ⟨_, rfl, rfl, _, rfl, ?_⟩
      rw [dE]
      refine iteF ⟨_, rfl, rfl, _, rfl, ?_⟩
      rw [dE]
      refine iteF ⟨_, rfl, rfl, _, rfl, ?_⟩
      rw [dE]
      refine iteT ?_
      dsimp only [tNext, tSeq, tAsg]
      refine keep1 rfl ⟨_, rfl, Bn⟩ fun d b nd nb => ?_
      refine ⟨_, rfl, _, rfl, b, d, _, _, rfl, upd_same, upd2 nb, rfl, _, rfl, by show 3 ≤ sizeLine; decide, fun t nt => ?_⟩
      exact k _ t b (some d) _ _ _ ((same_upd nd).trans ((same_upd nb).trans (same_upd nt))) rfl upd_same ((same_upd nt) _ _ upd_same) (fun dd e => by cases e; exact ⟨_, (same_upd nt) _ _ (upd2 nb)⟩) (fun Q' q' => neD_int (by simpa using q'))
    · refine ⟨_, rfl, rfl, _, rfl, ?_⟩
      rw [dE]
      refine iteF ⟨_, rfl, rfl, _, rfl, ?_⟩
      rw [dE]
      refine iteF ⟨_, rfl, rfl, _, rfl, ?_⟩
      rw [dE]
      refine iteF ⟨_, rfl, rfl, _, rfl, ?_⟩
      rw [dE]
      refine iteF ⟨_, rfl, rfl, _, rfl, ?_⟩
      rw [dE]
      refine iteF ⟨_, rfl, rfl, _, rfl, ?_⟩
      rw [dE]
      refine iteT ?_
      dsimp only [tNext, tSeq, tAsg]
      refine keep1 rfl ⟨_, rfl, Bn⟩ fun d b nd nb => ?_
      refine ⟨_, rfl, _, rfl, b, d, _, _, rfl, upd_same, upd2 nb, rfl, _, rfl, by show 3 ≤ sizeLine; decide, fun t nt => ?_⟩
      exact k _ t b (some d) _ _ _ ((same_upd nd).trans ((same_upd nb).trans (same_upd nt))) rfl upd_same ((same_upd nt) _ _ upd_same) (fun dd e => by cases e; exact ⟨_, (same_upd nt) _ _ (upd2 nb)⟩) (fun Q' q' => neD_int (by simpa using q'))
    · refine ⟨_, rfl, rfl, _, rfl, ?_⟩
      rw [dE]
      refine iteF ⟨_, rfl, rfl, _, rfl, ?_⟩
      rw [dE]
      refine iteF ⟨_, rfl, rfl, _, rfl, ?_⟩
      rw [dE]
      refine iteF ⟨_, rfl, rfl, _, rfl, ?_⟩
      rw [dE]
      refine iteF ⟨_, rfl, rfl, _, rfl, ?_⟩
      rw [dE]
      refine iteF ⟨_, rfl, rfl, _, rfl, ?_⟩
      rw [dE]
      refine iteF ⟨_, rfl, rfl, _, rfl, ?_⟩
      rw [dE]
      refine iteT ?_
      dsimp only [tNext, tSeq, tAsg]
      refine keep1 rfl ⟨_, rfl, Bn⟩ fun d b nd nb => ?_
      refine ⟨_, rfl, _, rfl, b, d, _, _, rfl, upd_same, upd2 nb, rfl, _, rfl, by show 3 ≤ sizeLine; decide, fun t nt => ?_⟩
      exact k _ t b (some d) _ _ _ ((same_upd nd).trans ((same_upd nb).trans (same_upd nt))) rfl upd_same ((same_upd nt) _ _ upd_same) (fun dd e => by cases e; exact ⟨_, (same_upd nt) _ _ (upd2 nb)⟩) (fun Q' q' => neD_int (by simpa using q'))
    · refine ⟨_, rfl, rfl, _, rfl, ?_⟩
      rw [dE]
      refine iteF ⟨_, rfl, rfl, _, rfl, ?_⟩
      rw [dE]
      refine iteF ⟨_, rfl, rfl, _, rfl, ?_⟩
      rw [dE]
      refine iteF ⟨_, rfl, rfl, _, rfl, ?_⟩
      rw [dE]
      refine iteF ⟨_, rfl, rfl, _, rfl, ?_⟩
      rw [dE]
      refine iteF ⟨_, rfl, rfl, _, rfl, ?_⟩
      rw [dE]
      refine iteF ⟨_, rfl, rfl, _, rfl, ?_⟩
      rw [dE]
      refine iteF ⟨_, rfl, rfl, _, rfl, ?_⟩
      rw [dE]
      refine iteT ?_
      dsimp only [tNext, tSeq, tAsg]
      refine keep1 rfl ⟨_, rfl, Bn⟩ fun d b nd nb => ?_
      refine ⟨_, rfl, _, rfl, b, d, _, _, rfl, upd_same, upd2 nb, rfl, _, rfl, by show 3 ≤ sizeLine; decide, fun t nt => ?_⟩
      exact k _ t b (some d) _ _ _ ((same_upd nd).trans ((same_upd nb).trans (same_upd nt))) rfl upd_same ((same_upd nt) _ _ upd_same) (fun dd e => by cases e; exact ⟨_, (same_upd nt) _ _ (upd2 nb)⟩) (fun Q' q' => neD_int (by simpa using q'))
    · refine ⟨_, rfl, rfl, _, rfl, ?_⟩
      rw [dE]
      refine iteF ⟨_, rfl, rfl, _, rfl, ?_⟩
      rw [dE]
      refine iteF ⟨_, rfl, rfl, _, rfl, ?_⟩
      rw [dE]
      refine iteF ⟨_, rfl, rfl, _, rfl, ?_⟩
      rw [dE]
      refine iteF ⟨_, rfl, rfl, _, rfl, ?_⟩
      rw [dE]
      refine iteF ⟨_, rfl, rfl, _, rfl, ?_⟩
      rw [dE]
      refine iteF ⟨_, rfl, rfl, _, rfl, ?_⟩
      rw [dE]
      refine iteF ⟨_, rfl, rfl, _, rfl, ?_⟩
      rw [dE]
      refine iteF ⟨_, rfl, rfl, _, rfl, ?_⟩
      rw [dE]
      refine iteT ?_
      dsimp only [tNext, tSeq, tAsg]
      refine keep1 rfl ⟨w, rfl, hw⟩ fun d b nd nb => ?_
      refine ⟨_, rfl, _, rfl, b, d, _, _, rfl, upd_same, upd2 nb, rfl, _, rfl, by show 3 ≤ sizeLine; decide, fun t nt => ?_⟩
      exact k _ t b (some d) _ _ _ ((same_upd nd).trans ((same_upd nb).trans (same_upd nt))) rfl upd_same ((same_upd nt) _ _ upd_same) (fun dd e => by cases e; exact ⟨_, (same_upd nt) _ _ (upd2 nb)⟩) (fun Q' q' => neD_str hwo q')
    · refine ⟨_, rfl, rfl, _, rfl, ?_⟩
      rw [dE]
      refine iteF ⟨_, rfl, rfl, _, rfl, ?_⟩
      rw [dE]
      refine iteF ⟨_, rfl, rfl, _, rfl, ?_⟩
      rw [dE]
      refine iteF ⟨_, rfl, rfl, _, rfl, ?_⟩
      rw [dE]
      refine iteF ⟨_, rfl, rfl, _, rfl, ?_⟩
      rw [dE]
      refine iteF ⟨_, rfl, rfl, _, rfl, ?_⟩
      rw [dE]
      refine iteF ⟨_, rfl, rfl, _, rfl, ?_⟩
      rw [dE]
      refine iteF ⟨_, rfl, rfl, _, rfl, ?_⟩
      rw [dE]
      refine iteF ⟨_, rfl, rfl, _, rfl, ?_⟩
      rw [dE]
      refine iteF ?_
      dsimp only [tNext, tSeq, tAsg]
      refine keep1 rfl ⟨_, rfl, Bn⟩ fun d b nd nb => ?_
      refine ⟨_, rfl, _, rfl, b, d, _, _, rfl, upd_same, upd2 nb, rfl, _, rfl, by show 3 ≤ sizeLine; decide, fun t nt => ?_⟩
      exact k _ t b (some d) _ _ _ ((same_upd nd).trans ((same_upd nb).trans (same_upd nt))) rfl upd_same ((same_upd nt) _ _ upd_same) (fun dd e => by cases e; exact ⟨_, (same_upd nt) _ _ (upd2 nb)⟩) (fun Q' q' => neD_int (by simpa using q'))
theorem ok_l_second (T : Txt K mg a) : FnOk P w K mg base CX0 3 a.f_l_second a.d_l_second P_l_second (spMade K a 10 20) := by
  refine T.F_l_second.ok sc_l_second (fun vs H Q E h => ?_) (fun cdv A outer s0 H vs Q E hr h => ?_)
  · obtain ⟨s, kk, n, w, l, rfl, _⟩ := h
    rfl
  · obtain ⟨s, kk, n, w, l, rfl, k0, k1, Bn, Bn3, hw, hwo, hs, hl, hb, k⟩ := h
    refine ⟨_, (pss_cons (ps_if (pt_cmpR op_eq (pv 0) pe_int (nomark _))
    (pss_cons (ps_set (i := 4) sc_l_second.nd rfl (Or.inl rfl) (pe_keep (pmk_oex T.ox_BadRelation T.ii_BadRelation T.ti_BadRelation (ok_BadRelation_init T) (hr.mono (by decide)) T.b_BadRelation_init .nil pass0 (by rfl) T.g_BadRelation (pa_cons (pv 3) pa_nil))))
  (pss_one (ps_ret (pe_tup (pa_cons (pv 4) (pa_cons (pe_erf T.xf_BadRelation T.nf_BadRelation_word (pv 4)) (pa_cons (pv 3) pa_nil)))))))
    pss_nil)
  (pss_cons (ps_if (pt_cmpR op_eq (pv 0) pe_int (nomark _))
    (pss_cons (ps_set (i := 4) sc_l_second.nd rfl (Or.inl rfl) (pe_keep (pmk_oex T.ox_BadPositions T.ii_BadPositions T.ti_BadPositions (ok_BadPositions_init T) (hr.mono (by decide)) T.b_BadPositions_init .nil pass0 (by rfl) T.g_BadPositions (pa_cons (pv 1) pa_nil))))
  (pss_one (ps_ret (pe_tup (pa_cons (pv 4) (pa_cons (pe_erf T.xf_BadPositions T.nf_BadPositions_index (pv 4)) (pa_cons (pv 1) pa_nil)))))))
    pss_nil)
  (pss_cons (ps_if (pt_cmpR op_eq (pv 0) pe_int (nomark _))
    (pss_cons (ps_set (i := 4) sc_l_second.nd rfl (Or.inl rfl) (pe_keep (pmk_oex T.ox_NoFinal T.ii_NoFinal T.ti_NoFinal (ok_NoFinal_init T) (hr.mono (by decide)) T.b_NoFinal_init .nil pass0 (by rfl) T.g_NoFinal (pa_cons (pv 2) pa_nil))))
  (pss_one (ps_ret (pe_tup (pa_cons (pv 4) (pa_cons (pe_erf T.xf_NoFinal T.nf_NoFinal_ends (pv 4)) (pa_cons (pv 2) pa_nil)))))))
    pss_nil)
  (pss_cons (ps_if (pt_cmpR op_eq (pv 0) pe_int (nomark _))
    (pss_cons (ps_set (i := 4) sc_l_second.nd rfl (Or.inl rfl) (pe_keep (pmk_oex T.ox_NotReached T.ii_NotReached T.ti_NotReached (ok_NotReached_init T) (hr.mono (by decide)) T.b_NotReached_init .nil pass0 (by rfl) T.g_NotReached (pa_cons (pv 1) pa_nil))))
  (pss_one (ps_ret (pe_tup (pa_cons (pv 4) (pa_cons (pe_erf T.xf_NotReached T.nf_NotReached_index (pv 4)) (pa_cons (pv 1) pa_nil)))))))
    pss_nil)
  (pss_cons (ps_if (pt_cmpR op_eq (pv 0) pe_int (nomark _))
    (pss_cons (ps_set (i := 4) sc_l_second.nd rfl (Or.inl rfl) (pe_keep (pmk_oex T.ox_NoEnd T.ii_NoEnd T.ti_NoEnd (ok_NoEnd_init T) (hr.mono (by decide)) T.b_NoEnd_init .nil pass0 (by rfl) T.g_NoEnd (pa_cons (pv 1) pa_nil))))
  (pss_one (ps_ret (pe_tup (pa_cons (pv 4) (pa_cons (pe_erf T.xf_NoEnd T.nf_NoEnd_number (pv 4)) (pa_cons (pv 1) pa_nil)))))))
    pss_nil)
  (pss_cons (ps_if (pt_cmpR op_eq (pv 0) pe_int (nomark _))
    (pss_one (ps_ret (pe_tup (pa_cons (pe_keep (pmk_oex0 T.ox_ZeroBottom T.ii_ZeroBottom T.ti_ZeroBottom (ok_ZeroBottom_init T) (hr.mono (by decide)) T.b_ZeroBottom_init pass0 (by rfl) T.g_ZeroBottom)) (pa_cons pe_int (pa_cons pe_int pa_nil))))))
    pss_nil)
  (pss_cons (ps_if (pt_cmpR op_eq (pv 0) pe_int (nomark _))
    (pss_cons (ps_set (i := 4) sc_l_second.nd rfl (Or.inl rfl) (pe_keep (pmk_oex T.ox_NoChance T.ii_NoChance T.ti_NoChance (ok_NoChance_init T) (hr.mono (by decide)) T.b_NoChance_init .nil pass0 (by rfl) T.g_NoChance (pa_cons (pv 1) pa_nil))))
  (pss_one (ps_ret (pe_tup (pa_cons (pv 4) (pa_cons (pe_erf T.xf_NoChance T.nf_NoChance_number (pv 4)) (pa_cons (pv 1) pa_nil)))))))
    pss_nil)
  (pss_cons (ps_if (pt_cmpR op_eq (pv 0) pe_int (nomark _))
    (pss_cons (ps_set (i := 4) sc_l_second.nd rfl (Or.inl rfl) (pe_keep (pmk_oex T.ox_BadChance T.ii_BadChance T.ti_BadChance (ok_BadChance_init T) (hr.mono (by decide)) T.b_BadChance_init .nil pass0 (by rfl) T.g_BadChance (pa_cons (pv 1) pa_nil))))
  (pss_one (ps_ret (pe_tup (pa_cons (pv 4) (pa_cons (pe_erf T.xf_BadChance T.nf_BadChance_number (pv 4)) (pa_cons (pv 1) pa_nil)))))))
    pss_nil)
  (pss_cons (ps_if (pt_cmpR op_eq (pv 0) pe_int (nomark _))
    (pss_one (ps_ret (pe_tup (pa_cons (pe_keep (pmk_oex0 T.ox_ZeroPolynomial T.ii_ZeroPolynomial T.ti_ZeroPolynomial (ok_ZeroPolynomial_init T) (hr.mono (by decide)) T.b_ZeroPolynomial_init pass0 (by rfl) T.g_ZeroPolynomial)) (pa_cons pe_int (pa_cons pe_int pa_nil))))))
    pss_nil)
  (pss_one (ps_ret (pe_tup (pa_cons (pe_keep (pmk_oex0 T.ox_BadInterval T.ii_BadInterval T.ti_BadInterval (ok_BadInterval_init T) (hr.mono (by decide)) T.b_BadInterval_init pass0 (by rfl) T.g_BadInterval)) (pa_cons pe_int (pa_cons pe_int pa_nil))))))))))))))), ?_⟩
    have dE : ∀ i j : Int, decide (V.int i = V.int j) = decide (i = j) := fun i j => by simp
    obtain rfl | rfl | rfl | rfl | rfl | rfl | rfl | rfl | rfl | rfl : kk = 10 ∨ kk = 11 ∨ kk = 12 ∨ kk = 13 ∨ kk = 14 ∨ kk = 15 ∨ kk = 16 ∨ kk = 17 ∨ kk = 18 ∨ kk = 19 := by omega
    · refine ⟨_, rfl, rfl, _, rfl, ?_⟩
      rw [dE]
      refine iteT ?_
      dsimp only [tNext, tSeq, tAsg]
      refine keep1 rfl ⟨w, rfl, hw⟩ fun d b nd nb => ?_
      refine ⟨_, rfl, _, rfl, b, d, _, _, rfl, upd_same, upd2 nb, rfl, _, rfl, by show 3 ≤ sizeLine; decide, fun t nt => ?_⟩
      exact k _ t b (some d) _ _ _ ((same_upd nd).trans ((same_upd nb).trans (same_upd nt))) rfl upd_same ((same_upd nt) _ _ upd_same) (fun dd e => by cases e; exact ⟨_, (same_upd nt) _ _ (upd2 nb)⟩) (fun Q' q' => neD_str hwo q')
    · refine ⟨_, rfl, rfl, _, rfl, ?_⟩
      rw [dE]
      refine iteF ⟨_, rfl, rfl, _, rfl, ?_⟩
      rw [dE]
      refine iteT ?_
      dsimp only [tNext, tSeq, tAsg]
      refine keep1 rfl ⟨_, rfl, Bn⟩ fun d b nd nb => ?_
      refine ⟨_, rfl, _, rfl, b, d, _, _, rfl, upd_same, upd2 nb, rfl, _, rfl, by show 3 ≤ sizeLine; decide, fun t nt => ?_⟩
      exact k _ t b (some d) _ _ _ ((same_upd nd).trans ((same_upd nb).trans (same_upd nt))) rfl upd_same ((same_upd nt) _ _ upd_same) (fun dd e => by cases e; exact ⟨_, (same_upd nt) _ _ (upd2 nb)⟩) (fun Q' q' => neD_int (by simpa using q'))
    · refine ⟨_, rfl, rfl, _, rfl, ?_⟩
      rw [dE]
      refine iteF ⟨_, rfl, rfl, _, rfl, ?_⟩
      rw [dE]
      refine iteF ⟨_, rfl, rfl, _, rfl, ?_⟩
      rw [dE]
      refine iteT ?_
      dsimp only [tNext, tSeq, tAsg]
      refine keepT rfl hs (by omega) hb fun d b nd nb => ?_
      refine ⟨_, rfl, _, rfl, b, d, _, _, rfl, upd_same, upd2 nb, rfl, _, rfl, by show 3 ≤ sizeLine; decide, fun t nt => ?_⟩
      exact k _ t b (some d) _ _ _ ((same_upd nd).trans ((same_upd nb).trans (same_upd nt))) rfl upd_same ((same_upd nt) _ _ upd_same) (fun dd e => by cases e; exact ⟨_, (same_upd nt) _ _ (upd2 nb)⟩) (fun Q' q' => neD_tup (tup_of (((same_upd nd).trans ((same_upd nb).trans (same_upd nt))) _ _ hs)) (tup_of (((same_upd nd).trans ((same_upd nb).trans (same_upd nt))) _ _ hs)) (by simpa using q'))
    · refine ⟨_, rfl, rfl, _, rfl, ?_⟩
      rw [dE]
      refine iteF ⟨_, rfl, rfl, _, rfl, ?_⟩
      rw [dE]
      refine iteF ⟨_, rfl, rfl, _, rfl, ?_⟩
      rw [dE]
      refine iteF ⟨_, rfl, rfl, _, rfl, ?_⟩
      rw [dE]
      refine iteT ?_
      dsimp only [tNext, tSeq, tAsg]
      refine keep1 rfl ⟨_, rfl, Bn⟩ fun d b nd nb => ?_
      refine ⟨_, rfl, _, rfl, b, d, _, _, rfl, upd_same, upd2 nb, rfl, _, rfl, by show 3 ≤ sizeLine; decide, fun t nt => ?_⟩
      exact k _ t b (some d) _ _ _ ((same_upd nd).trans ((same_upd nb).trans (same_upd nt))) rfl upd_same ((same_upd nt) _ _ upd_same) (fun dd e => by cases e; exact ⟨_, (same_upd nt) _ _ (upd2 nb)⟩) (fun Q' q' => neD_int (by simpa using q'))
    · refine ⟨_, rfl, rfl, _, rfl, ?_⟩
      rw [dE]
      refine iteF ⟨_, rfl, rfl, _, rfl, ?_⟩
      rw [dE]
      refine iteF ⟨_, rfl, rfl, _, rfl, ?_⟩
      rw [dE]
      refine iteF ⟨_, rfl, rfl, _, rfl, ?_⟩
      rw [dE]
      refine iteF ⟨_, rfl, rfl, _, rfl, ?_⟩
      rw [dE]
      refine iteT ?_
      dsimp only [tNext, tSeq, tAsg]
      refine keep1 rfl ⟨_, rfl, Bn⟩ fun d b nd nb => ?_
      refine ⟨_, rfl, _, rfl, b, d, _, _, rfl, upd_same, upd2 nb, rfl, _, rfl, by show 3 ≤ sizeLine; decide, fun t nt => ?_⟩
      exact k _ t b (some d) _ _ _ ((same_upd nd).trans ((same_upd nb).trans (same_upd nt))) rfl upd_same ((same_upd nt) _ _ upd_same) (fun dd e => by cases e; exact ⟨_, (same_upd nt) _ _ (upd2 nb)⟩) (fun Q' q' => neD_int (by simpa using q'))
    · refine ⟨_, rfl, rfl, _, rfl, ?_⟩
      rw [dE]
      refine iteF ⟨_, rfl, rfl, _, rfl, ?_⟩
      rw [dE]
      refine iteF ⟨_, rfl, rfl, _, rfl, ?_⟩
      rw [dE]
      refine iteF ⟨_, rfl, rfl, _, rfl, ?_⟩
      rw [dE]
      refine iteF ⟨_, rfl, rfl, _, rfl, ?_⟩
      rw [dE]
      refine iteF ⟨_, rfl, rfl, _, rfl, ?_⟩
      rw [dE]
      refine iteT ?_
      dsimp only [tNext, tRet, tTup, tCons]
      refine keep0 fun b nb => ?_
      refine ⟨by show 3 ≤ sizeLine; decide, fun t nt => ?_⟩
      exact k _ t b none _ _ _ ((same_upd nb).trans (same_upd nt)) rfl upd_same ((same_upd nt) _ _ upd_same) (fun dd e => nomatch e) (fun Q' q' => neD_int (by simpa using q'))
    · refine ⟨_, rfl, rfl, _, rfl, ?_⟩
      rw [dE]
      refine iteF ⟨_, rfl, rfl, _, rfl, ?_⟩
      rw [dE]
      refine iteF ⟨_, rfl, rfl, _, rfl, ?_⟩
      rw [dE]
      refine iteF ⟨_, rfl, rfl, _, rfl, ?_⟩
      rw [dE]
      refine iteF ⟨_, rfl, rfl, _, rfl, ?_⟩
      rw [dE]
      refine iteF ⟨_, rfl, rfl, _, rfl, ?_⟩
      rw [dE]
      refine iteF ⟨_, rfl, rfl, _, rfl, ?_⟩
      rw [dE]
      refine iteT ?_
      dsimp only [tNext, tSeq, tAsg]
      refine keep1 rfl ⟨_, rfl, Bn⟩ fun d b nd nb => ?_
      refine ⟨_, rfl, _, rfl, b, d, _, _, rfl, upd_same, upd2 nb, rfl, _, rfl, by show 3 ≤ sizeLine; decide, fun t nt => ?_⟩
      exact k _ t b (some d) _ _ _ ((same_upd nd).trans ((same_upd nb).trans (same_upd nt))) rfl upd_same ((same_upd nt) _ _ upd_same) (fun dd e => by cases e; exact ⟨_, (same_upd nt) _ _ (upd2 nb)⟩) (fun Q' q' => neD_int (by simpa using q'))
    · refine ⟨_, rfl, rfl, _, rfl, ?_⟩
      rw [dE]
      refine iteF ⟨_, rfl, rfl, _, rfl, ?_⟩
      rw [dE]
      refine iteF ⟨_, rfl, rfl, _, rfl, ?_⟩
      rw [dE]
      refine iteF ⟨_, rfl, rfl, _, rfl, ?_⟩
      rw [dE]
      refine iteF ⟨_, rfl, rfl, _, rfl, ?_⟩
      rw [dE]
      refine iteF ⟨_, rfl, rfl, _, rfl, ?_⟩
      rw [dE]
      refine iteF ⟨_, rfl, rfl, _, rfl, ?_⟩
      rw [dE]
      refine iteF ⟨_, rfl, rfl, _, rfl, ?_⟩
      rw [dE]
      refine iteT ?_
      dsimp only [tNext, tSeq, tAsg]
      refine keep1 rfl ⟨_, rfl, Bn⟩ fun d b nd nb => ?_
      refine ⟨_, rfl, _, rfl, b, d, _, _, rfl, upd_same, upd2 nb, rfl, _, rfl, by show 3 ≤ sizeLine; decide, fun t nt => ?_⟩
      exact k _ t b (some d) _ _ _ ((same_upd nd).trans ((same_upd nb).trans (same_upd nt))) rfl upd_same ((same_upd nt) _ _ upd_same) (fun dd e => by cases e; exact ⟨_, (same_upd nt) _ _ (upd2 nb)⟩) (fun Q' q' => neD_int (by simpa using q'))
    · refine ⟨_, rfl, rfl, _, rfl, ?_⟩
      rw [dE]
      refine iteF ⟨_, rfl, rfl, _, rfl, ?_⟩
      rw [dE]
      refine iteF ⟨_, rfl, rfl, _, rfl, ?_⟩
      rw [dE]
      refine iteF ⟨_, rfl, rfl, _, rfl, ?_⟩
      rw [dE]
      refine iteF ⟨_, rfl, rfl, _, rfl, ?_⟩
      rw [dE]
      refine iteF ⟨_, rfl, rfl, _, rfl, ?_⟩
      rw [dE]
      refine iteF ⟨_, rfl, rfl, _, rfl, ?_⟩
      rw [dE]
      refine iteF ⟨_, rfl, rfl, _, rfl, ?_⟩
      rw [dE]
      refine iteF ⟨_, rfl, rfl, _, rfl, ?_⟩
      rw [dE]
      refine iteT ?_
      dsimp only [tNext, tRet, tTup, tCons]
      refine keep0 fun b nb => ?_
      refine ⟨by show 3 ≤ sizeLine; decide, fun t nt => ?_⟩
      exact k _ t b none _ _ _ ((same_upd nb).trans (same_upd nt)) rfl upd_same ((same_upd nt) _ _ upd_same) (fun dd e => nomatch e) (fun Q' q' => neD_int (by simpa using q'))
    · refine ⟨_, rfl, rfl, _, rfl, ?_⟩
      rw [dE]
      refine iteF ⟨_, rfl, rfl, _, rfl, ?_⟩
      rw [dE]
      refine iteF ⟨_, rfl, rfl, _, rfl, ?_⟩
      rw [dE]
      refine iteF ⟨_, rfl, rfl, _, rfl, ?_⟩
      rw [dE]
      refine iteF ⟨_, rfl, rfl, _, rfl, ?_⟩
      rw [dE]
      refine iteF ⟨_, rfl, rfl, _, rfl, ?_⟩
      rw [dE]
      refine iteF ⟨_, rfl, rfl, _, rfl, ?_⟩
      rw [dE]
      refine iteF ⟨_, rfl, rfl, _, rfl, ?_⟩
      rw [dE]
      refine iteF ⟨_, rfl, rfl, _, rfl, ?_⟩
      rw [dE]
      refine iteF ?_
      dsimp only [tNext, tRet, tTup, tCons]
      refine keep0 fun b nb => ?_
      refine ⟨by show 3 ≤ sizeLine; decide, fun t nt => ?_⟩
      exact k _ t b none _ _ _ ((same_upd nb).trans (same_upd nt)) rfl upd_same ((same_upd nt) _ _ upd_same) (fun dd e => nomatch e) (fun Q' q' => neD_int (by simpa using q'))
theorem ok_l_third (T : Txt K mg a) : FnOk P w K mg base CX0 3 a.f_l_third a.d_l_third P_l_third (spMade K a 20 28) := by
  refine T.F_l_third.ok sc_l_third (fun vs H Q E h => ?_) (fun cdv A outer s0 H vs Q E hr h => ?_)
  · obtain ⟨s, kk, n, w, l, rfl, _⟩ := h
    rfl
  · obtain ⟨s, kk, n, w, l, rfl, k0, k1, Bn, Bn3, hw, hwo, hs, hl, hb, k⟩ := h
    refine ⟨_, (pss_cons (ps_if (pt_cmpR op_eq (pv 0) pe_int (nomark _))
    (pss_cons (ps_set (i := 4) sc_l_third.nd rfl (Or.inl rfl) (pe_keep (pmk_oex T.ox_NoSkip T.ii_NoSkip T.ti_NoSkip (ok_NoSkip_init T) (hr.mono (by decide)) T.b_NoSkip_init .nil pass0 (by rfl) T.g_NoSkip (pa_cons (pv 1) pa_nil))))
  (pss_one (ps_ret (pe_tup (pa_cons (pv 4) (pa_cons (pe_erf T.xf_NoSkip T.nf_NoSkip_index (pv 4)) (pa_cons (pv 1) pa_nil)))))))
    pss_nil)
  (pss_cons (ps_if (pt_cmpR op_eq (pv 0) pe_int (nomark _))
    (pss_cons (ps_set (i := 4) sc_l_third.nd rfl (Or.inl rfl) (pe_keep (pmk_oex T.ox_NotComing T.ii_NotComing T.ti_NotComing (ok_NotComing_init T) (hr.mono (by decide)) T.b_NotComing_init .nil pass0 (by rfl) T.g_NotComing (pa_cons (pv 1) pa_nil))))
  (pss_one (ps_ret (pe_tup (pa_cons (pv 4) (pa_cons (pe_erf T.xf_NotComing T.nf_NotComing_index (pv 4)) (pa_cons (pv 1) pa_nil)))))))
    pss_nil)
  (pss_cons (ps_if (pt_cmpR op_eq (pv 0) pe_int (nomark _))
    (pss_one (ps_ret (pe_tup (pa_cons (pe_keep (pmk_oex0 T.ox_NoPupils T.ii_NoPupils T.ti_NoPupils (ok_NoPupils_init T) (hr.mono (by decide)) T.b_NoPupils_init pass0 (by rfl) T.g_NoPupils)) (pa_cons pe_int (pa_cons pe_int pa_nil))))))
    pss_nil)
  (pss_cons (ps_if (pt_cmpR op_eq (pv 0) pe_int (nomark _))
    (pss_cons (ps_set (i := 4) sc_l_third.nd rfl (Or.inl rfl) (pe_keep (pmk_oex T.ox_BadLength T.ii_BadLength T.ti_BadLength (ok_BadLength_init T) (hr.mono (by decide)) T.b_BadLength_init .nil pass0 (by rfl) T.g_BadLength (pa_cons (pv 1) pa_nil))))
  (pss_one (ps_ret (pe_tup (pa_cons (pv 4) (pa_cons (pe_erf T.xf_BadLength T.nf_BadLength_count (pv 4)) (pa_cons (pv 1) pa_nil)))))))
    pss_nil)
  (pss_cons (ps_if (pt_cmpR op_eq (pv 0) pe_int (nomark _))
    (pss_cons (ps_set (i := 4) sc_l_third.nd rfl (Or.inl rfl) (pe_keep (pmk_oex T.ox_AlikePupils T.ii_AlikePupils T.ti_AlikePupils (ok_AlikePupils_init T) (hr.mono (by decide)) T.b_AlikePupils_init .nil pass0 (by rfl) T.g_AlikePupils (pa_cons (pv 1) (pa_cons (pe_op op_fdivW (pv 1) pe_int) pa_nil)))))
  (pss_one (ps_ret (pe_tup (pa_cons (pv 4) (pa_cons (pe_tup (pa_cons (pe_erf T.xf_AlikePupils T.nf_AlikePupils_first (pv 4)) (pa_cons (pe_erf T.xf_AlikePupils T.nf_AlikePupils_second (pv 4)) pa_nil))) (pa_cons (pe_tup (pa_cons (pv 1) (pa_cons (pe_op op_fdivW (pv 1) pe_int) pa_nil))) pa_nil)))))))
    pss_nil)
  (pss_cons (ps_if (pt_cmpR op_eq (pv 0) pe_int (nomark _))
    (pss_cons (ps_set (i := 4) sc_l_third.nd rfl (Or.inl rfl) (pe_keep (pmk_oex T.ox_BadLine T.ii_BadLine T.ti_BadLine (ok_BadLine_init T) (hr.mono (by decide)) T.b_BadLine_init .nil pass0 (by rfl) T.g_BadLine (pa_cons (pv 1) pa_nil))))
  (pss_one (ps_ret (pe_tup (pa_cons (pv 4) (pa_cons (pe_erf T.xf_BadLine T.nf_BadLine_line (pv 4)) (pa_cons (pv 1) pa_nil)))))))
    pss_nil)
  (pss_cons (ps_if (pt_cmpR op_eq (pv 0) pe_int (nomark _))
    (pss_one (ps_ret (pe_tup (pa_cons (pe_keep (pmk_oex0 T.ox_Ended T.ii_Ended T.ti_Ended (ok_Ended_init T) (hr.mono (by decide)) T.b_Ended_init pass0 (by rfl) T.g_Ended)) (pa_cons pe_int (pa_cons pe_int pa_nil))))))
    pss_nil)
  (pss_cons (ps_set (i := 4) sc_l_third.nd rfl (Or.inl rfl) (pe_keep (pmk_oex T.ox_BadDeed T.ii_BadDeed T.ti_BadDeed (ok_BadDeed_init T) (hr.mono (by decide)) T.b_BadDeed_init .nil pass0 (by rfl) T.g_BadDeed (pa_cons (pv 1) pa_nil))))
  (pss_one (ps_ret (pe_tup (pa_cons (pv 4) (pa_cons (pe_erf T.xf_BadDeed T.nf_BadDeed_index (pv 4)) (pa_cons (pv 1) pa_nil)))))))))))))), ?_⟩
    have dE : ∀ i j : Int, decide (V.int i = V.int j) = decide (i = j) := fun i j => by simp
    obtain rfl | rfl | rfl | rfl | rfl | rfl | rfl | rfl : kk = 20 ∨ kk = 21 ∨ kk = 22 ∨ kk = 23 ∨ kk = 24 ∨ kk = 25 ∨ kk = 26 ∨ kk = 27 := by omega
    · refine ⟨_, rfl, rfl, _, rfl, ?_⟩
      rw [dE]
      refine iteT ?_
      dsimp only [tNext, tSeq, tAsg]
      refine keep1 rfl ⟨_, rfl, Bn⟩ fun d b nd nb => ?_
      refine ⟨_, rfl, _, rfl, b, d, _, _, rfl, upd_same, upd2 nb, rfl, _, rfl, by show 3 ≤ sizeLine; decide, fun t nt => ?_⟩
      exact k _ t b (some d) _ _ _ ((same_upd nd).trans ((same_upd nb).trans (same_upd nt))) rfl upd_same ((same_upd nt) _ _ upd_same) (fun dd e => by cases e; exact ⟨_, (same_upd nt) _ _ (upd2 nb)⟩) (fun Q' q' => neD_int (by simpa using q'))
    · refine ⟨_, rfl, rfl, _, rfl, ?_⟩
      rw [dE]
      refine iteF ⟨_, rfl, rfl, _, rfl, ?_⟩
      rw [dE]
      refine iteT ?_
      dsimp only [tNext, tSeq, tAsg]
      refine keep1 rfl ⟨_, rfl, Bn⟩ fun d b nd nb => ?_
      refine ⟨_, rfl, _, rfl, b, d, _, _, rfl, upd_same, upd2 nb, rfl, _, rfl, by show 3 ≤ sizeLine; decide, fun t nt => ?_⟩
      exact k _ t b (some d) _ _ _ ((same_upd nd).trans ((same_upd nb).trans (same_upd nt))) rfl upd_same ((same_upd nt) _ _ upd_same) (fun dd e => by cases e; exact ⟨_, (same_upd nt) _ _ (upd2 nb)⟩) (fun Q' q' => neD_int (by simpa using q'))
    · refine ⟨_, rfl, rfl, _, rfl, ?_⟩
      rw [dE]
      refine iteF ⟨_, rfl, rfl, _, rfl, ?_⟩
      rw [dE]
      refine iteF ⟨_, rfl, rfl, _, rfl, ?_⟩
      rw [dE]
      refine iteT ?_
      dsimp only [tNext, tRet, tTup, tCons]
      refine keep0 fun b nb => ?_
      refine ⟨by show 3 ≤ sizeLine; decide, fun t nt => ?_⟩
      exact k _ t b none _ _ _ ((same_upd nb).trans (same_upd nt)) rfl upd_same ((same_upd nt) _ _ upd_same) (fun dd e => nomatch e) (fun Q' q' => neD_int (by simpa using q'))
    · refine ⟨_, rfl, rfl, _, rfl, ?_⟩
      rw [dE]
      refine iteF ⟨_, rfl, rfl, _, rfl, ?_⟩
      rw [dE]
      refine iteF ⟨_, rfl, rfl, _, rfl, ?_⟩
      rw [dE]
      refine iteF ⟨_, rfl, rfl, _, rfl, ?_⟩
      rw [dE]
      refine iteT ?_
      dsimp only [tNext, tSeq, tAsg]
      refine keep1 rfl ⟨_, rfl, Bn⟩ fun d b nd nb => ?_
      refine ⟨_, rfl, _, rfl, b, d, _, _, rfl, upd_same, upd2 nb, rfl, _, rfl, by show 3 ≤ sizeLine; decide, fun t nt => ?_⟩
      exact k _ t b (some d) _ _ _ ((same_upd nd).trans ((same_upd nb).trans (same_upd nt))) rfl upd_same ((same_upd nt) _ _ upd_same) (fun dd e => by cases e; exact ⟨_, (same_upd nt) _ _ (upd2 nb)⟩) (fun Q' q' => neD_int (by simpa using q'))
    · refine ⟨_, rfl, rfl, _, rfl, ?_⟩
      rw [dE]
      refine iteF ⟨_, rfl, rfl, _, rfl, ?_⟩
      rw [dE]
      refine iteF ⟨_, rfl, rfl, _, rfl, ?_⟩
      rw [dE]
      refine iteF ⟨_, rfl, rfl, _, rfl, ?_⟩
      rw [dE]
      refine iteF ⟨_, rfl, rfl, _, rfl, ?_⟩
      rw [dE]
      refine iteT ?_
      dsimp only [tNext, tSeq, tAsg]
      refine keep2 rfl (fun Q q => ⟨_, rfl, _, 3, rfl, rfl, ⟨by decide, by decide⟩, q⟩) ⟨_, rfl, Bn⟩ ⟨_, rfl, Bn3⟩ fun d b nd nb => ?_
      refine ⟨_, rfl, _, rfl, b, d, _, _, rfl, upd_same, upd2 nb, rfl, _, rfl, b, d, _, _, rfl, upd_same, upd2 nb, rfl, by show 2 ≤ sizeLine; decide, fun t1 nt1 => ?_⟩
      refine ⟨_, rfl, _, rfl, _, 3, rfl, rfl, ⟨by decide, by decide⟩, by show 2 ≤ sizeLine; decide, fun t2 nt2 => ⟨by show 3 ≤ sizeLine; decide, fun t nt => ?_⟩⟩
      have g2 := (same_upd nt2 (o := .tup [V.int n, .int (n / 3)])).trans (same_upd nt (o := .tup [V.ref b, .ref t1, .ref t2]))
      have g := (same_upd nt1 (o := .tup [V.int n, .int (n / 3)])).trans g2
      exact k _ t b (some d) _ _ _ ((same_upd nd).trans ((same_upd nb).trans g)) rfl upd_same (g _ _ upd_same) (fun dd e => by cases e; exact ⟨_, g _ _ (upd2 nb)⟩) (fun Q' q' => neD_tup (ns := [n, n / 3]) (ms := [n, n / 3]) (tup_of (g2 _ _ upd_same)) (tup_of ((same_upd nt) _ _ upd_same)) (by simpa using q'))
    · refine ⟨_, rfl, rfl, _, rfl, ?_⟩
      rw [dE]
      refine iteF ⟨_, rfl, rfl, _, rfl, ?_⟩
      rw [dE]
      refine iteF ⟨_, rfl, rfl, _, rfl, ?_⟩
      rw [dE]
      refine iteF ⟨_, rfl, rfl, _, rfl, ?_⟩
      rw [dE]
      refine iteF ⟨_, rfl, rfl, _, rfl, ?_⟩
      rw [dE]
      refine iteF ⟨_, rfl, rfl, _, rfl, ?_⟩
      rw [dE]
      refine iteT ?_
      dsimp only [tNext, tSeq, tAsg]
      refine keep1 rfl ⟨_, rfl, Bn⟩ fun d b nd nb => ?_
      refine ⟨_, rfl, _, rfl, b, d, _, _, rfl, upd_same, upd2 nb, rfl, _, rfl, by show 3 ≤ sizeLine; decide, fun t nt => ?_⟩
      exact k _ t b (some d) _ _ _ ((same_upd nd).trans ((same_upd nb).trans (same_upd nt))) rfl upd_same ((same_upd nt) _ _ upd_same) (fun dd e => by cases e; exact ⟨_, (same_upd nt) _ _ (upd2 nb)⟩) (fun Q' q' => neD_int (by simpa using q'))
    · refine ⟨_, rfl, rfl, _, rfl, ?_⟩
      rw [dE]
      refine iteF ⟨_, rfl, rfl, _, rfl, ?_⟩
      rw [dE]
      refine iteF ⟨_, rfl, rfl, _, rfl, ?_⟩
      rw [dE]
      refine iteF ⟨_, rfl, rfl, _, rfl, ?_⟩
      rw [dE]
      refine iteF ⟨_, rfl, rfl, _, rfl, ?_⟩
      rw [dE]
      refine iteF ⟨_, rfl, rfl, _, rfl, ?_⟩
      rw [dE]
      refine iteF ⟨_, rfl, rfl, _, rfl, ?_⟩
      rw [dE]
      refine iteT ?_
      dsimp only [tNext, tRet, tTup, tCons]
      refine keep0 fun b nb => ?_
      refine ⟨by show 3 ≤ sizeLine; decide, fun t nt => ?_⟩
      exact k _ t b none _ _ _ ((same_upd nb).trans (same_upd nt)) rfl upd_same ((same_upd nt) _ _ upd_same) (fun dd e => nomatch e) (fun Q' q' => neD_int (by simpa using q'))
    · refine ⟨_, rfl, rfl, _, rfl, ?_⟩
      rw [dE]
      refine iteF ⟨_, rfl, rfl, _, rfl, ?_⟩
      rw [dE]
      refine iteF ⟨_, rfl, rfl, _, rfl, ?_⟩
      rw [dE]
      refine iteF ⟨_, rfl, rfl, _, rfl, ?_⟩
      rw [dE]
      refine iteF ⟨_, rfl, rfl, _, rfl, ?_⟩
      rw [dE]
      refine iteF ⟨_, rfl, rfl, _, rfl, ?_⟩
      rw [dE]
      refine iteF ⟨_, rfl, rfl, _, rfl, ?_⟩
      rw [dE]
      refine iteF ?_
      dsimp only [tNext, tSeq, tAsg]
      refine keep1 rfl ⟨_, rfl, Bn⟩ fun d b nd nb => ?_
      refine ⟨_, rfl, _, rfl, b, d, _, _, rfl, upd_same, upd2 nb, rfl, _, rfl, by show 3 ≤ sizeLine; decide, fun t nt => ?_⟩
      exact k _ t b (some d) _ _ _ ((same_upd nd).trans ((same_upd nb).trans (same_upd nt))) rfl upd_same ((same_upd nt) _ _ upd_same) (fun dd e => by cases e; exact ⟨_, (same_upd nt) _ _ (upd2 nb)⟩) (fun Q' q' => neD_int (by simpa using q'))
end
end K84
namespace K84
open PySem PySem.Spec PyProof.Rows L2 Gg TL HotX L2H RZ
section
variable {P : Program} {w : World} {K : PySem.W.Frag} {mg : Str → Option Value} {base : Heap} {a : Ad}
theorem kit_BadEnds (T : Txt K mg a) : ∀ (j : Nat) (C : Addr), (clsA a)[j]? = some C → PySem.W.kitOne K (.ref a.c_BadEnds) (.ref C) = some (decide (j = 0))
  | 0, _, rfl => T.kz_BadEnds
  | 1, _, rfl => T.ks_BadEnds_BadNode
  | 2, _, rfl => T.ks_BadEnds_BadStart
  | 3, _, rfl => T.ks_BadEnds_TwiceAsked
  | 4, _, rfl => T.ks_BadEnds_NoNode
  | 5, _, rfl => T.ks_BadEnds_NoPosition
  | 6, _, rfl => T.ks_BadEnds_BadQuestion
  | 7, _, rfl => T.ks_BadEnds_BadMarks
  | 8, _, rfl => T.ks_BadEnds_BadLadder
  | 9, _, rfl => T.ks_BadEnds_BadCount
  | 10, _, rfl => T.ks_BadEnds_BadRelation
  | 11, _, rfl => T.ks_BadEnds_BadPositions
  | 12, _, rfl => T.ks_BadEnds_NoFinal
  | 13, _, rfl => T.ks_BadEnds_NotReached
  | 14, _, rfl => T.ks_BadEnds_NoEnd
  | 15, _, rfl => T.ks_BadEnds_ZeroBottom
  | 16, _, rfl => T.ks_BadEnds_NoChance
  | 17, _, rfl => T.ks_BadEnds_BadChance
  | 18, _, rfl => T.ks_BadEnds_ZeroPolynomial
  | 19, _, rfl => T.ks_BadEnds_BadInterval
  | 20, _, rfl => T.ks_BadEnds_NoSkip
  | 21, _, rfl => T.ks_BadEnds_NotComing
  | 22, _, rfl => T.ks_BadEnds_NoPupils
  | 23, _, rfl => T.ks_BadEnds_BadLength
  | 24, _, rfl => T.ks_BadEnds_AlikePupils
  | 25, _, rfl => T.ks_BadEnds_BadLine
  | 26, _, rfl => T.ks_BadEnds_Ended
  | 27, _, rfl => T.ks_BadEnds_BadDeed
  | _ + 28, _, h => nomatch h
theorem kit_BadNode (T : Txt K mg a) : ∀ (j : Nat) (C : Addr), (clsA a)[j]? = some C → PySem.W.kitOne K (.ref a.c_BadNode) (.ref C) = some (decide (j = 1))
  | 0, _, rfl => T.ks_BadNode_BadEnds
  | 1, _, rfl => T.kz_BadNode
  | 2, _, rfl => T.ks_BadNode_BadStart
  | 3, _, rfl => T.ks_BadNode_TwiceAsked
  | 4, _, rfl => T.ks_BadNode_NoNode
  | 5, _, rfl => T.ks_BadNode_NoPosition
  | 6, _, rfl => T.ks_BadNode_BadQuestion
  | 7, _, rfl => T.ks_BadNode_BadMarks
  | 8, _, rfl => T.ks_BadNode_BadLadder
  | 9, _, rfl => T.ks_BadNode_BadCount
  | 10, _, rfl => T.ks_BadNode_BadRelation
  | 11, _, rfl => T.ks_BadNode_BadPositions
  | 12, _, rfl => T.ks_BadNode_NoFinal
  | 13, _, rfl => T.ks_BadNode_NotReached
  | 14, _, rfl => T.ks_BadNode_NoEnd
  | 15, _, rfl => T.ks_BadNode_ZeroBottom
  | 16, _, rfl => T.ks_BadNode_NoChance
  | 17, _, rfl => T.ks_BadNode_BadChance
  | 18, _, rfl => T.ks_BadNode_ZeroPolynomial
  | 19, _, rfl => T.ks_BadNode_BadInterval
  | 20, _, rfl => T.ks_BadNode_NoSkip
  | 21, _, rfl => T.ks_BadNode_NotComing
  | 22, _, rfl => T.ks_BadNode_NoPupils
  | 23, _, rfl => T.ks_BadNode_BadLength
  | 24, _, rfl => T.ks_BadNode_AlikePupils
  | 25, _, rfl => T.ks_BadNode_BadLine
  | 26, _, rfl => T.ks_BadNode_Ended
  | 27, _, rfl => T.ks_BadNode_BadDeed
  | _ + 28, _, h => nomatch h
theorem kit_BadStart (T : Txt K mg a) : ∀ (j : Nat) (C : Addr), (clsA a)[j]? = some C → PySem.W.kitOne K (.ref a.c_BadStart) (.ref C) = some (decide (j = 2))
  | 0, _, rfl => T.ks_BadStart_BadEnds
  | 1, _, rfl => T.ks_BadStart_BadNode
  | 2, _, rfl => T.kz_BadStart
  | 3, _, rfl => T.ks_BadStart_TwiceAsked
  | 4, _, rfl => T.ks_BadStart_NoNode
  | 5, _, rfl => T.ks_BadStart_NoPosition
  | 6, _, rfl => T.ks_BadStart_BadQuestion
  | 7, _, rfl => T.ks_BadStart_BadMarks
  | 8, _, rfl => T.ks_BadStart_BadLadder
  | 9, _, rfl => T.ks_BadStart_BadCount
  | 10, _, rfl => T.ks_BadStart_BadRelation
  | 11, _, rfl => T.ks_BadStart_BadPositions
  | 12, _, rfl => T.ks_BadStart_NoFinal
  | 13, _, rfl => T.ks_BadStart_NotReached
  | 14, _, rfl => T.ks_BadStart_NoEnd
  | 15, _, rfl => T.ks_BadStart_ZeroBottom
  | 16, _, rfl => T.ks_BadStart_NoChance
  | 17, _, rfl => T.ks_BadStart_BadChance
  | 18, _, rfl => T.ks_BadStart_ZeroPolynomial
  | 19, _, rfl => T.ks_BadStart_BadInterval
  | 20, _, rfl => T.ks_BadStart_NoSkip
  | 21, _, rfl => T.ks_BadStart_NotComing
  | 22, _, rfl => T.ks_BadStart_NoPupils
  | 23, _, rfl => T.ks_BadStart_BadLength
  | 24, _, rfl => T.ks_BadStart_AlikePupils
  | 25, _, rfl => T.ks_BadStart_BadLine
  | 26, _, rfl => T.ks_BadStart_Ended
  | 27, _, rfl => T.ks_BadStart_BadDeed
  | _ + 28, _, h => nomatch h
theorem kit_TwiceAsked (T : Txt K mg a) : ∀ (j : Nat) (C : Addr), (clsA a)[j]? = some C → PySem.W.kitOne K (.ref a.c_TwiceAsked) (.ref C) = some (decide (j = 3))
  | 0, _, rfl => T.ks_TwiceAsked_BadEnds
  | 1, _, rfl => T.ks_TwiceAsked_BadNode
  | 2, _, rfl => T.ks_TwiceAsked_BadStart
  | 3, _, rfl => T.kz_TwiceAsked
  | 4, _, rfl => T.ks_TwiceAsked_NoNode
  | 5, _, rfl => T.ks_TwiceAsked_NoPosition
  | 6, _, rfl => T.ks_TwiceAsked_BadQuestion
  | 7, _, rfl => T.ks_TwiceAsked_BadMarks
  | 8, _, rfl => T.ks_TwiceAsked_BadLadder
  | 9, _, rfl => T.ks_TwiceAsked_BadCount
  | 10, _, rfl => T.ks_TwiceAsked_BadRelation
  | 11, _, rfl => T.ks_TwiceAsked_BadPositions
  | 12, _, rfl => T.ks_TwiceAsked_NoFinal
  | 13, _, rfl => T.ks_TwiceAsked_NotReached
  | 14, _, rfl => T.ks_TwiceAsked_NoEnd
  | 15, _, rfl => T.ks_TwiceAsked_ZeroBottom
  | 16, _, rfl => T.ks_TwiceAsked_NoChance
  | 17, _, rfl => T.ks_TwiceAsked_BadChance
  | 18, _, rfl => T.ks_TwiceAsked_ZeroPolynomial
  | 19, _, rfl => T.ks_TwiceAsked_BadInterval
  | 20, _, rfl => T.ks_TwiceAsked_NoSkip
  | 21, _, rfl => T.ks_TwiceAsked_NotComing
  | 22, _, rfl => T.ks_TwiceAsked_NoPupils
  | 23, _, rfl => T.ks_TwiceAsked_BadLength
  | 24, _, rfl => T.ks_TwiceAsked_AlikePupils
  | 25, _, rfl => T.ks_TwiceAsked_BadLine
  | 26, _, rfl => T.ks_TwiceAsked_Ended
  | 27, _, rfl => T.ks_TwiceAsked_BadDeed
  | _ + 28, _, h => nomatch h
theorem kit_NoNode (T : Txt K mg a) : ∀ (j : Nat) (C : Addr), (clsA a)[j]? = some C → PySem.W.kitOne K (.ref a.c_NoNode) (.ref C) = some (decide (j = 4))
  | 0, _, rfl => T.ks_NoNode_BadEnds
  | 1, _, rfl => T.ks_NoNode_BadNode
  | 2, _, rfl => T.ks_NoNode_BadStart
  | 3, _, rfl => T.ks_NoNode_TwiceAsked
  | 4, _, rfl => T.kz_NoNode
  | 5, _, rfl => T.ks_NoNode_NoPosition
  | 6, _, rfl => T.ks_NoNode_BadQuestion
  | 7, _, rfl => T.ks_NoNode_BadMarks
  | 8, _, rfl => T.ks_NoNode_BadLadder
  | 9, _, rfl => T.ks_NoNode_BadCount
  | 10, _, rfl => T.ks_NoNode_BadRelation
  | 11, _, rfl => T.ks_NoNode_BadPositions
  | 12, _, rfl => T.ks_NoNode_NoFinal
  | 13, _, rfl => T.ks_NoNode_NotReached
  | 14, _, rfl => T.ks_NoNode_NoEnd
  | 15, _, rfl => T.ks_NoNode_ZeroBottom
  | 16, _, rfl => T.ks_NoNode_NoChance
  | 17, _, rfl => T.ks_NoNode_BadChance
  | 18, _, rfl => T.ks_NoNode_ZeroPolynomial
  | 19, _, rfl => T.ks_NoNode_BadInterval
  | 20, _, rfl => T.ks_NoNode_NoSkip
  | 21, _, rfl => T.ks_NoNode_NotComing
  | 22, _, rfl => T.ks_NoNode_NoPupils
  | 23, _, rfl => T.ks_NoNode_BadLength
  | 24, _, rfl => T.ks_NoNode_AlikePupils
  | 25, _, rfl => T.ks_NoNode_BadLine
  | 26, _, rfl => T.ks_NoNode_Ended
  | 27, _, rfl => T.ks_NoNode_BadDeed
  | _ + 28, _, h => nomatch h
theorem kit_NoPosition (T : Txt K mg a) : ∀ (j : Nat) (C : Addr), (clsA a)[j]? = some C → PySem.W.kitOne K (.ref a.c_NoPosition) (.ref C) = some (decide (j = 5))
  | 0, _, rfl => T.ks_NoPosition_BadEnds
  | 1, _, rfl => T.ks_NoPosition_BadNode
  | 2, _, rfl => T.ks_NoPosition_BadStart
  | 3, _, rfl => T.ks_NoPosition_TwiceAsked
  | 4, _, rfl => T.ks_NoPosition_NoNode
  | 5, _, rfl => T.kz_NoPosition
  | 6, _, rfl => T.ks_NoPosition_BadQuestion
  | 7, _, rfl => T.ks_NoPosition_BadMarks
  | 8, _, rfl => T.ks_NoPosition_BadLadder
  | 9, _, rfl => T.ks_NoPosition_BadCount
  | 10, _, rfl => T.ks_NoPosition_BadRelation
  | 11, _, rfl => T.ks_NoPosition_BadPositions
  | 12, _, rfl => T.ks_NoPosition_NoFinal
  | 13, _, rfl => T.ks_NoPosition_NotReached
  | 14, _, rfl => T.ks_NoPosition_NoEnd
  | 15, _, rfl => T.ks_NoPosition_ZeroBottom
  | 16, _, rfl => T.ks_NoPosition_NoChance
  | 17, _, rfl => T.ks_NoPosition_BadChance
  | 18, _, rfl => T.ks_NoPosition_ZeroPolynomial
  | 19, _, rfl => T.ks_NoPosition_BadInterval
  | 20, _, rfl => T.ks_NoPosition_NoSkip
  | 21, _, rfl => T.ks_NoPosition_NotComing
  | 22, _, rfl => T.ks_NoPosition_NoPupils
  | 23, _, rfl => T.ks_NoPosition_BadLength
  | 24, _, rfl => T.ks_NoPosition_AlikePupils
  | 25, _, rfl => T.ks_NoPosition_BadLine
  | 26, _, rfl => T.ks_NoPosition_Ended
  | 27, _, rfl => T.ks_NoPosition_BadDeed
  | _ + 28, _, h => nomatch h
theorem kit_BadQuestion (T : Txt K mg a) : ∀ (j : Nat) (C : Addr), (clsA a)[j]? = some C → PySem.W.kitOne K (.ref a.c_BadQuestion) (.ref C) = some (decide (j = 6))
  | 0, _, rfl => T.ks_BadQuestion_BadEnds
  | 1, _, rfl => T.ks_BadQuestion_BadNode
  | 2, _, rfl => T.ks_BadQuestion_BadStart
  | 3, _, rfl => T.ks_BadQuestion_TwiceAsked
  | 4, _, rfl => T.ks_BadQuestion_NoNode
  | 5, _, rfl => T.ks_BadQuestion_NoPosition
  | 6, _, rfl => T.kz_BadQuestion
  | 7, _, rfl => T.ks_BadQuestion_BadMarks
  | 8, _, rfl => T.ks_BadQuestion_BadLadder
  | 9, _, rfl => T.ks_BadQuestion_BadCount
  | 10, _, rfl => T.ks_BadQuestion_BadRelation
  | 11, _, rfl => T.ks_BadQuestion_BadPositions
  | 12, _, rfl => T.ks_BadQuestion_NoFinal
  | 13, _, rfl => T.ks_BadQuestion_NotReached
  | 14, _, rfl => T.ks_BadQuestion_NoEnd
  | 15, _, rfl => T.ks_BadQuestion_ZeroBottom
  | 16, _, rfl => T.ks_BadQuestion_NoChance
  | 17, _, rfl => T.ks_BadQuestion_BadChance
  | 18, _, rfl => T.ks_BadQuestion_ZeroPolynomial
  | 19, _, rfl => T.ks_BadQuestion_BadInterval
  | 20, _, rfl => T.ks_BadQuestion_NoSkip
  | 21, _, rfl => T.ks_BadQuestion_NotComing
  | 22, _, rfl => T.ks_BadQuestion_NoPupils
  | 23, _, rfl => T.ks_BadQuestion_BadLength
  | 24, _, rfl => T.ks_BadQuestion_AlikePupils
  | 25, _, rfl => T.ks_BadQuestion_BadLine
  | 26, _, rfl => T.ks_BadQuestion_Ended
  | 27, _, rfl => T.ks_BadQuestion_BadDeed
  | _ + 28, _, h => nomatch h
theorem kit_BadMarks (T : Txt K mg a) : ∀ (j : Nat) (C : Addr), (clsA a)[j]? = some C → PySem.W.kitOne K (.ref a.c_BadMarks) (.ref C) = some (decide (j = 7))
  | 0, _, rfl => T.ks_BadMarks_BadEnds
  | 1, _, rfl => T.ks_BadMarks_BadNode
  | 2, _, rfl => T.ks_BadMarks_BadStart
  | 3, _, rfl => T.ks_BadMarks_TwiceAsked
  | 4, _, rfl => T.ks_BadMarks_NoNode
  | 5, _, rfl => T.ks_BadMarks_NoPosition
  | 6, _, rfl => T.ks_BadMarks_BadQuestion
  | 7, _, rfl => T.kz_BadMarks
  | 8, _, rfl => T.ks_BadMarks_BadLadder
  | 9, _, rfl => T.ks_BadMarks_BadCount
  | 10, _, rfl => T.ks_BadMarks_BadRelation
  | 11, _, rfl => T.ks_BadMarks_BadPositions
  | 12, _, rfl => T.ks_BadMarks_NoFinal
  | 13, _, rfl => T.ks_BadMarks_NotReached
  | 14, _, rfl => T.ks_BadMarks_NoEnd
  | 15, _, rfl => T.ks_BadMarks_ZeroBottom
  | 16, _, rfl => T.ks_BadMarks_NoChance
  | 17, _, rfl => T.ks_BadMarks_BadChance
  | 18, _, rfl => T.ks_BadMarks_ZeroPolynomial
  | 19, _, rfl => T.ks_BadMarks_BadInterval
  | 20, _, rfl => T.ks_BadMarks_NoSkip
  | 21, _, rfl => T.ks_BadMarks_NotComing
  | 22, _, rfl => T.ks_BadMarks_NoPupils
  | 23, _, rfl => T.ks_BadMarks_BadLength
  | 24, _, rfl => T.ks_BadMarks_AlikePupils
  | 25, _, rfl => T.ks_BadMarks_BadLine
  | 26, _, rfl => T.ks_BadMarks_Ended
  | 27, _, rfl => T.ks_BadMarks_BadDeed
  | _ + 28, _, h => nomatch h
theorem kit_BadLadder (T : Txt K mg a) : ∀ (j : Nat) (C : Addr), (clsA a)[j]? = some C → PySem.W.kitOne K (.ref a.c_BadLadder) (.ref C) = some (decide (j = 8))
  | 0, _, rfl => T.ks_BadLadder_BadEnds
  | 1, _, rfl => T.ks_BadLadder_BadNode
  | 2, _, rfl => T.ks_BadLadder_BadStart
  | 3, _, rfl => T.ks_BadLadder_TwiceAsked
  | 4, _, rfl => T.ks_BadLadder_NoNode
  | 5, _, rfl => T.ks_BadLadder_NoPosition
  | 6, _, rfl => T.ks_BadLadder_BadQuestion
  | 7, _, rfl => T.ks_BadLadder_BadMarks
  | 8, _, rfl => T.kz_BadLadder
  | 9, _, rfl => T.ks_BadLadder_BadCount
  | 10, _, rfl => T.ks_BadLadder_BadRelation
  | 11, _, rfl => T.ks_BadLadder_BadPositions
  | 12, _, rfl => T.ks_BadLadder_NoFinal
  | 13, _, rfl => T.ks_BadLadder_NotReached
  | 14, _, rfl => T.ks_BadLadder_NoEnd
  | 15, _, rfl => T.ks_BadLadder_ZeroBottom
  | 16, _, rfl => T.ks_BadLadder_NoChance
  | 17, _, rfl => T.ks_BadLadder_BadChance
  | 18, _, rfl => T.ks_BadLadder_ZeroPolynomial
  | 19, _, rfl => T.ks_BadLadder_BadInterval
  | 20, _, rfl => T.ks_BadLadder_NoSkip
  | 21, _, rfl => T.ks_BadLadder_NotComing
  | 22, _, rfl => T.ks_BadLadder_NoPupils
  | 23, _, rfl => T.ks_BadLadder_BadLength
  | 24, _, rfl => T.ks_BadLadder_AlikePupils
  | 25, _, rfl => T.ks_BadLadder_BadLine
  | 26, _, rfl => T.ks_BadLadder_Ended
  | 27, _, rfl => T.ks_BadLadder_BadDeed
  | _ + 28, _, h => nomatch h
theorem kit_BadCount (T : Txt K mg a) : ∀ (j : Nat) (C : Addr), (clsA a)[j]? = some C → PySem.W.kitOne K (.ref a.c_BadCount) (.ref C) = some (decide (j = 9))
  | 0, _, rfl => T.ks_BadCount_BadEnds
  | 1, _, rfl => T.ks_BadCount_BadNode
  | 2, _, rfl => T.ks_BadCount_BadStart
  | 3, _, rfl => T.ks_BadCount_TwiceAsked
  | 4, _, rfl => T.ks_BadCount_NoNode
  | 5, _, rfl => T.ks_BadCount_NoPosition
  | 6, _, rfl => T.ks_BadCount_BadQuestion
  | 7, _, rfl => T.ks_BadCount_BadMarks
  | 8, _, rfl => T.ks_BadCount_BadLadder
  | 9, _, rfl => T.kz_BadCount
  | 10, _, rfl => T.ks_BadCount_BadRelation
  | 11, _, rfl => T.ks_BadCount_BadPositions
  | 12, _, rfl => T.ks_BadCount_NoFinal
  | 13, _, rfl => T.ks_BadCount_NotReached
  | 14, _, rfl => T.ks_BadCount_NoEnd
  | 15, _, rfl => T.ks_BadCount_ZeroBottom
  | 16, _, rfl => T.ks_BadCount_NoChance
  | 17, _, rfl => T.ks_BadCount_BadChance
  | 18, _, rfl => T.ks_BadCount_ZeroPolynomial
  | 19, _, rfl => T.ks_BadCount_BadInterval
  | 20, _, rfl => T.ks_BadCount_NoSkip
  | 21, _, rfl => T.ks_BadCount_NotComing
  | 22, _, rfl => T.ks_BadCount_NoPupils
  | 23, _, rfl => T.ks_BadCount_BadLength
  | 24, _, rfl => T.ks_BadCount_AlikePupils
  | 25, _, rfl => T.ks_BadCount_BadLine
  | 26, _, rfl => T.ks_BadCount_Ended
  | 27, _, rfl => T.ks_BadCount_BadDeed
  | _ + 28, _, h => nomatch h
theorem kit_BadRelation (T : Txt K mg a) : ∀ (j : Nat) (C : Addr), (clsA a)[j]? = some C → PySem.W.kitOne K (.ref a.c_BadRelation) (.ref C) = some (decide (j = 10))
  | 0, _, rfl => T.ks_BadRelation_BadEnds
  | 1, _, rfl => T.ks_BadRelation_BadNode
  | 2, _, rfl => T.ks_BadRelation_BadStart
  | 3, _, rfl => T.ks_BadRelation_TwiceAsked
  | 4, _, rfl => T.ks_BadRelation_NoNode
  | 5, _, rfl => T.ks_BadRelation_NoPosition
  | 6, _, rfl => T.ks_BadRelation_BadQuestion
  | 7, _, rfl => T.ks_BadRelation_BadMarks
  | 8, _, rfl => T.ks_BadRelation_BadLadder
  | 9, _, rfl => T.ks_BadRelation_BadCount
  | 10, _, rfl => T.kz_BadRelation
  | 11, _, rfl => T.ks_BadRelation_BadPositions
  | 12, _, rfl => T.ks_BadRelation_NoFinal
  | 13, _, rfl => T.ks_BadRelation_NotReached
  | 14, _, rfl => T.ks_BadRelation_NoEnd
  | 15, _, rfl => T.ks_BadRelation_ZeroBottom
  | 16, _, rfl => T.ks_BadRelation_NoChance
  | 17, _, rfl => T.ks_BadRelation_BadChance
  | 18, _, rfl => T.ks_BadRelation_ZeroPolynomial
  | 19, _, rfl => T.ks_BadRelation_BadInterval
  | 20, _, rfl => T.ks_BadRelation_NoSkip
  | 21, _, rfl => T.ks_BadRelation_NotComing
  | 22, _, rfl => T.ks_BadRelation_NoPupils
  | 23, _, rfl => T.ks_BadRelation_BadLength
  | 24, _, rfl => T.ks_BadRelation_AlikePupils
  | 25, _, rfl => T.ks_BadRelation_BadLine
  | 26, _, rfl => T.ks_BadRelation_Ended
  | 27, _, rfl => T.ks_BadRelation_BadDeed
  | _ + 28, _, h => nomatch h
theorem kit_BadPositions (T : Txt K mg a) : ∀ (j : Nat) (C : Addr), (clsA a)[j]? = some C → PySem.W.kitOne K (.ref a.c_BadPositions) (.ref C) = some (decide (j = 11))
  | 0, _, rfl => T.ks_BadPositions_BadEnds
  | 1, _, rfl => T.ks_BadPositions_BadNode
  | 2, _, rfl => T.ks_BadPositions_BadStart
  | 3, _, rfl => T.ks_BadPositions_TwiceAsked
  | 4, _, rfl => T.ks_BadPositions_NoNode
  | 5, _, rfl => T.ks_BadPositions_NoPosition
  | 6, _, rfl => T.ks_BadPositions_BadQuestion
  | 7, _, rfl => T.ks_BadPositions_BadMarks
  | 8, _, rfl => T.ks_BadPositions_BadLadder
  | 9, _, rfl => T.ks_BadPositions_BadCount
  | 10, _, rfl => T.ks_BadPositions_BadRelation
  | 11, _, rfl => T.kz_BadPositions
  | 12, _, rfl => T.ks_BadPositions_NoFinal
  | 13, _, rfl => T.ks_BadPositions_NotReached
  | 14, _, rfl => T.ks_BadPositions_NoEnd
  | 15, _, rfl => T.ks_BadPositions_ZeroBottom
  | 16, _, rfl => T.ks_BadPositions_NoChance
  | 17, _, rfl => T.ks_BadPositions_BadChance
  | 18, _, rfl => T.ks_BadPositions_ZeroPolynomial
  | 19, _, rfl => T.ks_BadPositions_BadInterval
  | 20, _, rfl => T.ks_BadPositions_NoSkip
  | 21, _, rfl => T.ks_BadPositions_NotComing
  | 22, _, rfl => T.ks_BadPositions_NoPupils
  | 23, _, rfl => T.ks_BadPositions_BadLength
  | 24, _, rfl => T.ks_BadPositions_AlikePupils
  | 25, _, rfl => T.ks_BadPositions_BadLine
  | 26, _, rfl => T.ks_BadPositions_Ended
  | 27, _, rfl => T.ks_BadPositions_BadDeed
  | _ + 28, _, h => nomatch h
theorem kit_NoFinal (T : Txt K mg a) : ∀ (j : Nat) (C : Addr), (clsA a)[j]? = some C → PySem.W.kitOne K (.ref a.c_NoFinal) (.ref C) = some (decide (j = 12))
  | 0, _, rfl => T.ks_NoFinal_BadEnds
  | 1, _, rfl => T.ks_NoFinal_BadNode
  | 2, _, rfl => T.ks_NoFinal_BadStart
  | 3, _, rfl => T.ks_NoFinal_TwiceAsked
  | 4, _, rfl => T.ks_NoFinal_NoNode
  | 5, _, rfl => T.ks_NoFinal_NoPosition
  | 6, _, rfl => T.ks_NoFinal_BadQuestion
  | 7, _, rfl => T.ks_NoFinal_BadMarks
  | 8, _, rfl => T.ks_NoFinal_BadLadder
  | 9, _, rfl => T.ks_NoFinal_BadCount
  | 10, _, rfl => T.ks_NoFinal_BadRelation
  | 11, _, rfl => T.ks_NoFinal_BadPositions
  | 12, _, rfl => T.kz_NoFinal
  | 13, _, rfl => T.ks_NoFinal_NotReached
  | 14, _, rfl => T.ks_NoFinal_NoEnd
  | 15, _, rfl => T.ks_NoFinal_ZeroBottom
  | 16, _, rfl => T.ks_NoFinal_NoChance
  | 17, _, rfl => T.ks_NoFinal_BadChance
  | 18, _, rfl => T.ks_NoFinal_ZeroPolynomial
  | 19, _, rfl => T.ks_NoFinal_BadInterval
  | 20, _, rfl => T.ks_NoFinal_NoSkip
  | 21, _, rfl => T.ks_NoFinal_NotComing
  | 22, _, rfl => T.ks_NoFinal_NoPupils
  | 23, _, rfl => T.ks_NoFinal_BadLength
  | 24, _, rfl => T.ks_NoFinal_AlikePupils
  | 25, _, rfl => T.ks_NoFinal_BadLine
  | 26, _, rfl => T.ks_NoFinal_Ended
  | 27, _, rfl => T.ks_NoFinal_BadDeed
  | _ + 28, _, h => nomatch h
theorem kit_NotReached (T : Txt K mg a) : ∀ (j : Nat) (C : Addr), (clsA a)[j]? = some C → PySem.W.kitOne K (.ref a.c_NotReached) (.ref C) = some (decide (j = 13))
  | 0, _, rfl => T.ks_NotReached_BadEnds
  | 1, _, rfl => T.ks_NotReached_BadNode
  | 2, _, rfl => T.ks_NotReached_BadStart
  | 3, _, rfl => T.ks_NotReached_TwiceAsked
  | 4, _, rfl => T.ks_NotReached_NoNode
  | 5, _, rfl => T.ks_NotReached_NoPosition
  | 6, _, rfl => T.ks_NotReached_BadQuestion
  | 7, _, rfl => T.ks_NotReached_BadMarks
  | 8, _, rfl => T.ks_NotReached_BadLadder
  | 9, _, rfl => T.ks_NotReached_BadCount
  | 10, _, rfl => T.ks_NotReached_BadRelation
  | 11, _, rfl => T.ks_NotReached_BadPositions
  | 12, _, rfl => T.ks_NotReached_NoFinal
  | 13, _, rfl => T.kz_NotReached
  | 14, _, rfl => T.ks_NotReached_NoEnd
  | 15, _, rfl => T.ks_NotReached_ZeroBottom
  | 16, _, rfl => T.ks_NotReached_NoChance
  | 17, _, rfl => T.ks_NotReached_BadChance
  | 18, _, rfl => T.ks_NotReached_ZeroPolynomial
  | 19, _, rfl => T.ks_NotReached_BadInterval
  | 20, _, rfl => T.ks_NotReached_NoSkip
  | 21, _, rfl => T.ks_NotReached_NotComing
  | 22, _, rfl => T.ks_NotReached_NoPupils
  | 23, _, rfl => T.ks_NotReached_BadLength
  | 24, _, rfl => T.ks_NotReached_AlikePupils
  | 25, _, rfl => T.ks_NotReached_BadLine
  | 26, _, rfl => T.ks_NotReached_Ended
  | 27, _, rfl => T.ks_NotReached_BadDeed
  | _ + 28, _, h => nomatch h
theorem kit_NoEnd (T : Txt K mg a) : ∀ (j : Nat) (C : Addr), (clsA a)[j]? = some C → PySem.W.kitOne K (.ref a.c_NoEnd) (.ref C) = some (decide (j = 14))
  | 0, _, rfl => T.ks_NoEnd_BadEnds
  | 1, _, rfl => T.ks_NoEnd_BadNode
  | 2, _, rfl => T.ks_NoEnd_BadStart
  | 3, _, rfl => T.ks_NoEnd_TwiceAsked
  | 4, _, rfl => T.ks_NoEnd_NoNode
  | 5, _, rfl => T.ks_NoEnd_NoPosition
  | 6, _, rfl => T.ks_NoEnd_BadQuestion
  | 7, _, rfl => T.ks_NoEnd_BadMarks
  | 8, _, rfl => T.ks_NoEnd_BadLadder
  | 9, _, rfl => T.ks_NoEnd_BadCount
  | 10, _, rfl => T.ks_NoEnd_BadRelation
  | 11, _, rfl => T.ks_NoEnd_BadPositions
  | 12, _, rfl => T.ks_NoEnd_NoFinal
  | 13, _, rfl => T.ks_NoEnd_NotReached
  | 14, _, rfl => T.kz_NoEnd
  | 15, _, rfl => T.ks_NoEnd_ZeroBottom
  | 16, _, rfl => T.ks_NoEnd_NoChance
  | 17, _, rfl => T.ks_NoEnd_BadChance
  | 18, _, rfl => T.ks_NoEnd_ZeroPolynomial
  | 19, _, rfl => T.ks_NoEnd_BadInterval
  | 20, _, rfl => T.ks_NoEnd_NoSkip
  | 21, _, rfl => T.ks_NoEnd_NotComing
  | 22, _, rfl => T.ks_NoEnd_NoPupils
  | 23, _, rfl => T.ks_NoEnd_BadLength
  | 24, _, rfl => T.ks_NoEnd_AlikePupils
  | 25, _, rfl => T.ks_NoEnd_BadLine
  | 26, _, rfl => T.ks_NoEnd_Ended
  | 27, _, rfl => T.ks_NoEnd_BadDeed
  | _ + 28, _, h => nomatch h
theorem kit_ZeroBottom (T : Txt K mg a) : ∀ (j : Nat) (C : Addr), (clsA a)[j]? = some C → PySem.W.kitOne K (.ref a.c_ZeroBottom) (.ref C) = some (decide (j = 15))
  | 0, _, rfl => T.ks_ZeroBottom_BadEnds
  | 1, _, rfl => T.ks_ZeroBottom_BadNode
  | 2, _, rfl => T.ks_ZeroBottom_BadStart
  | 3, _, rfl => T.ks_ZeroBottom_TwiceAsked
  | 4, _, rfl => T.ks_ZeroBottom_NoNode
  | 5, _, rfl => T.ks_ZeroBottom_NoPosition
  | 6, _, rfl => T.ks_ZeroBottom_BadQuestion
  | 7, _, rfl => T.ks_ZeroBottom_BadMarks
  | 8, _, rfl => T.ks_ZeroBottom_BadLadder
  | 9, _, rfl => T.ks_ZeroBottom_BadCount
  | 10, _, rfl => T.ks_ZeroBottom_BadRelation
  | 11, _, rfl => T.ks_ZeroBottom_BadPositions
  | 12, _, rfl => T.ks_ZeroBottom_NoFinal
  | 13, _, rfl => T.ks_ZeroBottom_NotReached
  | 14, _, rfl => T.ks_ZeroBottom_NoEnd
  | 15, _, rfl => T.kz_ZeroBottom
  | 16, _, rfl => T.ks_ZeroBottom_NoChance
  | 17, _, rfl => T.ks_ZeroBottom_BadChance
  | 18, _, rfl => T.ks_ZeroBottom_ZeroPolynomial
  | 19, _, rfl => T.ks_ZeroBottom_BadInterval
  | 20, _, rfl => T.ks_ZeroBottom_NoSkip
  | 21, _, rfl => T.ks_ZeroBottom_NotComing
  | 22, _, rfl => T.ks_ZeroBottom_NoPupils
  | 23, _, rfl => T.ks_ZeroBottom_BadLength
  | 24, _, rfl => T.ks_ZeroBottom_AlikePupils
  | 25, _, rfl => T.ks_ZeroBottom_BadLine
  | 26, _, rfl => T.ks_ZeroBottom_Ended
  | 27, _, rfl => T.ks_ZeroBottom_BadDeed
  | _ + 28, _, h => nomatch h
theorem kit_NoChance (T : Txt K mg a) : ∀ (j : Nat) (C : Addr), (clsA a)[j]? = some C → PySem.W.kitOne K (.ref a.c_NoChance) (.ref C) = some (decide (j = 16))
  | 0, _, rfl => T.ks_NoChance_BadEnds
  | 1, _, rfl => T.ks_NoChance_BadNode
  | 2, _, rfl => T.ks_NoChance_BadStart
  | 3, _, rfl => T.ks_NoChance_TwiceAsked
  | 4, _, rfl => T.ks_NoChance_NoNode
  | 5, _, rfl => T.ks_NoChance_NoPosition
  | 6, _, rfl => T.ks_NoChance_BadQuestion
  | 7, _, rfl => T.ks_NoChance_BadMarks
  | 8, _, rfl => T.ks_NoChance_BadLadder
  | 9, _, rfl => T.ks_NoChance_BadCount
  | 10, _, rfl => T.ks_NoChance_BadRelation
  | 11, _, rfl => T.ks_NoChance_BadPositions
  | 12, _, rfl => T.ks_NoChance_NoFinal
  | 13, _, rfl => T.ks_NoChance_NotReached
  | 14, _, rfl => T.ks_NoChance_NoEnd
  | 15, _, rfl => T.ks_NoChance_ZeroBottom
  | 16, _, rfl => T.kz_NoChance
  | 17, _, rfl => T.ks_NoChance_BadChance
  | 18, _, rfl => T.ks_NoChance_ZeroPolynomial
  | 19, _, rfl => T.ks_NoChance_BadInterval
  | 20, _, rfl => T.ks_NoChance_NoSkip
  | 21, _, rfl => T.ks_NoChance_NotComing
  | 22, _, rfl => T.ks_NoChance_NoPupils
  | 23, _, rfl => T.ks_NoChance_BadLength
  | 24, _, rfl => T.ks_NoChance_AlikePupils
  | 25, _, rfl => T.ks_NoChance_BadLine
  | 26, _, rfl => T.ks_NoChance_Ended
  | 27, _, rfl => T.ks_NoChance_BadDeed
  | _ + 28, _, h => nomatch h
theorem kit_BadChance (T : Txt K mg a) : ∀ (j : Nat) (C : Addr), (clsA a)[j]? = some C → PySem.W.kitOne K (.ref a.c_BadChance) (.ref C) = some (decide (j = 17))
  | 0, _, rfl => T.ks_BadChance_BadEnds
  | 1, _, rfl => T.ks_BadChance_BadNode
  | 2, _, rfl => T.ks_BadChance_BadStart
  | 3, _, rfl => T.ks_BadChance_TwiceAsked
  | 4, _, rfl => T.ks_BadChance_NoNode
  | 5, _, rfl => T.ks_BadChance_NoPosition
  | 6, _, rfl => T.ks_BadChance_BadQuestion
  | 7, _, rfl => T.ks_BadChance_BadMarks
  | 8, _, rfl => T.ks_BadChance_BadLadder
  | 9, _, rfl => T.ks_BadChance_BadCount
  | 10, _, rfl => T.ks_BadChance_BadRelation
  | 11, _, rfl => T.ks_BadChance_BadPositions
  | 12, _, rfl => T.ks_BadChance_NoFinal
  | 13, _, rfl => T.ks_BadChance_NotReached
  | 14, _, rfl => T.ks_BadChance_NoEnd
  | 15, _, rfl => T.ks_BadChance_ZeroBottom
  | 16, _, rfl => T.ks_BadChance_NoChance
  | 17, _, rfl => T.kz_BadChance
  | 18, _, rfl => T.ks_BadChance_ZeroPolynomial
  | 19, _, rfl => T.ks_BadChance_BadInterval
  | 20, _, rfl => T.ks_BadChance_NoSkip
  | 21, _, rfl => T.ks_BadChance_NotComing
  | 22, _, rfl => T.ks_BadChance_NoPupils
  | 23, _, rfl => T.ks_BadChance_BadLength
  | 24, _, rfl => T.ks_BadChance_AlikePupils
  | 25, _, rfl => T.ks_BadChance_BadLine
  | 26, _, rfl => T.ks_BadChance_Ended
  | 27, _, rfl => T.ks_BadChance_BadDeed
  | _ + 28, _, h => nomatch h
theorem kit_ZeroPolynomial (T : Txt K mg a) : ∀ (j : Nat) (C : Addr), (clsA a)[j]? = some C → PySem.W.kitOne K (.ref a.c_ZeroPolynomial) (.ref C) = some (decide (j = 18))
  | 0, _, rfl => T.ks_ZeroPolynomial_BadEnds
  | 1, _, rfl => T.ks_ZeroPolynomial_BadNode
  | 2, _, rfl => T.ks_ZeroPolynomial_BadStart
  | 3, _, rfl => T.ks_ZeroPolynomial_TwiceAsked
  | 4, _, rfl => T.ks_ZeroPolynomial_NoNode
  | 5, _, rfl => T.ks_ZeroPolynomial_NoPosition
  | 6, _, rfl => T.ks_ZeroPolynomial_BadQuestion
  | 7, _, rfl => T.ks_ZeroPolynomial_BadMarks
  | 8, _, rfl => T.ks_ZeroPolynomial_BadLadder
  | 9, _, rfl => T.ks_ZeroPolynomial_BadCount
  | 10, _, rfl => T.ks_ZeroPolynomial_BadRelation
  | 11, _, rfl => T.ks_ZeroPolynomial_BadPositions
  | 12, _, rfl => T.ks_ZeroPolynomial_NoFinal
  | 13, _, rfl => T.ks_ZeroPolynomial_NotReached
  | 14, _, rfl => T.ks_ZeroPolynomial_NoEnd
  | 15, _, rfl => T.ks_ZeroPolynomial_ZeroBottom
  | 16, _, rfl => T.ks_ZeroPolynomial_NoChance
  | 17, _, rfl => T.ks_ZeroPolynomial_BadChance
  | 18, _, rfl => T.kz_ZeroPolynomial
  | 19, _, rfl => T.ks_ZeroPolynomial_BadInterval
  | 20, _, rfl => T.ks_ZeroPolynomial_NoSkip
  | 21, _, rfl => T.ks_ZeroPolynomial_NotComing
  | 22, _, rfl => T.ks_ZeroPolynomial_NoPupils
  | 23, _, rfl => T.ks_ZeroPolynomial_BadLength
  | 24, _, rfl => T.ks_ZeroPolynomial_AlikePupils
  | 25, _, rfl => T.ks_ZeroPolynomial_BadLine
  | 26, _, rfl => T.ks_ZeroPolynomial_Ended
  | 27, _, rfl => T.ks_ZeroPolynomial_BadDeed
  | _ + 28, _, h => nomatch h
theorem kit_BadInterval (T : Txt K mg a) : ∀ (j : Nat) (C : Addr), (clsA a)[j]? = some C → PySem.W.kitOne K (.ref a.c_BadInterval) (.ref C) = some (decide (j = 19))
  | 0, _, rfl => T.ks_BadInterval_BadEnds
  | 1, _, rfl => T.ks_BadInterval_BadNode
  | 2, _, rfl => T.ks_BadInterval_BadStart
  | 3, _, rfl => T.ks_BadInterval_TwiceAsked
  | 4, _, rfl => T.ks_BadInterval_NoNode
  | 5, _, rfl => T.ks_BadInterval_NoPosition
  | 6, _, rfl => T.ks_BadInterval_BadQuestion
  | 7, _, rfl => T.ks_BadInterval_BadMarks
  | 8, _, rfl => T.ks_BadInterval_BadLadder
  | 9, _, rfl => T.ks_BadInterval_BadCount
  | 10, _, rfl => T.ks_BadInterval_BadRelation
  | 11, _, rfl => T.ks_BadInterval_BadPositions
  | 12, _, rfl => T.ks_BadInterval_NoFinal
  | 13, _, rfl => T.ks_BadInterval_NotReached
  | 14, _, rfl => T.ks_BadInterval_NoEnd
  | 15, _, rfl => T.ks_BadInterval_ZeroBottom
  | 16, _, rfl => T.ks_BadInterval_NoChance
  | 17, _, rfl => T.ks_BadInterval_BadChance
  | 18, _, rfl => T.ks_BadInterval_ZeroPolynomial
  | 19, _, rfl => T.kz_BadInterval
  | 20, _, rfl => T.ks_BadInterval_NoSkip
  | 21, _, rfl => T.ks_BadInterval_NotComing
  | 22, _, rfl => T.ks_BadInterval_NoPupils
  | 23, _, rfl => T.ks_BadInterval_BadLength
  | 24, _, rfl => T.ks_BadInterval_AlikePupils
  | 25, _, rfl => T.ks_BadInterval_BadLine
  | 26, _, rfl => T.ks_BadInterval_Ended
  | 27, _, rfl => T.ks_BadInterval_BadDeed
  | _ + 28, _, h => nomatch h
theorem kit_NoSkip (T : Txt K mg a) : ∀ (j : Nat) (C : Addr), (clsA a)[j]? = some C → PySem.W.kitOne K (.ref a.c_NoSkip) (.ref C) = some (decide (j = 20))
  | 0, _, rfl => T.ks_NoSkip_BadEnds
  | 1, _, rfl => T.ks_NoSkip_BadNode
  | 2, _, rfl => T.ks_NoSkip_BadStart
  | 3, _, rfl => T.ks_NoSkip_TwiceAsked
  | 4, _, rfl => T.ks_NoSkip_NoNode
  | 5, _, rfl => T.ks_NoSkip_NoPosition
  | 6, _, rfl => T.ks_NoSkip_BadQuestion
  | 7, _, rfl => T.ks_NoSkip_BadMarks
  | 8, _, rfl => T.ks_NoSkip_BadLadder
  | 9, _, rfl => T.ks_NoSkip_BadCount
  | 10, _, rfl => T.ks_NoSkip_BadRelation
  | 11, _, rfl => T.ks_NoSkip_BadPositions
  | 12, _, rfl => T.ks_NoSkip_NoFinal
  | 13, _, rfl => T.ks_NoSkip_NotReached
  | 14, _, rfl => T.ks_NoSkip_NoEnd
  | 15, _, rfl => T.ks_NoSkip_ZeroBottom
  | 16, _, rfl => T.ks_NoSkip_NoChance
  | 17, _, rfl => T.ks_NoSkip_BadChance
  | 18, _, rfl => T.ks_NoSkip_ZeroPolynomial
  | 19, _, rfl => T.ks_NoSkip_BadInterval
  | 20, _, rfl => T.kz_NoSkip
  | 21, _, rfl => T.ks_NoSkip_NotComing
  | 22, _, rfl => T.ks_NoSkip_NoPupils
  | 23, _, rfl => T.ks_NoSkip_BadLength
  | 24, _, rfl => T.ks_NoSkip_AlikePupils
  | 25, _, rfl => T.ks_NoSkip_BadLine
  | 26, _, rfl => T.ks_NoSkip_Ended
  | 27, _, rfl => T.ks_NoSkip_BadDeed
  | _ + 28, _, h => nomatch h
theorem kit_NotComing (T : Txt K mg a) : ∀ (j : Nat) (C : Addr), (clsA a)[j]? = some C → PySem.W.kitOne K (.ref a.c_NotComing) (.ref C) = some (decide (j = 21))
  | 0, _, rfl => T.ks_NotComing_BadEnds
  | 1, _, rfl => T.ks_NotComing_BadNode
  | 2, _, rfl => T.ks_NotComing_BadStart
  | 3, _, rfl => T.ks_NotComing_TwiceAsked
  | 4, _, rfl => T.ks_NotComing_NoNode
  | 5, _, rfl => T.ks_NotComing_NoPosition
  | 6, _, rfl => T.ks_NotComing_BadQuestion
  | 7, _, rfl => T.ks_NotComing_BadMarks
  | 8, _, rfl => T.ks_NotComing_BadLadder
  | 9, _, rfl => T.ks_NotComing_BadCount
  | 10, _, rfl => T.ks_NotComing_BadRelation
  | 11, _, rfl => T.ks_NotComing_BadPositions
  | 12, _, rfl => T.ks_NotComing_NoFinal
  | 13, _, rfl => T.ks_NotComing_NotReached
  | 14, _, rfl => T.ks_NotComing_NoEnd
  | 15, _, rfl => T.ks_NotComing_ZeroBottom
  | 16, _, rfl => T.ks_NotComing_NoChance
  | 17, _, rfl => T.ks_NotComing_BadChance
  | 18, _, rfl => T.ks_NotComing_ZeroPolynomial
  | 19, _, rfl => T.ks_NotComing_BadInterval
  | 20, _, rfl => T.ks_NotComing_NoSkip
  | 21, _, rfl => T.kz_NotComing
  | 22, _, rfl => T.ks_NotComing_NoPupils
  | 23, _, rfl => T.ks_NotComing_BadLength
  | 24, _, rfl => T.ks_NotComing_AlikePupils
  | 25, _, rfl => T.ks_NotComing_BadLine
  | 26, _, rfl => T.ks_NotComing_Ended
  | 27, _, rfl => T.ks_NotComing_BadDeed
  | _ + 28, _, h => nomatch h
theorem kit_NoPupils (T : Txt K mg a) : ∀ (j : Nat) (C : Addr), (clsA a)[j]? = some C → PySem.W.kitOne K (.ref a.c_NoPupils) (.ref C) = some (decide (j = 22))
  | 0, _, rfl => T.ks_NoPupils_BadEnds
  | 1, _, rfl => T.ks_NoPupils_BadNode
  | 2, _, rfl => T.ks_NoPupils_BadStart
  | 3, _, rfl => T.ks_NoPupils_TwiceAsked
  | 4, _, rfl => T.ks_NoPupils_NoNode
  | 5, _, rfl => T.ks_NoPupils_NoPosition
  | 6, _, rfl => T.ks_NoPupils_BadQuestion
  | 7, _, rfl => T.ks_NoPupils_BadMarks
  | 8, _, rfl => T.ks_NoPupils_BadLadder
  | 9, _, rfl => T.ks_NoPupils_BadCount
  | 10, _, rfl => T.ks_NoPupils_BadRelation
  | 11, _, rfl => T.ks_NoPupils_BadPositions
  | 12, _, rfl => T.ks_NoPupils_NoFinal
  | 13, _, rfl => T.ks_NoPupils_NotReached
  | 14, _, rfl => T.ks_NoPupils_NoEnd
  | 15, _, rfl => T.ks_NoPupils_ZeroBottom
  | 16, _, rfl => T.ks_NoPupils_NoChance
  | 17, _, rfl => T.ks_NoPupils_BadChance
  | 18, _, rfl => T.ks_NoPupils_ZeroPolynomial
  | 19, _, rfl => T.ks_NoPupils_BadInterval
  | 20, _, rfl => T.ks_NoPupils_NoSkip
  | 21, _, rfl => T.ks_NoPupils_NotComing
  | 22, _, rfl => T.kz_NoPupils
  | 23, _, rfl => T.ks_NoPupils_BadLength
  | 24, _, rfl => T.ks_NoPupils_AlikePupils
  | 25, _, rfl => T.ks_NoPupils_BadLine
  | 26, _, rfl => T.ks_NoPupils_Ended
  | 27, _, rfl => T.ks_NoPupils_BadDeed
  | _ + 28, _, h => nomatch h
theorem kit_BadLength (T : Txt K mg a) : ∀ (j : Nat) (C : Addr), (clsA a)[j]? = some C → PySem.W.kitOne K (.ref a.c_BadLength) (.ref C) = some (decide (j = 23))
  | 0, _, rfl => T.ks_BadLength_BadEnds
  | 1, _, rfl => T.ks_BadLength_BadNode
  | 2, _, rfl => T.ks_BadLength_BadStart
  | 3, _, rfl => T.ks_BadLength_TwiceAsked
  | 4, _, rfl => T.ks_BadLength_NoNode
  | 5, _, rfl => T.ks_BadLength_NoPosition
  | 6, _, rfl => T.ks_BadLength_BadQuestion
  | 7, _, rfl => T.ks_BadLength_BadMarks
  | 8, _, rfl => T.ks_BadLength_BadLadder
  | 9, _, rfl => T.ks_BadLength_BadCount
  | 10, _, rfl => T.ks_BadLength_BadRelation
  | 11, _, rfl => T.ks_BadLength_BadPositions
  | 12, _, rfl => T.ks_BadLength_NoFinal
  | 13, _, rfl => T.ks_BadLength_NotReached
  | 14, _, rfl => T.ks_BadLength_NoEnd
  | 15, _, rfl => T.ks_BadLength_ZeroBottom
  | 16, _, rfl => T.ks_BadLength_NoChance
  | 17, _, rfl => T.ks_BadLength_BadChance
  | 18, _, rfl => T.ks_BadLength_ZeroPolynomial
  | 19, _, rfl => T.ks_BadLength_BadInterval
  | 20, _, rfl => T.ks_BadLength_NoSkip
  | 21, _, rfl => T.ks_BadLength_NotComing
  | 22, _, rfl => T.ks_BadLength_NoPupils
  | 23, _, rfl => T.kz_BadLength
  | 24, _, rfl => T.ks_BadLength_AlikePupils
  | 25, _, rfl => T.ks_BadLength_BadLine
  | 26, _, rfl => T.ks_BadLength_Ended
  | 27, _, rfl => T.ks_BadLength_BadDeed
  | _ + 28, _, h => nomatch h
theorem kit_AlikePupils (T : Txt K mg a) : ∀ (j : Nat) (C : Addr), (clsA a)[j]? = some C → PySem.W.kitOne K (.ref a.c_AlikePupils) (.ref C) = some (decide (j = 24))
  | 0, _, rfl => T.ks_AlikePupils_BadEnds
  | 1, _, rfl => T.ks_AlikePupils_BadNode
  | 2, _, rfl => T.ks_AlikePupils_BadStart
  | 3, _, rfl => T.ks_AlikePupils_TwiceAsked
  | 4, _, rfl => T.ks_AlikePupils_NoNode
  | 5, _, rfl => T.ks_AlikePupils_NoPosition
  | 6, _, rfl => T.ks_AlikePupils_BadQuestion
  | 7, _, rfl => T.ks_AlikePupils_BadMarks
  | 8, _, rfl => T.ks_AlikePupils_BadLadder
  | 9, _, rfl => T.ks_AlikePupils_BadCount
  | 10, _, rfl => T.ks_AlikePupils_BadRelation
  | 11, _, rfl => T.ks_AlikePupils_BadPositions
  | 12, _, rfl => T.ks_AlikePupils_NoFinal
  | 13, _, rfl => T.ks_AlikePupils_NotReached
  | 14, _, rfl => T.ks_AlikePupils_NoEnd
  | 15, _, rfl => T.ks_AlikePupils_ZeroBottom
  | 16, _, rfl => T.ks_AlikePupils_NoChance
  | 17, _, rfl => T.ks_AlikePupils_BadChance
  | 18, _, rfl => T.ks_AlikePupils_ZeroPolynomial
  | 19, _, rfl => T.ks_AlikePupils_BadInterval
  | 20, _, rfl => T.ks_AlikePupils_NoSkip
  | 21, _, rfl => T.ks_AlikePupils_NotComing
  | 22, _, rfl => T.ks_AlikePupils_NoPupils
  | 23, _, rfl => T.ks_AlikePupils_BadLength
  | 24, _, rfl => T.kz_AlikePupils
  | 25, _, rfl => T.ks_AlikePupils_BadLine
  | 26, _, rfl => T.ks_AlikePupils_Ended
  | 27, _, rfl => T.ks_AlikePupils_BadDeed
  | _ + 28, _, h => nomatch h
theorem kit_BadLine (T : Txt K mg a) : ∀ (j : Nat) (C : Addr), (clsA a)[j]? = some C → PySem.W.kitOne K (.ref a.c_BadLine) (.ref C) = some (decide (j = 25))
  | 0, _, rfl => T.ks_BadLine_BadEnds
  | 1, _, rfl => T.ks_BadLine_BadNode
  | 2, _, rfl => T.ks_BadLine_BadStart
  | 3, _, rfl => T.ks_BadLine_TwiceAsked
  | 4, _, rfl => T.ks_BadLine_NoNode
  | 5, _, rfl => T.ks_BadLine_NoPosition
  | 6, _, rfl => T.ks_BadLine_BadQuestion
  | 7, _, rfl => T.ks_BadLine_BadMarks
  | 8, _, rfl => T.ks_BadLine_BadLadder
  | 9, _, rfl => T.ks_BadLine_BadCount
  | 10, _, rfl => T.ks_BadLine_BadRelation
  | 11, _, rfl => T.ks_BadLine_BadPositions
  | 12, _, rfl => T.ks_BadLine_NoFinal
  | 13, _, rfl => T.ks_BadLine_NotReached
  | 14, _, rfl => T.ks_BadLine_NoEnd
  | 15, _, rfl => T.ks_BadLine_ZeroBottom
  | 16, _, rfl => T.ks_BadLine_NoChance
  | 17, _, rfl => T.ks_BadLine_BadChance
  | 18, _, rfl => T.ks_BadLine_ZeroPolynomial
  | 19, _, rfl => T.ks_BadLine_BadInterval
  | 20, _, rfl => T.ks_BadLine_NoSkip
  | 21, _, rfl => T.ks_BadLine_NotComing
  | 22, _, rfl => T.ks_BadLine_NoPupils
  | 23, _, rfl => T.ks_BadLine_BadLength
  | 24, _, rfl => T.ks_BadLine_AlikePupils
  | 25, _, rfl => T.kz_BadLine
  | 26, _, rfl => T.ks_BadLine_Ended
  | 27, _, rfl => T.ks_BadLine_BadDeed
  | _ + 28, _, h => nomatch h
theorem kit_Ended (T : Txt K mg a) : ∀ (j : Nat) (C : Addr), (clsA a)[j]? = some C → PySem.W.kitOne K (.ref a.c_Ended) (.ref C) = some (decide (j = 26))
  | 0, _, rfl => T.ks_Ended_BadEnds
  | 1, _, rfl => T.ks_Ended_BadNode
  | 2, _, rfl => T.ks_Ended_BadStart
  | 3, _, rfl => T.ks_Ended_TwiceAsked
  | 4, _, rfl => T.ks_Ended_NoNode
  | 5, _, rfl => T.ks_Ended_NoPosition
  | 6, _, rfl => T.ks_Ended_BadQuestion
  | 7, _, rfl => T.ks_Ended_BadMarks
  | 8, _, rfl => T.ks_Ended_BadLadder
  | 9, _, rfl => T.ks_Ended_BadCount
  | 10, _, rfl => T.ks_Ended_BadRelation
  | 11, _, rfl => T.ks_Ended_BadPositions
  | 12, _, rfl => T.ks_Ended_NoFinal
  | 13, _, rfl => T.ks_Ended_NotReached
  | 14, _, rfl => T.ks_Ended_NoEnd
  | 15, _, rfl => T.ks_Ended_ZeroBottom
  | 16, _, rfl => T.ks_Ended_NoChance
  | 17, _, rfl => T.ks_Ended_BadChance
  | 18, _, rfl => T.ks_Ended_ZeroPolynomial
  | 19, _, rfl => T.ks_Ended_BadInterval
  | 20, _, rfl => T.ks_Ended_NoSkip
  | 21, _, rfl => T.ks_Ended_NotComing
  | 22, _, rfl => T.ks_Ended_NoPupils
  | 23, _, rfl => T.ks_Ended_BadLength
  | 24, _, rfl => T.ks_Ended_AlikePupils
  | 25, _, rfl => T.ks_Ended_BadLine
  | 26, _, rfl => T.kz_Ended
  | 27, _, rfl => T.ks_Ended_BadDeed
  | _ + 28, _, h => nomatch h
theorem kit_BadDeed (T : Txt K mg a) : ∀ (j : Nat) (C : Addr), (clsA a)[j]? = some C → PySem.W.kitOne K (.ref a.c_BadDeed) (.ref C) = some (decide (j = 27))
  | 0, _, rfl => T.ks_BadDeed_BadEnds
  | 1, _, rfl => T.ks_BadDeed_BadNode
  | 2, _, rfl => T.ks_BadDeed_BadStart
  | 3, _, rfl => T.ks_BadDeed_TwiceAsked
  | 4, _, rfl => T.ks_BadDeed_NoNode
  | 5, _, rfl => T.ks_BadDeed_NoPosition
  | 6, _, rfl => T.ks_BadDeed_BadQuestion
  | 7, _, rfl => T.ks_BadDeed_BadMarks
  | 8, _, rfl => T.ks_BadDeed_BadLadder
  | 9, _, rfl => T.ks_BadDeed_BadCount
  | 10, _, rfl => T.ks_BadDeed_BadRelation
  | 11, _, rfl => T.ks_BadDeed_BadPositions
  | 12, _, rfl => T.ks_BadDeed_NoFinal
  | 13, _, rfl => T.ks_BadDeed_NotReached
  | 14, _, rfl => T.ks_BadDeed_NoEnd
  | 15, _, rfl => T.ks_BadDeed_ZeroBottom
  | 16, _, rfl => T.ks_BadDeed_NoChance
  | 17, _, rfl => T.ks_BadDeed_BadChance
  | 18, _, rfl => T.ks_BadDeed_ZeroPolynomial
  | 19, _, rfl => T.ks_BadDeed_BadInterval
  | 20, _, rfl => T.ks_BadDeed_NoSkip
  | 21, _, rfl => T.ks_BadDeed_NotComing
  | 22, _, rfl => T.ks_BadDeed_NoPupils
  | 23, _, rfl => T.ks_BadDeed_BadLength
  | 24, _, rfl => T.ks_BadDeed_AlikePupils
  | 25, _, rfl => T.ks_BadDeed_BadLine
  | 26, _, rfl => T.ks_BadDeed_Ended
  | 27, _, rfl => T.kz_BadDeed
  | _ + 28, _, h => nomatch h
theorem kit_all (T : Txt K mg a) : ∀ (k : Nat) (C : Addr), (clsA a)[k]? = some C → ∀ (j : Nat) (C2 : Addr), (clsA a)[j]? = some C2 → PySem.W.kitOne K (.ref C) (.ref C2) = some (decide (j = k))
  | 0, _, rfl => kit_BadEnds T
  | 1, _, rfl => kit_BadNode T
  | 2, _, rfl => kit_BadStart T
  | 3, _, rfl => kit_TwiceAsked T
  | 4, _, rfl => kit_NoNode T
  | 5, _, rfl => kit_NoPosition T
  | 6, _, rfl => kit_BadQuestion T
  | 7, _, rfl => kit_BadMarks T
  | 8, _, rfl => kit_BadLadder T
  | 9, _, rfl => kit_BadCount T
  | 10, _, rfl => kit_BadRelation T
  | 11, _, rfl => kit_BadPositions T
  | 12, _, rfl => kit_NoFinal T
  | 13, _, rfl => kit_NotReached T
  | 14, _, rfl => kit_NoEnd T
  | 15, _, rfl => kit_ZeroBottom T
  | 16, _, rfl => kit_NoChance T
  | 17, _, rfl => kit_BadChance T
  | 18, _, rfl => kit_ZeroPolynomial T
  | 19, _, rfl => kit_BadInterval T
  | 20, _, rfl => kit_NoSkip T
  | 21, _, rfl => kit_NotComing T
  | 22, _, rfl => kit_NoPupils T
  | 23, _, rfl => kit_BadLength T
  | 24, _, rfl => kit_AlikePupils T
  | 25, _, rfl => kit_BadLine T
  | 26, _, rfl => kit_Ended T
  | 27, _, rfl => kit_BadDeed T
  | _ + 28, _, h => nomatch h
theorem ek_all (T : Txt K mg a) : ∀ (k : Nat) (C : Addr), (clsA a)[k]? = some C → PySem.W.ErrK K C
  | 0, _, rfl => T.ek_BadEnds
  | 1, _, rfl => T.ek_BadNode
  | 2, _, rfl => T.ek_BadStart
  | 3, _, rfl => T.ek_TwiceAsked
  | 4, _, rfl => T.ek_NoNode
  | 5, _, rfl => T.ek_NoPosition
  | 6, _, rfl => T.ek_BadQuestion
  | 7, _, rfl => T.ek_BadMarks
  | 8, _, rfl => T.ek_BadLadder
  | 9, _, rfl => T.ek_BadCount
  | 10, _, rfl => T.ek_BadRelation
  | 11, _, rfl => T.ek_BadPositions
  | 12, _, rfl => T.ek_NoFinal
  | 13, _, rfl => T.ek_NotReached
  | 14, _, rfl => T.ek_NoEnd
  | 15, _, rfl => T.ek_ZeroBottom
  | 16, _, rfl => T.ek_NoChance
  | 17, _, rfl => T.ek_BadChance
  | 18, _, rfl => T.ek_ZeroPolynomial
  | 19, _, rfl => T.ek_BadInterval
  | 20, _, rfl => T.ek_NoSkip
  | 21, _, rfl => T.ek_NotComing
  | 22, _, rfl => T.ek_NoPupils
  | 23, _, rfl => T.ek_BadLength
  | 24, _, rfl => T.ek_AlikePupils
  | 25, _, rfl => T.ek_BadLine
  | 26, _, rfl => T.ek_Ended
  | 27, _, rfl => T.ek_BadDeed
  | _ + 28, _, h => nomatch h
theorem kt_all (T : Txt K mg a) : ∀ (k : Nat) (C : Addr), (clsA a)[k]? = some C → PySem.W.kitOne K (.ref C) (.ref a.c_TestError) = some true
  | 0, _, rfl => T.kt_BadEnds
  | 1, _, rfl => T.kt_BadNode
  | 2, _, rfl => T.kt_BadStart
  | 3, _, rfl => T.kt_TwiceAsked
  | 4, _, rfl => T.kt_NoNode
  | 5, _, rfl => T.kt_NoPosition
  | 6, _, rfl => T.kt_BadQuestion
  | 7, _, rfl => T.kt_BadMarks
  | 8, _, rfl => T.kt_BadLadder
  | 9, _, rfl => T.kt_BadCount
  | 10, _, rfl => T.kt_BadRelation
  | 11, _, rfl => T.kt_BadPositions
  | 12, _, rfl => T.kt_NoFinal
  | 13, _, rfl => T.kt_NotReached
  | 14, _, rfl => T.kt_NoEnd
  | 15, _, rfl => T.kt_ZeroBottom
  | 16, _, rfl => T.kt_NoChance
  | 17, _, rfl => T.kt_BadChance
  | 18, _, rfl => T.kt_ZeroPolynomial
  | 19, _, rfl => T.kt_BadInterval
  | 20, _, rfl => T.kt_NoSkip
  | 21, _, rfl => T.kt_NotComing
  | 22, _, rfl => T.kt_NoPupils
  | 23, _, rfl => T.kt_BadLength
  | 24, _, rfl => T.kt_AlikePupils
  | 25, _, rfl => T.kt_BadLine
  | 26, _, rfl => T.kt_Ended
  | 27, _, rfl => T.kt_BadDeed
  | _ + 28, _, h => nomatch h
theorem kv_all (T : Txt K mg a) : ∀ (k : Nat) (C : Addr), (clsA a)[k]? = some C → PySem.W.kitOne K (.ref C) (.type "ValueError") = some true
  | 0, _, rfl => T.ks_BadEnds_ValueError
  | 1, _, rfl => T.ks_BadNode_ValueError
  | 2, _, rfl => T.ks_BadStart_ValueError
  | 3, _, rfl => T.ks_TwiceAsked_ValueError
  | 4, _, rfl => T.ks_NoNode_ValueError
  | 5, _, rfl => T.ks_NoPosition_ValueError
  | 6, _, rfl => T.ks_BadQuestion_ValueError
  | 7, _, rfl => T.ks_BadMarks_ValueError
  | 8, _, rfl => T.ks_BadLadder_ValueError
  | 9, _, rfl => T.ks_BadCount_ValueError
  | 10, _, rfl => T.ks_BadRelation_ValueError
  | 11, _, rfl => T.ks_BadPositions_ValueError
  | 12, _, rfl => T.ks_NoFinal_ValueError
  | 13, _, rfl => T.ks_NotReached_ValueError
  | 14, _, rfl => T.ks_NoEnd_ValueError
  | 15, _, rfl => T.ks_ZeroBottom_ValueError
  | 16, _, rfl => T.ks_NoChance_ValueError
  | 17, _, rfl => T.ks_BadChance_ValueError
  | 18, _, rfl => T.ks_ZeroPolynomial_ValueError
  | 19, _, rfl => T.ks_BadInterval_ValueError
  | 20, _, rfl => T.ks_NoSkip_ValueError
  | 21, _, rfl => T.ks_NotComing_ValueError
  | 22, _, rfl => T.ks_NoPupils_ValueError
  | 23, _, rfl => T.ks_BadLength_ValueError
  | 24, _, rfl => T.ks_AlikePupils_ValueError
  | 25, _, rfl => T.ks_BadLine_ValueError
  | 26, _, rfl => T.ks_Ended_ValueError
  | 27, _, rfl => T.ks_BadDeed_ValueError
  | _ + 28, _, h => nomatch h
theorem ok_l_made (T : Txt K mg a) : FnOk P w K mg base CX0 4 a.f_l_made a.d_l_made P_l_made (spMade K a 0 28) := by
  refine T.F_l_made.ok sc_l_made (fun vs H Q E h => ?_) (fun cdv A outer s0 H vs Q E hr h => ?_)
  · obtain ⟨s, kk, n, w, l, rfl, _⟩ := h
    rfl
  · obtain ⟨s, kk, n, w, l, rfl, k0, k1, Bn, Bn3, hw, hwo, hs, hl, hb, k⟩ := h
    refine ⟨_, (pss_cons (ps_if (pt_cmpR op_lt (pv 0) pe_int (nomark _))
    (pss_one (ps_ret (pe_call (ok_l_first T) (hr.mono (by decide)) (by rfl) T.g_l_first T.k_l_first T.b_l_first .nil pass0 (pa_cons (pv 0) (pa_cons (pv 1) (pa_cons (pv 2) (pa_cons (pv 3) pa_nil)))))))
    pss_nil)
  (pss_cons (ps_if (pt_cmpR op_lt (pv 0) pe_int (nomark _))
    (pss_one (ps_ret (pe_call (ok_l_second T) (hr.mono (by decide)) (by rfl) T.g_l_second T.k_l_second T.b_l_second .nil pass0 (pa_cons (pv 0) (pa_cons (pv 1) (pa_cons (pv 2) (pa_cons (pv 3) pa_nil)))))))
    pss_nil)
  (pss_one (ps_ret (pe_call (ok_l_third T) (hr.mono (by decide)) (by rfl) T.g_l_third T.k_l_third T.b_l_third .nil pass0 (pa_cons (pv 0) (pa_cons (pv 1) (pa_cons (pv 2) (pa_cons (pv 3) pa_nil))))))))), ?_⟩
    refine ⟨_, rfl, _, _, rfl, rfl, _, rfl, ?_⟩
    by_cases h1 : kk < 10
    · rw [decide_eq_true (by omega : (kk : Int) < 10)]
      exact iteT ⟨_, rfl, _, rfl, _, rfl, _, rfl, s, kk, n, w, l, rfl, by omega, h1, Bn, Bn3, hw, hwo, hs, hl, hb, k⟩
    · rw [decide_eq_false (by omega : ¬ (kk : Int) < 10)]
      refine iteF ⟨_, rfl, _, _, rfl, rfl, _, rfl, ?_⟩
      by_cases h2 : kk < 20
      · rw [decide_eq_true (by omega : (kk : Int) < 20)]
        exact iteT ⟨_, rfl, _, rfl, _, rfl, _, rfl, s, kk, n, w, l, rfl, by omega, h2, Bn, Bn3, hw, hwo, hs, hl, hb, k⟩
      · rw [decide_eq_false (by omega : ¬ (kk : Int) < 20)]
        exact iteF ⟨_, rfl, _, rfl, _, rfl, _, rfl, s, kk, n, w, l, rfl, by omega, k1, Bn, Bn3, hw, hwo, hs, hl, hb, k⟩
def spKinds (a : Ad) : Sp := fun vs H Q _ => ∃ (b C : Addr) (d : Option Addr) (k : Nat), vs = [.ref b] ∧ H b = some (ErO (.ref C) d b) ∧ (∀ dd, d = some dd → ∃ fs, H dd = some (.xd fs)) ∧ (clsA a)[k]? = some C ∧
  ∀ H' D, Same H H' → H' D = some (.lst ((List.range 28).map fun j => V.bl (decide (j = k)))) → Q (.ref D) H'
theorem ok_l_kinds (T : Txt K mg a) : FnOk P w K mg base CX0 2 a.f_l_kinds a.d_l_kinds P_l_kinds (spKinds a) := by
  refine T.F_l_kinds.ok sc_l_kinds (fun vs H Q E h => ?_) (fun cdv A outer s H vs Q E hr h => ?_)
  · obtain ⟨b, C, d, k, rfl, _⟩ := h
    rfl
  · obtain ⟨b, C, d, kk, rfl, hE, hd, hC, k⟩ := h
    refine ⟨_, (Evl.pss_cut (ps_set (i := 1) sc_l_kinds.nd rfl (Or.inl rfl) (pe_lst pa_nil))
  (Evl.pss_cut (ps_set (i := 1) sc_l_kinds.nd rfl (Or.inl rfl) (pe_op op_cat (pv 1) (pe_lst (pa_cons (pe_callB call_isEv (by rfl) T.z_isinstance (by decide +kernel) (pa_cons (pv 0) (pa_cons (pe_glob (v := .ref a.c_BadEnds) (by rfl) T.g_BadEnds rfl) pa_nil))) (pa_cons (pe_callB call_isEv (by rfl) T.z_isinstance (by decide +kernel) (pa_cons (pv 0) (pa_cons (pe_glob (v := .ref a.c_BadNode) (by rfl) T.g_BadNode rfl) pa_nil))) (pa_cons (pe_callB call_isEv (by rfl) T.z_isinstance (by decide +kernel) (pa_cons (pv 0) (pa_cons (pe_glob (v := .ref a.c_BadStart) (by rfl) T.g_BadStart rfl) pa_nil))) pa_nil))))))
  (Evl.pss_cut (ps_set (i := 1) sc_l_kinds.nd rfl (Or.inl rfl) (pe_op op_cat (pv 1) (pe_lst (pa_cons (pe_callB call_isEv (by rfl) T.z_isinstance (by decide +kernel) (pa_cons (pv 0) (pa_cons (pe_glob (v := .ref a.c_TwiceAsked) (by rfl) T.g_TwiceAsked rfl) pa_nil))) (pa_cons (pe_callB call_isEv (by rfl) T.z_isinstance (by decide +kernel) (pa_cons (pv 0) (pa_cons (pe_glob (v := .ref a.c_NoNode) (by rfl) T.g_NoNode rfl) pa_nil))) (pa_cons (pe_callB call_isEv (by rfl) T.z_isinstance (by decide +kernel) (pa_cons (pv 0) (pa_cons (pe_glob (v := .ref a.c_NoPosition) (by rfl) T.g_NoPosition rfl) pa_nil))) pa_nil))))))
  (Evl.pss_cut (ps_set (i := 1) sc_l_kinds.nd rfl (Or.inl rfl) (pe_op op_cat (pv 1) (pe_lst (pa_cons (pe_callB call_isEv (by rfl) T.z_isinstance (by decide +kernel) (pa_cons (pv 0) (pa_cons (pe_glob (v := .ref a.c_BadQuestion) (by rfl) T.g_BadQuestion rfl) pa_nil))) (pa_cons (pe_callB call_isEv (by rfl) T.z_isinstance (by decide +kernel) (pa_cons (pv 0) (pa_cons (pe_glob (v := .ref a.c_BadMarks) (by rfl) T.g_BadMarks rfl) pa_nil))) (pa_cons (pe_callB call_isEv (by rfl) T.z_isinstance (by decide +kernel) (pa_cons (pv 0) (pa_cons (pe_glob (v := .ref a.c_BadLadder) (by rfl) T.g_BadLadder rfl) pa_nil))) pa_nil))))))
  (Evl.pss_cut (ps_set (i := 1) sc_l_kinds.nd rfl (Or.inl rfl) (pe_op op_cat (pv 1) (pe_lst (pa_cons (pe_callB call_isEv (by rfl) T.z_isinstance (by decide +kernel) (pa_cons (pv 0) (pa_cons (pe_glob (v := .ref a.c_BadCount) (by rfl) T.g_BadCount rfl) pa_nil))) (pa_cons (pe_callB call_isEv (by rfl) T.z_isinstance (by decide +kernel) (pa_cons (pv 0) (pa_cons (pe_glob (v := .ref a.c_BadRelation) (by rfl) T.g_BadRelation rfl) pa_nil))) (pa_cons (pe_callB call_isEv (by rfl) T.z_isinstance (by decide +kernel) (pa_cons (pv 0) (pa_cons (pe_glob (v := .ref a.c_BadPositions) (by rfl) T.g_BadPositions rfl) pa_nil))) pa_nil))))))
  (Evl.pss_cut (ps_set (i := 1) sc_l_kinds.nd rfl (Or.inl rfl) (pe_op op_cat (pv 1) (pe_lst (pa_cons (pe_callB call_isEv (by rfl) T.z_isinstance (by decide +kernel) (pa_cons (pv 0) (pa_cons (pe_glob (v := .ref a.c_NoFinal) (by rfl) T.g_NoFinal rfl) pa_nil))) (pa_cons (pe_callB call_isEv (by rfl) T.z_isinstance (by decide +kernel) (pa_cons (pv 0) (pa_cons (pe_glob (v := .ref a.c_NotReached) (by rfl) T.g_NotReached rfl) pa_nil))) (pa_cons (pe_callB call_isEv (by rfl) T.z_isinstance (by decide +kernel) (pa_cons (pv 0) (pa_cons (pe_glob (v := .ref a.c_NoEnd) (by rfl) T.g_NoEnd rfl) pa_nil))) pa_nil))))))
  (Evl.pss_cut (ps_set (i := 1) sc_l_kinds.nd rfl (Or.inl rfl) (pe_op op_cat (pv 1) (pe_lst (pa_cons (pe_callB call_isEv (by rfl) T.z_isinstance (by decide +kernel) (pa_cons (pv 0) (pa_cons (pe_glob (v := .ref a.c_ZeroBottom) (by rfl) T.g_ZeroBottom rfl) pa_nil))) (pa_cons (pe_callB call_isEv (by rfl) T.z_isinstance (by decide +kernel) (pa_cons (pv 0) (pa_cons (pe_glob (v := .ref a.c_NoChance) (by rfl) T.g_NoChance rfl) pa_nil))) (pa_cons (pe_callB call_isEv (by rfl) T.z_isinstance (by decide +kernel) (pa_cons (pv 0) (pa_cons (pe_glob (v := .ref a.c_BadChance) (by rfl) T.g_BadChance rfl) pa_nil))) pa_nil))))))
  (Evl.pss_cut (ps_set (i := 1) sc_l_kinds.nd rfl (Or.inl rfl) (pe_op op_cat (pv 1) (pe_lst (pa_cons (pe_callB call_isEv (by rfl) T.z_isinstance (by decide +kernel) (pa_cons (pv 0) (pa_cons (pe_glob (v := .ref a.c_ZeroPolynomial) (by rfl) T.g_ZeroPolynomial rfl) pa_nil))) (pa_cons (pe_callB call_isEv (by rfl) T.z_isinstance (by decide +kernel) (pa_cons (pv 0) (pa_cons (pe_glob (v := .ref a.c_BadInterval) (by rfl) T.g_BadInterval rfl) pa_nil))) (pa_cons (pe_callB call_isEv (by rfl) T.z_isinstance (by decide +kernel) (pa_cons (pv 0) (pa_cons (pe_glob (v := .ref a.c_NoSkip) (by rfl) T.g_NoSkip rfl) pa_nil))) pa_nil))))))
  (Evl.pss_cut (ps_set (i := 1) sc_l_kinds.nd rfl (Or.inl rfl) (pe_op op_cat (pv 1) (pe_lst (pa_cons (pe_callB call_isEv (by rfl) T.z_isinstance (by decide +kernel) (pa_cons (pv 0) (pa_cons (pe_glob (v := .ref a.c_NotComing) (by rfl) T.g_NotComing rfl) pa_nil))) (pa_cons (pe_callB call_isEv (by rfl) T.z_isinstance (by decide +kernel) (pa_cons (pv 0) (pa_cons (pe_glob (v := .ref a.c_NoPupils) (by rfl) T.g_NoPupils rfl) pa_nil))) (pa_cons (pe_callB call_isEv (by rfl) T.z_isinstance (by decide +kernel) (pa_cons (pv 0) (pa_cons (pe_glob (v := .ref a.c_BadLength) (by rfl) T.g_BadLength rfl) pa_nil))) pa_nil))))))
  (Evl.pss_cut (ps_set (i := 1) sc_l_kinds.nd rfl (Or.inl rfl) (pe_op op_cat (pv 1) (pe_lst (pa_cons (pe_callB call_isEv (by rfl) T.z_isinstance (by decide +kernel) (pa_cons (pv 0) (pa_cons (pe_glob (v := .ref a.c_AlikePupils) (by rfl) T.g_AlikePupils rfl) pa_nil))) (pa_cons (pe_callB call_isEv (by rfl) T.z_isinstance (by decide +kernel) (pa_cons (pv 0) (pa_cons (pe_glob (v := .ref a.c_BadLine) (by rfl) T.g_BadLine rfl) pa_nil))) (pa_cons (pe_callB call_isEv (by rfl) T.z_isinstance (by decide +kernel) (pa_cons (pv 0) (pa_cons (pe_glob (v := .ref a.c_Ended) (by rfl) T.g_Ended rfl) pa_nil))) pa_nil))))))
  (Evl.pss_cut (ps_set (i := 1) sc_l_kinds.nd rfl (Or.inl rfl) (pe_op op_cat (pv 1) (pe_lst (pa_cons (pe_callB call_isEv (by rfl) T.z_isinstance (by decide +kernel) (pa_cons (pv 0) (pa_cons (pe_glob (v := .ref a.c_BadDeed) (by rfl) T.g_BadDeed rfl) pa_nil))) pa_nil))))
  (pss_one (ps_ret (pv 1)))))))))))))), ?_⟩
    have hk := kit_all T kk C hC
    have ek := ek_all T kk C hC
    have hdd : ∀ {H'}, Same H H' → ∀ dd, d = some dd → ∃ fs, H' dd = some (.xd fs) := fun f dd e => let ⟨fs, h⟩ := hd dd e; ⟨fs, f _ _ h⟩
    let z : Nat → V := fun j => V.bl (decide (j = kk))
    refine ⟨fun σ H1 => ∃ D, σ = [some (.ref b), some (.ref D)] ∧ Same H H1 ∧ H1 D = some (.lst []), ⟨by show 0 ≤ sizeLine; decide, fun D nD => ⟨D, rfl, same_upd nD, upd_same⟩⟩, ?_⟩
    rintro σ H0 ⟨D, rfl, f, hD⟩
    refine ⟨fun σ H1 => ∃ D, σ = [some (.ref b), some (.ref D)] ∧ Same H H1 ∧ H1 D = some (.lst [z 0, z 1, z 2]), ?_, ?_⟩
    · refine ⟨_, rfl, _, rfl, b, C, d, _, _, _, f _ _ hE, hdd f, ek, rfl, .own _, hk 0 _ rfl, _, rfl, b, C, d, _, _, _, f _ _ hE, hdd f, ek, rfl, .own _, hk 1 _ rfl, _, rfl, b, C, d, _, _, _, f _ _ hE, hdd f, ek, rfl, .own _, hk 2 _ rfl, by show 3 ≤ sizeLine; decide, fun t nt => ?_⟩
      have ft := same_upd nt (o := .lst [z 0, z 1, z 2])
      have hD' := ft _ _ hD
      exact ⟨D, t, _, _, rfl, rfl, hD', upd_same, by show 0 + 3 ≤ sizeLine; decide, fun p np => ⟨p, rfl, (f.trans ft).trans (same_upd np), upd_same⟩⟩
    clear hD
    rintro σ H0 ⟨D, rfl, f, hD⟩
    refine ⟨fun σ H1 => ∃ D, σ = [some (.ref b), some (.ref D)] ∧ Same H H1 ∧ H1 D = some (.lst [z 0, z 1, z 2, z 3, z 4, z 5]), ?_, ?_⟩
    · refine ⟨_, rfl, _, rfl, b, C, d, _, _, _, f _ _ hE, hdd f, ek, rfl, .own _, hk 3 _ rfl, _, rfl, b, C, d, _, _, _, f _ _ hE, hdd f, ek, rfl, .own _, hk 4 _ rfl, _, rfl, b, C, d, _, _, _, f _ _ hE, hdd f, ek, rfl, .own _, hk 5 _ rfl, by show 3 ≤ sizeLine; decide, fun t nt => ?_⟩
      have ft := same_upd nt (o := .lst [z 3, z 4, z 5])
      have hD' := ft _ _ hD
      exact ⟨D, t, _, _, rfl, rfl, hD', upd_same, by show 3 + 3 ≤ sizeLine; decide, fun p np => ⟨p, rfl, (f.trans ft).trans (same_upd np), upd_same⟩⟩
    clear hD
    rintro σ H0 ⟨D, rfl, f, hD⟩
    refine ⟨fun σ H1 => ∃ D, σ = [some (.ref b), some (.ref D)] ∧ Same H H1 ∧ H1 D = some (.lst [z 0, z 1, z 2, z 3, z 4, z 5, z 6, z 7, z 8]), ?_, ?_⟩
    · refine ⟨_, rfl, _, rfl, b, C, d, _, _, _, f _ _ hE, hdd f, ek, rfl, .own _, hk 6 _ rfl, _, rfl, b, C, d, _, _, _, f _ _ hE, hdd f, ek, rfl, .own _, hk 7 _ rfl, _, rfl, b, C, d, _, _, _, f _ _ hE, hdd f, ek, rfl, .own _, hk 8 _ rfl, by show 3 ≤ sizeLine; decide, fun t nt => ?_⟩
      have ft := same_upd nt (o := .lst [z 6, z 7, z 8])
      have hD' := ft _ _ hD
      exact ⟨D, t, _, _, rfl, rfl, hD', upd_same, by show 6 + 3 ≤ sizeLine; decide, fun p np => ⟨p, rfl, (f.trans ft).trans (same_upd np), upd_same⟩⟩
    clear hD
    rintro σ H0 ⟨D, rfl, f, hD⟩
    refine ⟨fun σ H1 => ∃ D, σ = [some (.ref b), some (.ref D)] ∧ Same H H1 ∧ H1 D = some (.lst [z 0, z 1, z 2, z 3, z 4, z 5, z 6, z 7, z 8, z 9, z 10, z 11]), ?_, ?_⟩
    · refine ⟨_, rfl, _, rfl, b, C, d, _, _, _, f _ _ hE, hdd f, ek, rfl, .own _, hk 9 _ rfl, _, rfl, b, C, d, _, _, _, f _ _ hE, hdd f, ek, rfl, .own _, hk 10 _ rfl, _, rfl, b, C, d, _, _, _, f _ _ hE, hdd f, ek, rfl, .own _, hk 11 _ rfl, by show 3 ≤ sizeLine; decide, fun t nt => ?_⟩
      have ft := same_upd nt (o := .lst [z 9, z 10, z 11])
      have hD' := ft _ _ hD
      exact ⟨D, t, _, _, rfl, rfl, hD', upd_same, by show 9 + 3 ≤ sizeLine; decide, fun p np => ⟨p, rfl, (f.trans ft).trans (same_upd np), upd_same⟩⟩
    clear hD
    rintro σ H0 ⟨D, rfl, f, hD⟩
    refine ⟨fun σ H1 => ∃ D, σ = [some (.ref b), some (.ref D)] ∧ Same H H1 ∧ H1 D = some (.lst [z 0, z 1, z 2, z 3, z 4, z 5, z 6, z 7, z 8, z 9, z 10, z 11, z 12, z 13, z 14]), ?_, ?_⟩
    · refine ⟨_, rfl, _, rfl, b, C, d, _, _, _, f _ _ hE, hdd f, ek, rfl, .own _, hk 12 _ rfl, _, rfl, b, C, d, _, _, _, f _ _ hE, hdd f, ek, rfl, .own _, hk 13 _ rfl, _, rfl, b, C, d, _, _, _, f _ _ hE, hdd f, ek, rfl, .own _, hk 14 _ rfl, by show 3 ≤ sizeLine; decide, fun t nt => ?_⟩
      have ft := same_upd nt (o := .lst [z 12, z 13, z 14])
      have hD' := ft _ _ hD
      exact ⟨D, t, _, _, rfl, rfl, hD', upd_same, by show 12 + 3 ≤ sizeLine; decide, fun p np => ⟨p, rfl, (f.trans ft).trans (same_upd np), upd_same⟩⟩
    clear hD
    rintro σ H0 ⟨D, rfl, f, hD⟩
    refine ⟨fun σ H1 => ∃ D, σ = [some (.ref b), some (.ref D)] ∧ Same H H1 ∧ H1 D = some (.lst [z 0, z 1, z 2, z 3, z 4, z 5, z 6, z 7, z 8, z 9, z 10, z 11, z 12, z 13, z 14, z 15, z 16, z 17]), ?_, ?_⟩
    · refine ⟨_, rfl, _, rfl, b, C, d, _, _, _, f _ _ hE, hdd f, ek, rfl, .own _, hk 15 _ rfl, _, rfl, b, C, d, _, _, _, f _ _ hE, hdd f, ek, rfl, .own _, hk 16 _ rfl, _, rfl, b, C, d, _, _, _, f _ _ hE, hdd f, ek, rfl, .own _, hk 17 _ rfl, by show 3 ≤ sizeLine; decide, fun t nt => ?_⟩
      have ft := same_upd nt (o := .lst [z 15, z 16, z 17])
      have hD' := ft _ _ hD
      exact ⟨D, t, _, _, rfl, rfl, hD', upd_same, by show 15 + 3 ≤ sizeLine; decide, fun p np => ⟨p, rfl, (f.trans ft).trans (same_upd np), upd_same⟩⟩
    clear hD
    rintro σ H0 ⟨D, rfl, f, hD⟩
    refine ⟨fun σ H1 => ∃ D, σ = [some (.ref b), some (.ref D)] ∧ Same H H1 ∧ H1 D = some (.lst [z 0, z 1, z 2, z 3, z 4, z 5, z 6, z 7, z 8, z 9, z 10, z 11, z 12, z 13, z 14, z 15, z 16, z 17, z 18, z 19, z 20]), ?_, ?_⟩
    · refine ⟨_, rfl, _, rfl, b, C, d, _, _, _, f _ _ hE, hdd f, ek, rfl, .own _, hk 18 _ rfl, _, rfl, b, C, d, _, _, _, f _ _ hE, hdd f, ek, rfl, .own _, hk 19 _ rfl, _, rfl, b, C, d, _, _, _, f _ _ hE, hdd f, ek, rfl, .own _, hk 20 _ rfl, by show 3 ≤ sizeLine; decide, fun t nt => ?_⟩
      have ft := same_upd nt (o := .lst [z 18, z 19, z 20])
      have hD' := ft _ _ hD
      exact ⟨D, t, _, _, rfl, rfl, hD', upd_same, by show 18 + 3 ≤ sizeLine; decide, fun p np => ⟨p, rfl, (f.trans ft).trans (same_upd np), upd_same⟩⟩
    clear hD
    rintro σ H0 ⟨D, rfl, f, hD⟩
    refine ⟨fun σ H1 => ∃ D, σ = [some (.ref b), some (.ref D)] ∧ Same H H1 ∧ H1 D = some (.lst [z 0, z 1, z 2, z 3, z 4, z 5, z 6, z 7, z 8, z 9, z 10, z 11, z 12, z 13, z 14, z 15, z 16, z 17, z 18, z 19, z 20, z 21, z 22, z 23]), ?_, ?_⟩
    · refine ⟨_, rfl, _, rfl, b, C, d, _, _, _, f _ _ hE, hdd f, ek, rfl, .own _, hk 21 _ rfl, _, rfl, b, C, d, _, _, _, f _ _ hE, hdd f, ek, rfl, .own _, hk 22 _ rfl, _, rfl, b, C, d, _, _, _, f _ _ hE, hdd f, ek, rfl, .own _, hk 23 _ rfl, by show 3 ≤ sizeLine; decide, fun t nt => ?_⟩
      have ft := same_upd nt (o := .lst [z 21, z 22, z 23])
      have hD' := ft _ _ hD
      exact ⟨D, t, _, _, rfl, rfl, hD', upd_same, by show 21 + 3 ≤ sizeLine; decide, fun p np => ⟨p, rfl, (f.trans ft).trans (same_upd np), upd_same⟩⟩
    clear hD
    rintro σ H0 ⟨D, rfl, f, hD⟩
    refine ⟨fun σ H1 => ∃ D, σ = [some (.ref b), some (.ref D)] ∧ Same H H1 ∧ H1 D = some (.lst [z 0, z 1, z 2, z 3, z 4, z 5, z 6, z 7, z 8, z 9, z 10, z 11, z 12, z 13, z 14, z 15, z 16, z 17, z 18, z 19, z 20, z 21, z 22, z 23, z 24, z 25, z 26]), ?_, ?_⟩
    · refine ⟨_, rfl, _, rfl, b, C, d, _, _, _, f _ _ hE, hdd f, ek, rfl, .own _, hk 24 _ rfl, _, rfl, b, C, d, _, _, _, f _ _ hE, hdd f, ek, rfl, .own _, hk 25 _ rfl, _, rfl, b, C, d, _, _, _, f _ _ hE, hdd f, ek, rfl, .own _, hk 26 _ rfl, by show 3 ≤ sizeLine; decide, fun t nt => ?_⟩
      have ft := same_upd nt (o := .lst [z 24, z 25, z 26])
      have hD' := ft _ _ hD
      exact ⟨D, t, _, _, rfl, rfl, hD', upd_same, by show 24 + 3 ≤ sizeLine; decide, fun p np => ⟨p, rfl, (f.trans ft).trans (same_upd np), upd_same⟩⟩
    clear hD
    rintro σ H0 ⟨D, rfl, f, hD⟩
    refine ⟨fun σ H1 => ∃ D, σ = [some (.ref b), some (.ref D)] ∧ Same H H1 ∧ H1 D = some (.lst [z 0, z 1, z 2, z 3, z 4, z 5, z 6, z 7, z 8, z 9, z 10, z 11, z 12, z 13, z 14, z 15, z 16, z 17, z 18, z 19, z 20, z 21, z 22, z 23, z 24, z 25, z 26, z 27]), ?_, ?_⟩
    · refine ⟨_, rfl, _, rfl, b, C, d, _, _, _, f _ _ hE, hdd f, ek, rfl, .own _, hk 27 _ rfl, by show 1 ≤ sizeLine; decide, fun t nt => ?_⟩
      have ft := same_upd nt (o := .lst [z 27])
      have hD' := ft _ _ hD
      exact ⟨D, t, _, _, rfl, rfl, hD', upd_same, by show 27 + 1 ≤ sizeLine; decide, fun p np => ⟨p, rfl, (f.trans ft).trans (same_upd np), upd_same⟩⟩
    clear hD
    rintro σ H0 ⟨D, rfl, f, hD⟩
    exact ⟨_, rfl, k H0 D f hD⟩
end
end K84
namespace K84
open PySem PySem.Spec PyProof.Rows L2 Gg TL HotX L2H RZ
section
variable {P : Program} {w : World} {K : PySem.W.Frag} {mg : Str → Option Value} {base : Heap} {a : Ad}
def sp_law (K : PySem.W.Frag) : Sp := fun vs H Q _ => ∃ (x : Addr) (ns : List Int), vs = [.ref x] ∧ ScrAt K H x (ns.map V.int) ∧ ns.length ≤ 63 ∧ ∀ H', Q (.bl true) H'
theorem ok_law (T : Txt K mg a) : FnOk P w K mg base CX0 6 a.f_law a.d_law P_law (sp_law K) := by
  refine T.F_law.ok sc_law (fun vs H Q E h => ?_) (fun cdv A outer s0 H vs Q E hr h => ?_)
  · obtain ⟨x, ns, rfl, _⟩ := h
    rfl
  · obtain ⟨x, ns, rfl, hx, hl, k⟩ := h
    refine ⟨_, (Evl.pss_cut (ps_set (i := 1) sc_law.nd rfl (Or.inr rfl) (pe_call (ok_l_pool T) (hr.mono (by decide)) (by rfl) T.g_l_pool T.k_l_pool T.b_l_pool .nil pass0 (pa_cons (pv 0) pa_nil)))
  (Evl.pss_cut (ps_for PassesOwn.never rfl (pi_range1 (by rfl) T.z_range (pa_cons pe_int pa_nil)) (pg_name (i := 2) sc_law.nd rfl (Or.inr rfl))
    (Evl.pss_cut (ps_set (i := 3) sc_law.nd rfl (Or.inl rfl) (pe_op op_add (pe_op op_sub (pe_call (ok_l_draw T) (hr.mono (by decide)) (by rfl) T.g_l_draw T.k_l_draw T.b_l_draw .nil pass0 (pa_cons (pv 1) (pa_cons (pe_op op_sub (pe_op op_mul pe_int (pe_op op_pow pe_int pe_int)) pe_int) pa_nil))) (pe_op op_pow pe_int pe_int)) pe_int))
  (Evl.pss_cut (ps_set (i := 4) sc_law.nd rfl (Or.inl rfl) (pe_callTy call_tuple_of (by rfl) T.z_tuple (by decide +kernel) (pa_cons (pe_lc (own := [("_law_at", 9)]) (g := gName 9) (tt := tYes) (te := (tCall (spDraw K) [] E0 (tCons (tVar 1) (tCons (tOp (rI CPow fun i j => .int (i ^ j.toNat)) (tC (.int 10)) (tC (.int 30))) tNil)))) rfl sc_law.nd (pi_range1 (by rfl) T.z_range (pa_cons (pe_call (ok_l_draw T) (hr.mono (by decide)) (by rfl) T.g_l_draw T.k_l_draw T.b_l_draw .nil pass0 (pa_cons (pv 1) (pa_cons pe_int pa_nil))) pa_nil)) (blkOk_by (N := N_law) (sc := defScope s_law) (by decide +kernel)) (fun _ _ _ _ _ => pg_name (i := 9) sc_law.nd rfl (Or.inl rfl)) (fun _ _ _ _ _ => pts_nil) (fun _ _ _ _ _ => by exact (pe_call (ok_l_draw T) (hr.mono (by decide)) (by rfl) T.g_l_draw T.k_l_draw T.b_l_draw .nil pass0 (pa_cons (pv 1) (pa_cons (pe_op op_pow pe_int pe_int) pa_nil))))) pa_nil)))
  (Evl.pss_cut (ps_set (i := 5) sc_law.nd rfl (Or.inl rfl) (pe_ix ix_list (pe_lst (pa_cons pe_str (pa_cons pe_str (pa_cons pe_str (pa_cons pe_str (pa_cons pe_str (pa_cons pe_str pa_nil))))))) (pe_call (ok_l_draw T) (hr.mono (by decide)) (by rfl) T.g_l_draw T.k_l_draw T.b_l_draw .nil pass0 (pa_cons (pv 1) (pa_cons pe_int pa_nil))) (by intro _ _; rfl)))
  (Evl.pss_cut (ps_asg (pe_call (ok_l_made T) (hr.mono (by decide)) (by rfl) T.g_l_made T.k_l_made T.b_l_made .nil pass0 (pa_cons (pv 2) (pa_cons (pv 3) (pa_cons (pv 4) (pa_cons (pv 5) pa_nil))))) (pg_tup rfl (pgs_cons (pg_name (i := 6) sc_law.nd rfl (Or.inl rfl)) (pgs_cons (pg_name (i := 7) sc_law.nd rfl (Or.inl rfl)) (pgs_cons (pg_name (i := 8) sc_law.nd rfl (Or.inl rfl)) pgs_nil)))))
  (Evl.pss_cut (ps_if (PW.pt (pw_or (pt_cmpR (op_neD hr.units) (pv 7) (pv 8) (nomark _)) (pw_or (pt_not (pt_val (pe_callB call_isEv (by rfl) T.z_isinstance (by decide +kernel) (pa_cons (pv 6) (pa_cons (pe_glob (v := .ref a.c_TestError) (by rfl) T.g_TestError rfl) pa_nil))))) (pw_or1 (pt_not (pt_val (pe_callB call_isEv (by rfl) T.z_isinstance (by decide +kernel) (pa_cons (pv 6) (pa_cons (pe_bltn (v := .ty "ValueError") (by rfl) T.z_ValueError (by decide +kernel) rfl) pa_nil)))))))))
    (pss_one (ps_ret pe_bl))
    pss_nil)
  (pss_one (ps_if (pt_cmpR (op_neD hr.units) (pe_call (ok_l_kinds T) (hr.mono (by decide)) (by rfl) T.g_l_kinds T.k_l_kinds T.b_l_kinds .nil pass0 (pa_cons (pv 6) pa_nil)) (pe_lc (own := [("_law_at", 9)]) (g := gName 9) (tt := tYes) (te := (tOp rEq (tVar 9) (tVar 2))) rfl sc_law.nd (pi_range1 (by rfl) T.z_range (pa_cons pe_int pa_nil)) (blkOk_by (N := N_law) (sc := defScope s_law) (by decide +kernel)) (fun _ _ _ _ _ => pg_name (i := 9) sc_law.nd rfl (Or.inl rfl)) (fun _ _ _ _ _ => pts_nil) (fun _ _ _ _ _ => by exact (pe_cmpR op_eq (pv 9) (pv 2) (nomark _)))) (nomark _))
    (pss_one (ps_ret pe_bl))
    pss_nil))))))))
  (pss_one (ps_ret pe_bl)))), ?_⟩
    refine ⟨fun σ H1 => ∃ p, σ = [some (.ref x), some (.ref p), none, none, none, none, none, none, none, none] ∧ PoolOk K p 0 H1, ⟨_, rfl, x, ns, rfl, hx, fun p H1 np f1 hp => ⟨p, rfl, hp⟩⟩, ?_⟩
    rintro σ H1 ⟨p, rfl, hp⟩
    have p30 : (10 : Int) ^ (30 : Int).toNat = 1000000000000000000000000000000 := by decide
    have hLIM : 300 < LIM := by decide
    refine ⟨fun σ H2 => True, ?_, ?_⟩
    · refine ⟨_, rfl, by decide, by decide, ?_⟩
      refine for_range (lo := 0) (n := 28) (fun i σ H2 => ∃ v2 v3 v4 v5 v6 v7 v8, σ = [some (.ref x), some (.ref p), v2, v3, v4, v5, v6, v7, v8, none] ∧ PoolOk K p (10 * i) H2) ⟨_, _, _, _, _, _, _, rfl, hp⟩ ?_ ?_
      · rintro i σ H2 hi ⟨v2, v3, v4, v5, v6, v7, v8, rfl, p2⟩
        have e0 : (0 : Int) + ((i : Nat) : Int) = (i : Int) := Int.zero_add _
        rw [e0]
        have bdd : ∀ z : Int, -2000000000000000000000000000000 < z → z < 2000000000000000000000000000000 → Bd z := fun z h1 h2 => by
          unfold Bd
          exact Nat.lt_of_lt_of_le (show z.natAbs < 2 ^ 101 by omega) (Nat.pow_le_pow_right (by decide) (by decide))
        refine ⟨fun σ H3 => ∃ n : Int, σ = [some (.ref x), some (.ref p), some (.int (i : Int)), some (.int n), v4, v5, v6, v7, v8, none] ∧ -1000000000000000000000000000000 < n ∧ n < 1000000000000000000000000000000 ∧ PoolOk K p (10 * i + 1) H3, ?_, ?_⟩
        · refine ⟨_, rfl, _, _, rfl, rfl, ⟨by decide, by decide, by decide⟩, _, _, rfl, rfl, .inl ⟨by decide, by decide⟩, _, _, rfl, rfl, p, 10 * i, _, rfl, p2, by omega, by decide, by decide, fun H3 r g3 p3 r0 r1 => ?_⟩
          rw [p30] at r1
          refine ⟨_, _, rfl, rfl, ⟨by decide, by decide, by decide⟩, _, _, rfl, rfl, _, _, rfl, rfl, _, rfl, ?_, ?_, p3⟩
          · rw [p30]; omega
          · rw [p30]; omega
        rintro σ H3 ⟨n, rfl, n0, n1, p3⟩
        have Bn := bdd n (by omega) (by omega)
        have Bn3 := bdd (n / 3) (by omega) (by omega)
        refine ⟨fun σ H4 => ∃ (s : Addr) (l : List Int), σ = [some (.ref x), some (.ref p), some (.int (i : Int)), some (.int n), some (.ref s), v5, v6, v7, v8, none] ∧ H4 s = some (.tup (l.map V.int)) ∧ l.length ≤ 3 ∧ (∀ z ∈ l, Bd z) ∧ PoolOk K p (10 * i + 7) H4, ?_, ?_⟩
        · refine ⟨_, rfl, p, 10 * i + 1, 4, rfl, p3, by omega, by decide, by decide, fun H4 r g4 p4 r0 r1 => ⟨r, rfl, by omega, by omega, fun D nD => ?_⟩⟩
          refine lc_range (lo := 0) (n := r.toNat) (fun j H5 => PoolOk K p (10 * i + 2 + j) H5 ∧ ∃ l : List Int, H5 D = some (.lst (l.map V.int)) ∧ l.length = j ∧ ∀ z ∈ l, Bd z) ⟨p4.upd nD, [], upd_same, rfl, fun _ h => (nomatch h)⟩ (fun j H5 hj h => ?_) (fun H5 h => ?_)
          · obtain ⟨p5, l, hD, hl5, hb⟩ := h
            refine ⟨rfl, tyes ⟨_, rfl, _, _, rfl, rfl, ⟨by decide, by decide, by decide⟩, p, 10 * i + 2 + j, _, rfl, p5, by omega, by decide, by decide, fun H6 r6 g6 p6 q0 q1 => ?_⟩⟩
            rw [p30] at q1
            have hD6 := g6.1 _ _ (np_ints _) hD
            refine ⟨_, hD6, by rw [List.length_map, sizeLine_eq]; omega, p6.mut hD6 (np_ints _), l ++ [r6], by rw [upd_same, List.map_append]; rfl, by rw [List.length_append, hl5]; rfl, fun z hz => ?_⟩
            rcases List.mem_append.mp hz with hz | hz
            · exact hb z hz
            · rw [List.mem_singleton.mp hz]; exact bdd _ (by omega) (by omega)
          · obtain ⟨p5, l, hD, hl5, hb⟩ := h
            refine ⟨D, _, rfl, .inl ⟨lst_of hD, fun u nu => ?_⟩⟩
            exact ⟨u, l, rfl, upd_same, by omega, hb, (p5.mono (by omega)).upd nu⟩
        rintro σ H4 ⟨s, l, rfl, hs, hl4, hb, p4⟩
        refine ⟨fun σ H5 => ∃ w : Str, σ = [some (.ref x), some (.ref p), some (.int (i : Int)), some (.int n), some (.ref s), some (V.str w), v6, v7, v8, none] ∧ w.length ≤ 60 ∧ PyData.strOk w = true ∧ H5 s = some (.tup (l.map V.int)) ∧ PoolOk K p (10 * i + 8) H5, ?_, ?_⟩
        · refine ⟨by show 6 ≤ sizeLine; decide, fun W nW => ?_⟩
          refine ⟨_, rfl, p, 10 * i + 7, 6, rfl, p4.upd nW, by omega, by decide, by decide, fun H5 r g5 p5 r0 r1 => ?_⟩
          have hW : H5 W = some (.lst [V.str "levels", .str "begin", .str "same", .str "within", .str "other", .str ""]) := g5.1 _ _ (by rintro ⟨_, _, _, _, _, h⟩; cases h) upd_same
          have hs5 : H5 s = some (.tup (l.map V.int)) := g5.1 _ _ (np_tup _) ((same_upd nW) _ _ hs)
          obtain ⟨wd, hv, w1, w2⟩ : ∃ wd : Str, atI [V.str "levels", .str "begin", .str "same", .str "within", .str "other", .str ""] r = some (.str wd) ∧ wd.length ≤ 60 ∧ PyData.strOk wd = true := by
            have h6 : r = 0 ∨ r = 1 ∨ r = 2 ∨ r = 3 ∨ r = 4 ∨ r = 5 := by omega
            rcases h6 with h | h | h | h | h | h
            · exact ⟨"levels", by rw [h]; rfl, by decide +kernel, by decide +kernel⟩
            · exact ⟨"begin", by rw [h]; rfl, by decide +kernel, by decide +kernel⟩
            · exact ⟨"same", by rw [h]; rfl, by decide +kernel, by decide +kernel⟩
            · exact ⟨"within", by rw [h]; rfl, by decide +kernel, by decide +kernel⟩
            · exact ⟨"other", by rw [h]; rfl, by decide +kernel, by decide +kernel⟩
            · exact ⟨"", by rw [h]; rfl, by decide +kernel, by decide +kernel⟩
          exact ⟨W, _, r, _, rfl, rfl, lst_of hW, hv, wd, rfl, w1, w2, hs5, p5⟩
        rintro σ H5 ⟨w, rfl, hw, hwo, hs5, p5⟩
        refine ⟨fun σ H6 => ∃ (b C : Addr) (d : Option Addr) (v1 v2 : V), σ = [some (.ref x), some (.ref p), some (.int (i : Int)), some (.int n), some (.ref s), some (V.str w), some (.ref b), some v1, some v2, none] ∧ H6 b = some (ErO (.ref C) d b) ∧ (∀ dd, d = some dd → ∃ fs, H6 dd = some (.xd fs)) ∧ (clsA a)[i]? = some C ∧ NeF K H6 v1 v2 ∧ PoolOk K p (10 * i + 8) H6, ?_, ?_⟩
        · refine ⟨_, rfl, _, rfl, _, rfl, _, rfl, s, i, n, w, l, rfl, by omega, hi, Bn, Bn3, hw, hwo, hs5, hl4, hb, fun H6 t b d v1 v2 C f hC ht hE hd hN => ?_⟩
          exact ⟨t, _, rfl, tup_of ht, rfl, _, _, rfl, _, _, rfl, _, _, rfl, rfl, b, C, d, v1, v2, rfl, hE, hd, hC, hN, p5.same f⟩
        rintro σ H6 ⟨b, C, d, v1, v2, rfl, hE, hd, hC, hN, p6⟩
        refine ⟨fun σ H7 => σ = [some (.ref x), some (.ref p), some (.int (i : Int)), some (.int n), some (.ref s), some (V.str w), some (.ref b), some v1, some v2, none] ∧ H7 = H6, ?_, ?_⟩
        · exact ⟨_, rfl, _, rfl, hN _ ⟨_, rfl, iteF ⟨_, rfl, b, C, d, _, _, _, hE, hd, ek_all T i C hC, rfl, .own _, kt_all T i C hC, _, rfl, iteF ⟨_, rfl, b, C, d, _, _, _, hE, hd, ek_all T i C hC, rfl, .ty "ValueError", kv_all T i C hC, _, rfl, iteF ⟨rfl, rfl⟩⟩⟩⟩⟩
        rintro σ H7 ⟨rfl, rfl⟩
        refine ⟨_, rfl, b, C, d, i, rfl, hE, hd, hC, fun H8 D f8 hD => ?_⟩
        refine ⟨_, rfl, by decide, by decide, fun D2 nD2 => ?_⟩
        refine lc_range (lo := 0) (n := 28) (fun j H9 => Same H8 H9 ∧ H9 D2 = some (.lst ((List.range j).map fun j => V.bl (decide (j = i))))) ⟨same_upd nD2, upd_same⟩ (fun j H9 hj h => ?_) (fun H9 h => ?_)
        · obtain ⟨f9, h9⟩ := h
          refine ⟨rfl, tyes ⟨_, rfl, _, rfl, rfl, ?_⟩⟩
          refine ⟨_, h9, by rw [List.length_map, List.length_range, sizeLine_eq]; omega, f9.mut nD2, ?_⟩
          have e : decide (V.int (0 + (j : Int)) = V.int (i : Int)) = decide (j = i) := by
            by_cases h : j = i
            · subst h; simp
            · rw [decide_eq_false h, decide_eq_false]
              intro z
              injection z with z
              omega
          rw [upd_same, List.range_succ, List.map_append, e]
          rfl
        · obtain ⟨f9, h9⟩ := h
          have eb : (List.range 28).map (fun j => V.bl (decide (j = i))) = ((List.range 28).map fun j => decide (j = i)).map V.bl := by rw [List.map_map]; rfl
          rw [eb] at hD h9
          have hD9 := f9 _ _ hD
          exact neD_bls (lst_of hD9) (lst_of h9) ⟨_, rfl, iteF ⟨_, _, _, _, _, _, _, rfl, ((p6.same f8).same f9).mono (by omega)⟩⟩
      · rintro σ H2 _
        trivial
    rintro σ H2 _
    exact k _
end
end K84
namespace L2
open PySem PySem.W PySem.Calls PyProof.Rows
/-! the head by two kernel runs: what stands behind the top, and what K holds -/
def RunA (r : OpenRow) (q : Program) (M : Nat) (loose : List PySem.Str) : Prop := ∀ (w : World) (os : OsState), (HeadRun.endF (HeadRun.stepQ (HeadRun.denQ HeadRun.tabQ) r.prog w) M r.prog w os).map (fun s => (HeadRun.looksF r.prog (boot_heap w.params) s.abs, HeadRun.seenQ q loose (importedModules r.prog.main.body) (fun s => xlAt q [] s && recOk r.toRowW.records s) s.abs)) = some (true, openGood q loose)
def RunB (r : OpenRow) (M : Nat) (as : List Addr) (K : Params → Frag) : Prop := ∀ (w : World) (os : OsState), (HeadRun.endF (HeadRun.stepQ (HeadRun.denQ HeadRun.tabQ) r.prog w) M r.prog w os).map (fun s => as.map (HeadRun.getT s)) = some ((K w.params).map fun x => some x.2)
theorem head2 {r : OpenRow} {q : Program} {K : Params → Frag} {as : List Addr} (ek : ∀ P, as = (K P).map (·.1)) {M : Nat} {loose : List PySem.Str} {d : DefRec} {kwd : List (PySem.Str × PySem.Expr)}
    (e : opening r.prog = plainProg r.prog.main.scope.names) (f : ∀ s, fenceModules? r.prog s = some s) (runA : RunA r q M loose) (runB : RunB r M as K)
    (hdef : defOf q r.name = some (d, kwd)) (hp : r.prog.theDef r.name = some (d.params, d.body, d.scope)) (hk : kwWritten? d.params.kwonlyargs d.params.kw_defaults = some kwd)
    (hwr : (!r.writes || r.records.isEmpty) = true) (k1 : r.wellSaid = true) (ok : (chainsOk q && opensWell r.prog && (frees r.toRowW && r.within.isEmpty)) = true) (hb : r.prog.bare) (hw : r.toRowW.promised)
    (hc : WalkO q loose (XL q []) (kHook K as ek).says r.toRowW d kwd fun f vs => PySem.call f vs) : r.Holds := by
  have run : ∀ w, HeadRun.RunEq r q (kHook K as ek) (fun s => as.map (HeadRun.getT s)) M loose w := fun w os => by
    obtain ⟨s, hs, hA⟩ := Option.map_eq_some_iff.mp (runA w os)
    have hB := runB w os
    rw [hs] at hB ⊢
    have hB := Option.some.inj hB
    show some (_, _, _) = some (_, _, _)
    obtain ⟨a1, a2⟩ := Prod.mk.inj hA
    rw [a1, a2]
    exact congrArg (fun z => some (true, openGood q loose, z)) hB
  exact HeadRun.head_any (H := kHook K as ek) (fun s => List.map_congr_left fun a _ => HeadRun.getT_eq s a) e f run hdef hp hk hwr k1 ok hb hw hc
end L2
namespace K84H
section
open PySem PySem.W PyProof.Rows PySem.Calls
abbrev Rw : OpenRow := OpenLaw.row PySem.Challenge.rw_steppedtests_k84_each_error
abbrev qv : Program := view Rw.prog [38]
def loose : List PySem.Str := (["__name__", "TestError", "BadEnds", "BadNode", "BadStart", "TwiceAsked", "NoNode", "NoPosition", "BadQuestion", "BadMarks", "BadLadder", "BadCount", "BadRelation", "BadPositions", "NoFinal", "NotReached", "NoEnd", "ZeroBottom", "NoChance", "BadChance", "ZeroPolynomial", "BadInterval", "NoSkip", "NotComing", "NoPupils", "BadLength", "AlikePupils", "BadLine", "Ended", "BadDeed"] : List PySem.Str) ++ (["_law_pool", "_law_draw", "_law_first", "_law_second", "_law_third", "_law_kinds", "_law_made"] : List PySem.Str)
set_option maxHeartbeats 0 in
theorem runA : L2.RunA Rw qv 20000 loose := by
  intro w os
  kernel_rfl
local macro_rules | `(tactic| k_head) => `(tactic| k_headL)
local macro_rules | `(tactic| o_headL (kHook $k $a $e)) => `(tactic| (refine L2.head2 (r := K84H.Rw) (q := K84H.qv) (loose := K84H.loose) (K := $k) (as := $a) $e (M := 20000) (by kernel_rfl) (fun s => by kernel_rfl) K84H.runA ?run (by rfl) (by rfl) (by rfl) (by rfl) (by first | assumption | decide +kernel) (by decide +kernel) ⟨rfl, rfl, rfl, rfl, rfl, by decide +kernel⟩ ?hw ?hc; (case run => intro w os; kernel_rfl)))
set_option maxHeartbeats 0 in
open_top hd for PySem.Challenge.rw_steppedtests_k84_each_error
end
end K84H
namespace K84
open PySem PySem.Spec PyProof.Rows L2 Gg TL HotX L2H RZ
theorem all_mk {l : PySem.W.OpenLaw} {w : World} {K : PySem.W.Frag} {h : Heap} {mg : Str → Option Value} {fa c_TestError c_BadEnds c_BadNode c_BadStart c_TwiceAsked c_NoNode c_NoPosition c_BadQuestion c_BadMarks c_BadLadder c_BadCount c_BadRelation c_BadPositions c_NoFinal c_NotReached c_NoEnd c_ZeroBottom c_NoChance c_BadChance c_ZeroPolynomial c_BadInterval c_NoSkip c_NotComing c_NoPupils c_BadLength c_AlikePupils c_BadLine c_Ended c_BadDeed f_BadEnds_init f_BadNode_init f_BadStart_init f_TwiceAsked_init f_NoNode_init f_NoPosition_init f_BadQuestion_init f_BadMarks_init f_BadLadder_init f_BadCount_init f_BadRelation_init f_BadPositions_init f_NoFinal_init f_NotReached_init f_NoEnd_init f_ZeroBottom_init f_NoChance_init f_BadChance_init f_ZeroPolynomial_init f_BadInterval_init f_NoSkip_init f_NotComing_init f_NoPupils_init f_BadLength_init f_AlikePupils_init f_BadLine_init f_Ended_init f_BadDeed_init f_l_pool f_l_draw f_l_first f_l_second f_l_third f_l_made f_l_kinds f_law : Addr} (X : K.In h) (G : h.Ns mainGlobals mg) (hfa : mg "law" = some (.ref fa))
    {od_BadEnds_init an_BadEnds_init od_BadNode_init an_BadNode_init od_BadStart_init an_BadStart_init od_TwiceAsked_init an_TwiceAsked_init od_NoNode_init an_NoNode_init od_NoPosition_init an_NoPosition_init od_BadQuestion_init an_BadQuestion_init od_BadMarks_init an_BadMarks_init od_BadLadder_init an_BadLadder_init od_BadCount_init an_BadCount_init od_BadRelation_init an_BadRelation_init od_BadPositions_init an_BadPositions_init od_NoFinal_init an_NoFinal_init od_NotReached_init an_NotReached_init od_NoEnd_init an_NoEnd_init od_ZeroBottom_init an_ZeroBottom_init od_NoChance_init an_NoChance_init od_BadChance_init an_BadChance_init od_ZeroPolynomial_init an_ZeroPolynomial_init od_BadInterval_init an_BadInterval_init od_NoSkip_init an_NoSkip_init od_NotComing_init an_NotComing_init od_NoPupils_init an_NoPupils_init od_BadLength_init an_BadLength_init od_AlikePupils_init an_AlikePupils_init od_BadLine_init an_BadLine_init od_Ended_init an_Ended_init od_BadDeed_init an_BadDeed_init od_l_pool an_l_pool od_l_draw an_l_draw od_l_first an_l_first od_l_second an_l_second od_l_third an_l_third od_l_made an_l_made od_l_kinds an_l_kinds od_law an_law : Option Addr}
    {sl_BadEnds_init sl_BadNode_init sl_BadStart_init sl_TwiceAsked_init sl_NoNode_init sl_NoPosition_init sl_BadQuestion_init sl_BadMarks_init sl_BadLadder_init sl_BadCount_init sl_BadRelation_init sl_BadPositions_init sl_NoFinal_init sl_NotReached_init sl_NoEnd_init sl_ZeroBottom_init sl_NoChance_init sl_BadChance_init sl_ZeroPolynomial_init sl_BadInterval_init sl_NoSkip_init sl_NotComing_init sl_NoPupils_init sl_BadLength_init sl_AlikePupils_init sl_BadLine_init sl_Ended_init sl_BadDeed_init sl_l_pool sl_l_draw sl_l_first sl_l_second sl_l_third sl_l_made sl_l_kinds sl_law : Array (Option Value)}
    {oc_BadEnds_init kV_BadEnds_init dc_BadEnds_init pm_BadEnds_init cd_BadEnds_init ct_BadEnds_init oc_BadNode_init kV_BadNode_init dc_BadNode_init pm_BadNode_init cd_BadNode_init ct_BadNode_init oc_BadStart_init kV_BadStart_init dc_BadStart_init pm_BadStart_init cd_BadStart_init ct_BadStart_init oc_TwiceAsked_init kV_TwiceAsked_init dc_TwiceAsked_init pm_TwiceAsked_init cd_TwiceAsked_init ct_TwiceAsked_init oc_NoNode_init kV_NoNode_init dc_NoNode_init pm_NoNode_init cd_NoNode_init ct_NoNode_init oc_NoPosition_init kV_NoPosition_init dc_NoPosition_init pm_NoPosition_init cd_NoPosition_init ct_NoPosition_init oc_BadQuestion_init kV_BadQuestion_init dc_BadQuestion_init pm_BadQuestion_init cd_BadQuestion_init ct_BadQuestion_init oc_BadMarks_init kV_BadMarks_init dc_BadMarks_init pm_BadMarks_init cd_BadMarks_init ct_BadMarks_init oc_BadLadder_init kV_BadLadder_init dc_BadLadder_init pm_BadLadder_init cd_BadLadder_init ct_BadLadder_init oc_BadCount_init kV_BadCount_init dc_BadCount_init pm_BadCount_init cd_BadCount_init ct_BadCount_init oc_BadRelation_init kV_BadRelation_init dc_BadRelation_init pm_BadRelation_init cd_BadRelation_init ct_BadRelation_init oc_BadPositions_init kV_BadPositions_init dc_BadPositions_init pm_BadPositions_init cd_BadPositions_init ct_BadPositions_init oc_NoFinal_init kV_NoFinal_init dc_NoFinal_init pm_NoFinal_init cd_NoFinal_init ct_NoFinal_init oc_NotReached_init kV_NotReached_init dc_NotReached_init pm_NotReached_init cd_NotReached_init ct_NotReached_init oc_NoEnd_init kV_NoEnd_init dc_NoEnd_init pm_NoEnd_init cd_NoEnd_init ct_NoEnd_init oc_ZeroBottom_init kV_ZeroBottom_init dc_ZeroBottom_init pm_ZeroBottom_init cd_ZeroBottom_init ct_ZeroBottom_init oc_NoChance_init kV_NoChance_init dc_NoChance_init pm_NoChance_init cd_NoChance_init ct_NoChance_init oc_BadChance_init kV_BadChance_init dc_BadChance_init pm_BadChance_init cd_BadChance_init ct_BadChance_init oc_ZeroPolynomial_init kV_ZeroPolynomial_init dc_ZeroPolynomial_init pm_ZeroPolynomial_init cd_ZeroPolynomial_init ct_ZeroPolynomial_init oc_BadInterval_init kV_BadInterval_init dc_BadInterval_init pm_BadInterval_init cd_BadInterval_init ct_BadInterval_init oc_NoSkip_init kV_NoSkip_init dc_NoSkip_init pm_NoSkip_init cd_NoSkip_init ct_NoSkip_init oc_NotComing_init kV_NotComing_init dc_NotComing_init pm_NotComing_init cd_NotComing_init ct_NotComing_init oc_NoPupils_init kV_NoPupils_init dc_NoPupils_init pm_NoPupils_init cd_NoPupils_init ct_NoPupils_init oc_BadLength_init kV_BadLength_init dc_BadLength_init pm_BadLength_init cd_BadLength_init ct_BadLength_init oc_AlikePupils_init kV_AlikePupils_init dc_AlikePupils_init pm_AlikePupils_init cd_AlikePupils_init ct_AlikePupils_init oc_BadLine_init kV_BadLine_init dc_BadLine_init pm_BadLine_init cd_BadLine_init ct_BadLine_init oc_Ended_init kV_Ended_init dc_Ended_init pm_Ended_init cd_Ended_init ct_Ended_init oc_BadDeed_init kV_BadDeed_init dc_BadDeed_init pm_BadDeed_init cd_BadDeed_init ct_BadDeed_init oc_l_pool kV_l_pool dc_l_pool pm_l_pool cd_l_pool ct_l_pool oc_l_draw kV_l_draw dc_l_draw pm_l_draw cd_l_draw ct_l_draw oc_l_first kV_l_first dc_l_first pm_l_first cd_l_first ct_l_first oc_l_second kV_l_second dc_l_second pm_l_second cd_l_second ct_l_second oc_l_third kV_l_third dc_l_third pm_l_third cd_l_third ct_l_third oc_l_made kV_l_made dc_l_made pm_l_made cd_l_made ct_l_made oc_l_kinds kV_l_kinds dc_l_kinds pm_l_kinds cd_l_kinds ct_l_kinds oc_law kV_law dc_law pm_law cd_law ct_law : Value}
    {nm_BadEnds qn_BadEnds : Str} {ns_BadEnds : Addr} {bs_BadEnds : List Value} {sn_BadEnds : List Str} {sub_BadEnds : List Value} {ab_BadEnds : Bool} {col_BadEnds : Option Bool} {dd_BadEnds : Option Addr} {m0_BadEnds m1_BadEnds m2_BadEnds m3_BadEnds m5_BadEnds : Option Value}
    {nm_BadNode qn_BadNode : Str} {ns_BadNode : Addr} {bs_BadNode : List Value} {sn_BadNode : List Str} {sub_BadNode : List Value} {ab_BadNode : Bool} {col_BadNode : Option Bool} {dd_BadNode : Option Addr} {m0_BadNode m1_BadNode m2_BadNode m3_BadNode m5_BadNode : Option Value}
    {nm_BadStart qn_BadStart : Str} {ns_BadStart : Addr} {bs_BadStart : List Value} {sn_BadStart : List Str} {sub_BadStart : List Value} {ab_BadStart : Bool} {col_BadStart : Option Bool} {dd_BadStart : Option Addr} {m0_BadStart m1_BadStart m2_BadStart m3_BadStart m5_BadStart : Option Value}
    {nm_TwiceAsked qn_TwiceAsked : Str} {ns_TwiceAsked : Addr} {bs_TwiceAsked : List Value} {sn_TwiceAsked : List Str} {sub_TwiceAsked : List Value} {ab_TwiceAsked : Bool} {col_TwiceAsked : Option Bool} {dd_TwiceAsked : Option Addr} {m0_TwiceAsked m1_TwiceAsked m2_TwiceAsked m3_TwiceAsked m5_TwiceAsked : Option Value}
    {nm_NoNode qn_NoNode : Str} {ns_NoNode : Addr} {bs_NoNode : List Value} {sn_NoNode : List Str} {sub_NoNode : List Value} {ab_NoNode : Bool} {col_NoNode : Option Bool} {dd_NoNode : Option Addr} {m0_NoNode m1_NoNode m2_NoNode m3_NoNode m5_NoNode : Option Value}
    {nm_NoPosition qn_NoPosition : Str} {ns_NoPosition : Addr} {bs_NoPosition : List Value} {sn_NoPosition : List Str} {sub_NoPosition : List Value} {ab_NoPosition : Bool} {col_NoPosition : Option Bool} {dd_NoPosition : Option Addr} {m0_NoPosition m1_NoPosition m2_NoPosition m3_NoPosition m5_NoPosition : Option Value}
    {nm_BadQuestion qn_BadQuestion : Str} {ns_BadQuestion : Addr} {bs_BadQuestion : List Value} {sn_BadQuestion : List Str} {sub_BadQuestion : List Value} {ab_BadQuestion : Bool} {col_BadQuestion : Option Bool} {dd_BadQuestion : Option Addr} {m0_BadQuestion m1_BadQuestion m2_BadQuestion m3_BadQuestion m5_BadQuestion : Option Value}
    {nm_BadMarks qn_BadMarks : Str} {ns_BadMarks : Addr} {bs_BadMarks : List Value} {sn_BadMarks : List Str} {sub_BadMarks : List Value} {ab_BadMarks : Bool} {col_BadMarks : Option Bool} {dd_BadMarks : Option Addr} {m0_BadMarks m1_BadMarks m2_BadMarks m3_BadMarks m5_BadMarks : Option Value}
    {nm_BadLadder qn_BadLadder : Str} {ns_BadLadder : Addr} {bs_BadLadder : List Value} {sn_BadLadder : List Str} {sub_BadLadder : List Value} {ab_BadLadder : Bool} {col_BadLadder : Option Bool} {dd_BadLadder : Option Addr} {m0_BadLadder m1_BadLadder m2_BadLadder m3_BadLadder m5_BadLadder : Option Value}
    {nm_BadCount qn_BadCount : Str} {ns_BadCount : Addr} {bs_BadCount : List Value} {sn_BadCount : List Str} {sub_BadCount : List Value} {ab_BadCount : Bool} {col_BadCount : Option Bool} {dd_BadCount : Option Addr} {m0_BadCount m1_BadCount m2_BadCount m3_BadCount m5_BadCount : Option Value}
    {nm_BadRelation qn_BadRelation : Str} {ns_BadRelation : Addr} {bs_BadRelation : List Value} {sn_BadRelation : List Str} {sub_BadRelation : List Value} {ab_BadRelation : Bool} {col_BadRelation : Option Bool} {dd_BadRelation : Option Addr} {m0_BadRelation m1_BadRelation m2_BadRelation m3_BadRelation m5_BadRelation : Option Value}
    {nm_BadPositions qn_BadPositions : Str} {ns_BadPositions : Addr} {bs_BadPositions : List Value} {sn_BadPositions : List Str} {sub_BadPositions : List Value} {ab_BadPositions : Bool} {col_BadPositions : Option Bool} {dd_BadPositions : Option Addr} {m0_BadPositions m1_BadPositions m2_BadPositions m3_BadPositions m5_BadPositions : Option Value}
    {nm_NoFinal qn_NoFinal : Str} {ns_NoFinal : Addr} {bs_NoFinal : List Value} {sn_NoFinal : List Str} {sub_NoFinal : List Value} {ab_NoFinal : Bool} {col_NoFinal : Option Bool} {dd_NoFinal : Option Addr} {m0_NoFinal m1_NoFinal m2_NoFinal m3_NoFinal m5_NoFinal : Option Value}
    {nm_NotReached qn_NotReached : Str} {ns_NotReached : Addr} {bs_NotReached : List Value} {sn_NotReached : List Str} {sub_NotReached : List Value} {ab_NotReached : Bool} {col_NotReached : Option Bool} {dd_NotReached : Option Addr} {m0_NotReached m1_NotReached m2_NotReached m3_NotReached m5_NotReached : Option Value}
    {nm_NoEnd qn_NoEnd : Str} {ns_NoEnd : Addr} {bs_NoEnd : List Value} {sn_NoEnd : List Str} {sub_NoEnd : List Value} {ab_NoEnd : Bool} {col_NoEnd : Option Bool} {dd_NoEnd : Option Addr} {m0_NoEnd m1_NoEnd m2_NoEnd m3_NoEnd m5_NoEnd : Option Value}
    {nm_ZeroBottom qn_ZeroBottom : Str} {ns_ZeroBottom : Addr} {bs_ZeroBottom : List Value} {sn_ZeroBottom : List Str} {sub_ZeroBottom : List Value} {ab_ZeroBottom : Bool} {col_ZeroBottom : Option Bool} {dd_ZeroBottom : Option Addr} {m0_ZeroBottom m1_ZeroBottom m2_ZeroBottom m3_ZeroBottom m5_ZeroBottom : Option Value}
    {nm_NoChance qn_NoChance : Str} {ns_NoChance : Addr} {bs_NoChance : List Value} {sn_NoChance : List Str} {sub_NoChance : List Value} {ab_NoChance : Bool} {col_NoChance : Option Bool} {dd_NoChance : Option Addr} {m0_NoChance m1_NoChance m2_NoChance m3_NoChance m5_NoChance : Option Value}
    {nm_BadChance qn_BadChance : Str} {ns_BadChance : Addr} {bs_BadChance : List Value} {sn_BadChance : List Str} {sub_BadChance : List Value} {ab_BadChance : Bool} {col_BadChance : Option Bool} {dd_BadChance : Option Addr} {m0_BadChance m1_BadChance m2_BadChance m3_BadChance m5_BadChance : Option Value}
    {nm_ZeroPolynomial qn_ZeroPolynomial : Str} {ns_ZeroPolynomial : Addr} {bs_ZeroPolynomial : List Value} {sn_ZeroPolynomial : List Str} {sub_ZeroPolynomial : List Value} {ab_ZeroPolynomial : Bool} {col_ZeroPolynomial : Option Bool} {dd_ZeroPolynomial : Option Addr} {m0_ZeroPolynomial m1_ZeroPolynomial m2_ZeroPolynomial m3_ZeroPolynomial m5_ZeroPolynomial : Option Value}
    {nm_BadInterval qn_BadInterval : Str} {ns_BadInterval : Addr} {bs_BadInterval : List Value} {sn_BadInterval : List Str} {sub_BadInterval : List Value} {ab_BadInterval : Bool} {col_BadInterval : Option Bool} {dd_BadInterval : Option Addr} {m0_BadInterval m1_BadInterval m2_BadInterval m3_BadInterval m5_BadInterval : Option Value}
    {nm_NoSkip qn_NoSkip : Str} {ns_NoSkip : Addr} {bs_NoSkip : List Value} {sn_NoSkip : List Str} {sub_NoSkip : List Value} {ab_NoSkip : Bool} {col_NoSkip : Option Bool} {dd_NoSkip : Option Addr} {m0_NoSkip m1_NoSkip m2_NoSkip m3_NoSkip m5_NoSkip : Option Value}
    {nm_NotComing qn_NotComing : Str} {ns_NotComing : Addr} {bs_NotComing : List Value} {sn_NotComing : List Str} {sub_NotComing : List Value} {ab_NotComing : Bool} {col_NotComing : Option Bool} {dd_NotComing : Option Addr} {m0_NotComing m1_NotComing m2_NotComing m3_NotComing m5_NotComing : Option Value}
    {nm_NoPupils qn_NoPupils : Str} {ns_NoPupils : Addr} {bs_NoPupils : List Value} {sn_NoPupils : List Str} {sub_NoPupils : List Value} {ab_NoPupils : Bool} {col_NoPupils : Option Bool} {dd_NoPupils : Option Addr} {m0_NoPupils m1_NoPupils m2_NoPupils m3_NoPupils m5_NoPupils : Option Value}
    {nm_BadLength qn_BadLength : Str} {ns_BadLength : Addr} {bs_BadLength : List Value} {sn_BadLength : List Str} {sub_BadLength : List Value} {ab_BadLength : Bool} {col_BadLength : Option Bool} {dd_BadLength : Option Addr} {m0_BadLength m1_BadLength m2_BadLength m3_BadLength m5_BadLength : Option Value}
    {nm_AlikePupils qn_AlikePupils : Str} {ns_AlikePupils : Addr} {bs_AlikePupils : List Value} {sn_AlikePupils : List Str} {sub_AlikePupils : List Value} {ab_AlikePupils : Bool} {col_AlikePupils : Option Bool} {dd_AlikePupils : Option Addr} {m0_AlikePupils m1_AlikePupils m2_AlikePupils m3_AlikePupils m5_AlikePupils : Option Value}
    {nm_BadLine qn_BadLine : Str} {ns_BadLine : Addr} {bs_BadLine : List Value} {sn_BadLine : List Str} {sub_BadLine : List Value} {ab_BadLine : Bool} {col_BadLine : Option Bool} {dd_BadLine : Option Addr} {m0_BadLine m1_BadLine m2_BadLine m3_BadLine m5_BadLine : Option Value}
    {nm_Ended qn_Ended : Str} {ns_Ended : Addr} {bs_Ended : List Value} {sn_Ended : List Str} {sub_Ended : List Value} {ab_Ended : Bool} {col_Ended : Option Bool} {dd_Ended : Option Addr} {m0_Ended m1_Ended m2_Ended m3_Ended m5_Ended : Option Value}
    {nm_BadDeed qn_BadDeed : Str} {ns_BadDeed : Addr} {bs_BadDeed : List Value} {sn_BadDeed : List Str} {sub_BadDeed : List Value} {ab_BadDeed : Bool} {col_BadDeed : Option Bool} {dd_BadDeed : Option Addr} {m0_BadDeed m1_BadDeed m2_BadDeed m3_BadDeed m5_BadDeed : Option Value}
    (h_g_TestError : PySem.W.nsIn K mainGlobals "TestError" = some (some (.ref c_TestError)))
    (h_g_BadEnds : PySem.W.nsIn K mainGlobals "BadEnds" = some (some (.ref c_BadEnds)))
    (h_g_BadNode : PySem.W.nsIn K mainGlobals "BadNode" = some (some (.ref c_BadNode)))
    (h_g_BadStart : PySem.W.nsIn K mainGlobals "BadStart" = some (some (.ref c_BadStart)))
    (h_g_TwiceAsked : PySem.W.nsIn K mainGlobals "TwiceAsked" = some (some (.ref c_TwiceAsked)))
    (h_g_NoNode : PySem.W.nsIn K mainGlobals "NoNode" = some (some (.ref c_NoNode)))
    (h_g_NoPosition : PySem.W.nsIn K mainGlobals "NoPosition" = some (some (.ref c_NoPosition)))
    (h_g_BadQuestion : PySem.W.nsIn K mainGlobals "BadQuestion" = some (some (.ref c_BadQuestion)))
    (h_g_BadMarks : PySem.W.nsIn K mainGlobals "BadMarks" = some (some (.ref c_BadMarks)))
    (h_g_BadLadder : PySem.W.nsIn K mainGlobals "BadLadder" = some (some (.ref c_BadLadder)))
    (h_g_BadCount : PySem.W.nsIn K mainGlobals "BadCount" = some (some (.ref c_BadCount)))
    (h_g_BadRelation : PySem.W.nsIn K mainGlobals "BadRelation" = some (some (.ref c_BadRelation)))
    (h_g_BadPositions : PySem.W.nsIn K mainGlobals "BadPositions" = some (some (.ref c_BadPositions)))
    (h_g_NoFinal : PySem.W.nsIn K mainGlobals "NoFinal" = some (some (.ref c_NoFinal)))
    (h_g_NotReached : PySem.W.nsIn K mainGlobals "NotReached" = some (some (.ref c_NotReached)))
    (h_g_NoEnd : PySem.W.nsIn K mainGlobals "NoEnd" = some (some (.ref c_NoEnd)))
    (h_g_ZeroBottom : PySem.W.nsIn K mainGlobals "ZeroBottom" = some (some (.ref c_ZeroBottom)))
    (h_g_NoChance : PySem.W.nsIn K mainGlobals "NoChance" = some (some (.ref c_NoChance)))
    (h_g_BadChance : PySem.W.nsIn K mainGlobals "BadChance" = some (some (.ref c_BadChance)))
    (h_g_ZeroPolynomial : PySem.W.nsIn K mainGlobals "ZeroPolynomial" = some (some (.ref c_ZeroPolynomial)))
    (h_g_BadInterval : PySem.W.nsIn K mainGlobals "BadInterval" = some (some (.ref c_BadInterval)))
    (h_g_NoSkip : PySem.W.nsIn K mainGlobals "NoSkip" = some (some (.ref c_NoSkip)))
    (h_g_NotComing : PySem.W.nsIn K mainGlobals "NotComing" = some (some (.ref c_NotComing)))
    (h_g_NoPupils : PySem.W.nsIn K mainGlobals "NoPupils" = some (some (.ref c_NoPupils)))
    (h_g_BadLength : PySem.W.nsIn K mainGlobals "BadLength" = some (some (.ref c_BadLength)))
    (h_g_AlikePupils : PySem.W.nsIn K mainGlobals "AlikePupils" = some (some (.ref c_AlikePupils)))
    (h_g_BadLine : PySem.W.nsIn K mainGlobals "BadLine" = some (some (.ref c_BadLine)))
    (h_g_Ended : PySem.W.nsIn K mainGlobals "Ended" = some (some (.ref c_Ended)))
    (h_g_BadDeed : PySem.W.nsIn K mainGlobals "BadDeed" = some (some (.ref c_BadDeed)))
    (h_bga_TestError : PySem.W.specialIn K (.ref c_TestError) "__getattribute__" = some (some (.builtin "type.__getattribute__")))
    (h_ty_TestError : PySem.W.typeIn K (.ref c_TestError) = some (.type "type"))
    (h_brd_TestError : PySem.W.readsIn K c_TestError (.type "type") = true)
    (h_bfi_TestError : PySem.W.findCls K (.ref c_TestError) (.type "type") "__init__" = some (.val (.builtin "ValueError.__init__")))
    (h_xl_BadEnds : K.lookup c_BadEnds = some (excClassObj nm_BadEnds qn_BadEnds c_BadEnds ns_BadEnds bs_BadEnds [.ref c_TestError, .type "ValueError", .type "Exception", .type "BaseException", .type "object"] true sn_BadEnds sub_BadEnds ab_BadEnds col_BadEnds dd_BadEnds m0_BadEnds m1_BadEnds m2_BadEnds m3_BadEnds m5_BadEnds "ValueError.__new__"))
    (h_sa_BadEnds : PySem.W.findIn K (.ref c_BadEnds) "__setattr__" = some (some (.builtin "object.__setattr__")))
    (h_eb_BadEnds : PySem.W.subIn K (.ref c_BadEnds) (.type "BaseException") = some true)
    (h_ty_BadEnds : PySem.W.typeIn K (.ref c_BadEnds) = some (.type "type"))
    (h_kc_BadEnds : PySem.W.keepIn K (.ref c_BadEnds) = true)
    (h_ga_BadEnds : PySem.W.findIn K (.ref c_BadEnds) "__getattribute__" = some (some (.builtin "BaseException.__getattribute__")))
    (h_gg_BadEnds : PySem.W.findIn K (.ref c_BadEnds) "__getattr__" = some none)
    (h_hd_BadEnds : PySem.W.hasDictIn K c_BadEnds = true)
    (h_ss_BadEnds : PySem.W.subIn K (.ref c_BadEnds) (.ref c_BadEnds) = some true)
    (h_ic1_BadEnds : PySem.W.findIn K (.ref c_BadEnds) "__class__" = some (some (.builtin "object.__class__")))
    (h_eg2 : PySem.W.specialIn K (.builtin "object.__class__") "__get__" = some (some (.builtin "getset_descriptor.__get__")))
    (h_eg3 : PySem.W.takesIn K (.builtin "object.__class__") = some true)
    (h_ic4_BadEnds : PySem.W.mroIn K c_BadEnds (.type "object") = some true)
    (h_nf_BadEnds_count : PySem.W.findIn K (.ref c_BadEnds) "count" = some none)
    (h_sb_BadEnds : PySem.W.subIn K (.ref c_BadEnds) (.ref c_TestError) = some true)
    (h_icl_TestError : PySem.W.isClsIn K c_TestError = true)
    (h_xl_BadNode : K.lookup c_BadNode = some (excClassObj nm_BadNode qn_BadNode c_BadNode ns_BadNode bs_BadNode [.ref c_TestError, .type "ValueError", .type "Exception", .type "BaseException", .type "object"] true sn_BadNode sub_BadNode ab_BadNode col_BadNode dd_BadNode m0_BadNode m1_BadNode m2_BadNode m3_BadNode m5_BadNode "ValueError.__new__"))
    (h_sa_BadNode : PySem.W.findIn K (.ref c_BadNode) "__setattr__" = some (some (.builtin "object.__setattr__")))
    (h_eb_BadNode : PySem.W.subIn K (.ref c_BadNode) (.type "BaseException") = some true)
    (h_ty_BadNode : PySem.W.typeIn K (.ref c_BadNode) = some (.type "type"))
    (h_kc_BadNode : PySem.W.keepIn K (.ref c_BadNode) = true)
    (h_ga_BadNode : PySem.W.findIn K (.ref c_BadNode) "__getattribute__" = some (some (.builtin "BaseException.__getattribute__")))
    (h_gg_BadNode : PySem.W.findIn K (.ref c_BadNode) "__getattr__" = some none)
    (h_hd_BadNode : PySem.W.hasDictIn K c_BadNode = true)
    (h_ss_BadNode : PySem.W.subIn K (.ref c_BadNode) (.ref c_BadNode) = some true)
    (h_ic1_BadNode : PySem.W.findIn K (.ref c_BadNode) "__class__" = some (some (.builtin "object.__class__")))
    (h_ic4_BadNode : PySem.W.mroIn K c_BadNode (.type "object") = some true)
    (h_nf_BadNode_index : PySem.W.findIn K (.ref c_BadNode) "index" = some none)
    (h_sb_BadNode : PySem.W.subIn K (.ref c_BadNode) (.ref c_TestError) = some true)
    (h_xl_BadStart : K.lookup c_BadStart = some (excClassObj nm_BadStart qn_BadStart c_BadStart ns_BadStart bs_BadStart [.ref c_TestError, .type "ValueError", .type "Exception", .type "BaseException", .type "object"] true sn_BadStart sub_BadStart ab_BadStart col_BadStart dd_BadStart m0_BadStart m1_BadStart m2_BadStart m3_BadStart m5_BadStart "ValueError.__new__"))
    (h_sa_BadStart : PySem.W.findIn K (.ref c_BadStart) "__setattr__" = some (some (.builtin "object.__setattr__")))
    (h_eb_BadStart : PySem.W.subIn K (.ref c_BadStart) (.type "BaseException") = some true)
    (h_ty_BadStart : PySem.W.typeIn K (.ref c_BadStart) = some (.type "type"))
    (h_kc_BadStart : PySem.W.keepIn K (.ref c_BadStart) = true)
    (h_ga_BadStart : PySem.W.findIn K (.ref c_BadStart) "__getattribute__" = some (some (.builtin "BaseException.__getattribute__")))
    (h_gg_BadStart : PySem.W.findIn K (.ref c_BadStart) "__getattr__" = some none)
    (h_hd_BadStart : PySem.W.hasDictIn K c_BadStart = true)
    (h_ss_BadStart : PySem.W.subIn K (.ref c_BadStart) (.ref c_BadStart) = some true)
    (h_ic1_BadStart : PySem.W.findIn K (.ref c_BadStart) "__class__" = some (some (.builtin "object.__class__")))
    (h_ic4_BadStart : PySem.W.mroIn K c_BadStart (.type "object") = some true)
    (h_nf_BadStart_place : PySem.W.findIn K (.ref c_BadStart) "place" = some none)
    (h_sb_BadStart : PySem.W.subIn K (.ref c_BadStart) (.ref c_TestError) = some true)
    (h_xl_TwiceAsked : K.lookup c_TwiceAsked = some (excClassObj nm_TwiceAsked qn_TwiceAsked c_TwiceAsked ns_TwiceAsked bs_TwiceAsked [.ref c_TestError, .type "ValueError", .type "Exception", .type "BaseException", .type "object"] true sn_TwiceAsked sub_TwiceAsked ab_TwiceAsked col_TwiceAsked dd_TwiceAsked m0_TwiceAsked m1_TwiceAsked m2_TwiceAsked m3_TwiceAsked m5_TwiceAsked "ValueError.__new__"))
    (h_sa_TwiceAsked : PySem.W.findIn K (.ref c_TwiceAsked) "__setattr__" = some (some (.builtin "object.__setattr__")))
    (h_eb_TwiceAsked : PySem.W.subIn K (.ref c_TwiceAsked) (.type "BaseException") = some true)
    (h_ty_TwiceAsked : PySem.W.typeIn K (.ref c_TwiceAsked) = some (.type "type"))
    (h_kc_TwiceAsked : PySem.W.keepIn K (.ref c_TwiceAsked) = true)
    (h_ga_TwiceAsked : PySem.W.findIn K (.ref c_TwiceAsked) "__getattribute__" = some (some (.builtin "BaseException.__getattribute__")))
    (h_gg_TwiceAsked : PySem.W.findIn K (.ref c_TwiceAsked) "__getattr__" = some none)
    (h_hd_TwiceAsked : PySem.W.hasDictIn K c_TwiceAsked = true)
    (h_ss_TwiceAsked : PySem.W.subIn K (.ref c_TwiceAsked) (.ref c_TwiceAsked) = some true)
    (h_ic1_TwiceAsked : PySem.W.findIn K (.ref c_TwiceAsked) "__class__" = some (some (.builtin "object.__class__")))
    (h_ic4_TwiceAsked : PySem.W.mroIn K c_TwiceAsked (.type "object") = some true)
    (h_nf_TwiceAsked_index : PySem.W.findIn K (.ref c_TwiceAsked) "index" = some none)
    (h_sb_TwiceAsked : PySem.W.subIn K (.ref c_TwiceAsked) (.ref c_TestError) = some true)
    (h_xl_NoNode : K.lookup c_NoNode = some (excClassObj nm_NoNode qn_NoNode c_NoNode ns_NoNode bs_NoNode [.ref c_TestError, .type "ValueError", .type "Exception", .type "BaseException", .type "object"] true sn_NoNode sub_NoNode ab_NoNode col_NoNode dd_NoNode m0_NoNode m1_NoNode m2_NoNode m3_NoNode m5_NoNode "ValueError.__new__"))
    (h_sa_NoNode : PySem.W.findIn K (.ref c_NoNode) "__setattr__" = some (some (.builtin "object.__setattr__")))
    (h_eb_NoNode : PySem.W.subIn K (.ref c_NoNode) (.type "BaseException") = some true)
    (h_ty_NoNode : PySem.W.typeIn K (.ref c_NoNode) = some (.type "type"))
    (h_kc_NoNode : PySem.W.keepIn K (.ref c_NoNode) = true)
    (h_ga_NoNode : PySem.W.findIn K (.ref c_NoNode) "__getattribute__" = some (some (.builtin "BaseException.__getattribute__")))
    (h_gg_NoNode : PySem.W.findIn K (.ref c_NoNode) "__getattr__" = some none)
    (h_hd_NoNode : PySem.W.hasDictIn K c_NoNode = true)
    (h_ss_NoNode : PySem.W.subIn K (.ref c_NoNode) (.ref c_NoNode) = some true)
    (h_ic1_NoNode : PySem.W.findIn K (.ref c_NoNode) "__class__" = some (some (.builtin "object.__class__")))
    (h_ic4_NoNode : PySem.W.mroIn K c_NoNode (.type "object") = some true)
    (h_nf_NoNode_index : PySem.W.findIn K (.ref c_NoNode) "index" = some none)
    (h_sb_NoNode : PySem.W.subIn K (.ref c_NoNode) (.ref c_TestError) = some true)
    (h_xl_NoPosition : K.lookup c_NoPosition = some (excClassObj nm_NoPosition qn_NoPosition c_NoPosition ns_NoPosition bs_NoPosition [.ref c_TestError, .type "ValueError", .type "Exception", .type "BaseException", .type "object"] true sn_NoPosition sub_NoPosition ab_NoPosition col_NoPosition dd_NoPosition m0_NoPosition m1_NoPosition m2_NoPosition m3_NoPosition m5_NoPosition "ValueError.__new__"))
    (h_sa_NoPosition : PySem.W.findIn K (.ref c_NoPosition) "__setattr__" = some (some (.builtin "object.__setattr__")))
    (h_eb_NoPosition : PySem.W.subIn K (.ref c_NoPosition) (.type "BaseException") = some true)
    (h_ty_NoPosition : PySem.W.typeIn K (.ref c_NoPosition) = some (.type "type"))
    (h_kc_NoPosition : PySem.W.keepIn K (.ref c_NoPosition) = true)
    (h_ga_NoPosition : PySem.W.findIn K (.ref c_NoPosition) "__getattribute__" = some (some (.builtin "BaseException.__getattribute__")))
    (h_gg_NoPosition : PySem.W.findIn K (.ref c_NoPosition) "__getattr__" = some none)
    (h_hd_NoPosition : PySem.W.hasDictIn K c_NoPosition = true)
    (h_ss_NoPosition : PySem.W.subIn K (.ref c_NoPosition) (.ref c_NoPosition) = some true)
    (h_ic1_NoPosition : PySem.W.findIn K (.ref c_NoPosition) "__class__" = some (some (.builtin "object.__class__")))
    (h_ic4_NoPosition : PySem.W.mroIn K c_NoPosition (.type "object") = some true)
    (h_nf_NoPosition_place : PySem.W.findIn K (.ref c_NoPosition) "place" = some none)
    (h_sb_NoPosition : PySem.W.subIn K (.ref c_NoPosition) (.ref c_TestError) = some true)
    (h_xl_BadQuestion : K.lookup c_BadQuestion = some (excClassObj nm_BadQuestion qn_BadQuestion c_BadQuestion ns_BadQuestion bs_BadQuestion [.ref c_TestError, .type "ValueError", .type "Exception", .type "BaseException", .type "object"] true sn_BadQuestion sub_BadQuestion ab_BadQuestion col_BadQuestion dd_BadQuestion m0_BadQuestion m1_BadQuestion m2_BadQuestion m3_BadQuestion m5_BadQuestion "ValueError.__new__"))
    (h_sa_BadQuestion : PySem.W.findIn K (.ref c_BadQuestion) "__setattr__" = some (some (.builtin "object.__setattr__")))
    (h_eb_BadQuestion : PySem.W.subIn K (.ref c_BadQuestion) (.type "BaseException") = some true)
    (h_ty_BadQuestion : PySem.W.typeIn K (.ref c_BadQuestion) = some (.type "type"))
    (h_kc_BadQuestion : PySem.W.keepIn K (.ref c_BadQuestion) = true)
    (h_ga_BadQuestion : PySem.W.findIn K (.ref c_BadQuestion) "__getattribute__" = some (some (.builtin "BaseException.__getattribute__")))
    (h_gg_BadQuestion : PySem.W.findIn K (.ref c_BadQuestion) "__getattr__" = some none)
    (h_hd_BadQuestion : PySem.W.hasDictIn K c_BadQuestion = true)
    (h_ss_BadQuestion : PySem.W.subIn K (.ref c_BadQuestion) (.ref c_BadQuestion) = some true)
    (h_ic1_BadQuestion : PySem.W.findIn K (.ref c_BadQuestion) "__class__" = some (some (.builtin "object.__class__")))
    (h_ic4_BadQuestion : PySem.W.mroIn K c_BadQuestion (.type "object") = some true)
    (h_nf_BadQuestion_number : PySem.W.findIn K (.ref c_BadQuestion) "number" = some none)
    (h_sb_BadQuestion : PySem.W.subIn K (.ref c_BadQuestion) (.ref c_TestError) = some true)
    (h_xl_BadMarks : K.lookup c_BadMarks = some (excClassObj nm_BadMarks qn_BadMarks c_BadMarks ns_BadMarks bs_BadMarks [.ref c_TestError, .type "ValueError", .type "Exception", .type "BaseException", .type "object"] true sn_BadMarks sub_BadMarks ab_BadMarks col_BadMarks dd_BadMarks m0_BadMarks m1_BadMarks m2_BadMarks m3_BadMarks m5_BadMarks "ValueError.__new__"))
    (h_sa_BadMarks : PySem.W.findIn K (.ref c_BadMarks) "__setattr__" = some (some (.builtin "object.__setattr__")))
    (h_eb_BadMarks : PySem.W.subIn K (.ref c_BadMarks) (.type "BaseException") = some true)
    (h_ty_BadMarks : PySem.W.typeIn K (.ref c_BadMarks) = some (.type "type"))
    (h_kc_BadMarks : PySem.W.keepIn K (.ref c_BadMarks) = true)
    (h_ga_BadMarks : PySem.W.findIn K (.ref c_BadMarks) "__getattribute__" = some (some (.builtin "BaseException.__getattribute__")))
    (h_gg_BadMarks : PySem.W.findIn K (.ref c_BadMarks) "__getattr__" = some none)
    (h_hd_BadMarks : PySem.W.hasDictIn K c_BadMarks = true)
    (h_ss_BadMarks : PySem.W.subIn K (.ref c_BadMarks) (.ref c_BadMarks) = some true)
    (h_ic1_BadMarks : PySem.W.findIn K (.ref c_BadMarks) "__class__" = some (some (.builtin "object.__class__")))
    (h_ic4_BadMarks : PySem.W.mroIn K c_BadMarks (.type "object") = some true)
    (h_nf_BadMarks_count : PySem.W.findIn K (.ref c_BadMarks) "count" = some none)
    (h_sb_BadMarks : PySem.W.subIn K (.ref c_BadMarks) (.ref c_TestError) = some true)
    (h_xl_BadLadder : K.lookup c_BadLadder = some (excClassObj nm_BadLadder qn_BadLadder c_BadLadder ns_BadLadder bs_BadLadder [.ref c_TestError, .type "ValueError", .type "Exception", .type "BaseException", .type "object"] true sn_BadLadder sub_BadLadder ab_BadLadder col_BadLadder dd_BadLadder m0_BadLadder m1_BadLadder m2_BadLadder m3_BadLadder m5_BadLadder "ValueError.__new__"))
    (h_sa_BadLadder : PySem.W.findIn K (.ref c_BadLadder) "__setattr__" = some (some (.builtin "object.__setattr__")))
    (h_eb_BadLadder : PySem.W.subIn K (.ref c_BadLadder) (.type "BaseException") = some true)
    (h_ty_BadLadder : PySem.W.typeIn K (.ref c_BadLadder) = some (.type "type"))
    (h_kc_BadLadder : PySem.W.keepIn K (.ref c_BadLadder) = true)
    (h_ga_BadLadder : PySem.W.findIn K (.ref c_BadLadder) "__getattribute__" = some (some (.builtin "BaseException.__getattribute__")))
    (h_gg_BadLadder : PySem.W.findIn K (.ref c_BadLadder) "__getattr__" = some none)
    (h_hd_BadLadder : PySem.W.hasDictIn K c_BadLadder = true)
    (h_ss_BadLadder : PySem.W.subIn K (.ref c_BadLadder) (.ref c_BadLadder) = some true)
    (h_ic1_BadLadder : PySem.W.findIn K (.ref c_BadLadder) "__class__" = some (some (.builtin "object.__class__")))
    (h_ic4_BadLadder : PySem.W.mroIn K c_BadLadder (.type "object") = some true)
    (h_nf_BadLadder_word : PySem.W.findIn K (.ref c_BadLadder) "word" = some none)
    (h_sb_BadLadder : PySem.W.subIn K (.ref c_BadLadder) (.ref c_TestError) = some true)
    (h_xl_BadCount : K.lookup c_BadCount = some (excClassObj nm_BadCount qn_BadCount c_BadCount ns_BadCount bs_BadCount [.ref c_TestError, .type "ValueError", .type "Exception", .type "BaseException", .type "object"] true sn_BadCount sub_BadCount ab_BadCount col_BadCount dd_BadCount m0_BadCount m1_BadCount m2_BadCount m3_BadCount m5_BadCount "ValueError.__new__"))
    (h_sa_BadCount : PySem.W.findIn K (.ref c_BadCount) "__setattr__" = some (some (.builtin "object.__setattr__")))
    (h_eb_BadCount : PySem.W.subIn K (.ref c_BadCount) (.type "BaseException") = some true)
    (h_ty_BadCount : PySem.W.typeIn K (.ref c_BadCount) = some (.type "type"))
    (h_kc_BadCount : PySem.W.keepIn K (.ref c_BadCount) = true)
    (h_ga_BadCount : PySem.W.findIn K (.ref c_BadCount) "__getattribute__" = some (some (.builtin "BaseException.__getattribute__")))
    (h_gg_BadCount : PySem.W.findIn K (.ref c_BadCount) "__getattr__" = some none)
    (h_hd_BadCount : PySem.W.hasDictIn K c_BadCount = true)
    (h_ss_BadCount : PySem.W.subIn K (.ref c_BadCount) (.ref c_BadCount) = some true)
    (h_ic1_BadCount : PySem.W.findIn K (.ref c_BadCount) "__class__" = some (some (.builtin "object.__class__")))
    (h_ic4_BadCount : PySem.W.mroIn K c_BadCount (.type "object") = some true)
    (h_nf_BadCount_count : PySem.W.findIn K (.ref c_BadCount) "count" = some none)
    (h_sb_BadCount : PySem.W.subIn K (.ref c_BadCount) (.ref c_TestError) = some true)
    (h_xl_BadRelation : K.lookup c_BadRelation = some (excClassObj nm_BadRelation qn_BadRelation c_BadRelation ns_BadRelation bs_BadRelation [.ref c_TestError, .type "ValueError", .type "Exception", .type "BaseException", .type "object"] true sn_BadRelation sub_BadRelation ab_BadRelation col_BadRelation dd_BadRelation m0_BadRelation m1_BadRelation m2_BadRelation m3_BadRelation m5_BadRelation "ValueError.__new__"))
    (h_sa_BadRelation : PySem.W.findIn K (.ref c_BadRelation) "__setattr__" = some (some (.builtin "object.__setattr__")))
    (h_eb_BadRelation : PySem.W.subIn K (.ref c_BadRelation) (.type "BaseException") = some true)
    (h_ty_BadRelation : PySem.W.typeIn K (.ref c_BadRelation) = some (.type "type"))
    (h_kc_BadRelation : PySem.W.keepIn K (.ref c_BadRelation) = true)
    (h_ga_BadRelation : PySem.W.findIn K (.ref c_BadRelation) "__getattribute__" = some (some (.builtin "BaseException.__getattribute__")))
    (h_gg_BadRelation : PySem.W.findIn K (.ref c_BadRelation) "__getattr__" = some none)
    (h_hd_BadRelation : PySem.W.hasDictIn K c_BadRelation = true)
    (h_ss_BadRelation : PySem.W.subIn K (.ref c_BadRelation) (.ref c_BadRelation) = some true)
    (h_ic1_BadRelation : PySem.W.findIn K (.ref c_BadRelation) "__class__" = some (some (.builtin "object.__class__")))
    (h_ic4_BadRelation : PySem.W.mroIn K c_BadRelation (.type "object") = some true)
    (h_nf_BadRelation_word : PySem.W.findIn K (.ref c_BadRelation) "word" = some none)
    (h_sb_BadRelation : PySem.W.subIn K (.ref c_BadRelation) (.ref c_TestError) = some true)
    (h_xl_BadPositions : K.lookup c_BadPositions = some (excClassObj nm_BadPositions qn_BadPositions c_BadPositions ns_BadPositions bs_BadPositions [.ref c_TestError, .type "ValueError", .type "Exception", .type "BaseException", .type "object"] true sn_BadPositions sub_BadPositions ab_BadPositions col_BadPositions dd_BadPositions m0_BadPositions m1_BadPositions m2_BadPositions m3_BadPositions m5_BadPositions "ValueError.__new__"))
    (h_sa_BadPositions : PySem.W.findIn K (.ref c_BadPositions) "__setattr__" = some (some (.builtin "object.__setattr__")))
    (h_eb_BadPositions : PySem.W.subIn K (.ref c_BadPositions) (.type "BaseException") = some true)
    (h_ty_BadPositions : PySem.W.typeIn K (.ref c_BadPositions) = some (.type "type"))
    (h_kc_BadPositions : PySem.W.keepIn K (.ref c_BadPositions) = true)
    (h_ga_BadPositions : PySem.W.findIn K (.ref c_BadPositions) "__getattribute__" = some (some (.builtin "BaseException.__getattribute__")))
    (h_gg_BadPositions : PySem.W.findIn K (.ref c_BadPositions) "__getattr__" = some none)
    (h_hd_BadPositions : PySem.W.hasDictIn K c_BadPositions = true)
    (h_ss_BadPositions : PySem.W.subIn K (.ref c_BadPositions) (.ref c_BadPositions) = some true)
    (h_ic1_BadPositions : PySem.W.findIn K (.ref c_BadPositions) "__class__" = some (some (.builtin "object.__class__")))
    (h_ic4_BadPositions : PySem.W.mroIn K c_BadPositions (.type "object") = some true)
    (h_nf_BadPositions_index : PySem.W.findIn K (.ref c_BadPositions) "index" = some none)
    (h_sb_BadPositions : PySem.W.subIn K (.ref c_BadPositions) (.ref c_TestError) = some true)
    (h_xl_NoFinal : K.lookup c_NoFinal = some (excClassObj nm_NoFinal qn_NoFinal c_NoFinal ns_NoFinal bs_NoFinal [.ref c_TestError, .type "ValueError", .type "Exception", .type "BaseException", .type "object"] true sn_NoFinal sub_NoFinal ab_NoFinal col_NoFinal dd_NoFinal m0_NoFinal m1_NoFinal m2_NoFinal m3_NoFinal m5_NoFinal "ValueError.__new__"))
    (h_sa_NoFinal : PySem.W.findIn K (.ref c_NoFinal) "__setattr__" = some (some (.builtin "object.__setattr__")))
    (h_eb_NoFinal : PySem.W.subIn K (.ref c_NoFinal) (.type "BaseException") = some true)
    (h_ty_NoFinal : PySem.W.typeIn K (.ref c_NoFinal) = some (.type "type"))
    (h_kc_NoFinal : PySem.W.keepIn K (.ref c_NoFinal) = true)
    (h_ga_NoFinal : PySem.W.findIn K (.ref c_NoFinal) "__getattribute__" = some (some (.builtin "BaseException.__getattribute__")))
    (h_gg_NoFinal : PySem.W.findIn K (.ref c_NoFinal) "__getattr__" = some none)
    (h_hd_NoFinal : PySem.W.hasDictIn K c_NoFinal = true)
    (h_ss_NoFinal : PySem.W.subIn K (.ref c_NoFinal) (.ref c_NoFinal) = some true)
    (h_ic1_NoFinal : PySem.W.findIn K (.ref c_NoFinal) "__class__" = some (some (.builtin "object.__class__")))
    (h_ic4_NoFinal : PySem.W.mroIn K c_NoFinal (.type "object") = some true)
    (h_nf_NoFinal_ends : PySem.W.findIn K (.ref c_NoFinal) "ends" = some none)
    (h_sb_NoFinal : PySem.W.subIn K (.ref c_NoFinal) (.ref c_TestError) = some true)
    (h_xl_NotReached : K.lookup c_NotReached = some (excClassObj nm_NotReached qn_NotReached c_NotReached ns_NotReached bs_NotReached [.ref c_TestError, .type "ValueError", .type "Exception", .type "BaseException", .type "object"] true sn_NotReached sub_NotReached ab_NotReached col_NotReached dd_NotReached m0_NotReached m1_NotReached m2_NotReached m3_NotReached m5_NotReached "ValueError.__new__"))
    (h_sa_NotReached : PySem.W.findIn K (.ref c_NotReached) "__setattr__" = some (some (.builtin "object.__setattr__")))
    (h_eb_NotReached : PySem.W.subIn K (.ref c_NotReached) (.type "BaseException") = some true)
    (h_ty_NotReached : PySem.W.typeIn K (.ref c_NotReached) = some (.type "type"))
    (h_kc_NotReached : PySem.W.keepIn K (.ref c_NotReached) = true)
    (h_ga_NotReached : PySem.W.findIn K (.ref c_NotReached) "__getattribute__" = some (some (.builtin "BaseException.__getattribute__")))
    (h_gg_NotReached : PySem.W.findIn K (.ref c_NotReached) "__getattr__" = some none)
    (h_hd_NotReached : PySem.W.hasDictIn K c_NotReached = true)
    (h_ss_NotReached : PySem.W.subIn K (.ref c_NotReached) (.ref c_NotReached) = some true)
    (h_ic1_NotReached : PySem.W.findIn K (.ref c_NotReached) "__class__" = some (some (.builtin "object.__class__")))
    (h_ic4_NotReached : PySem.W.mroIn K c_NotReached (.type "object") = some true)
    (h_nf_NotReached_index : PySem.W.findIn K (.ref c_NotReached) "index" = some none)
    (h_sb_NotReached : PySem.W.subIn K (.ref c_NotReached) (.ref c_TestError) = some true)
    (h_xl_NoEnd : K.lookup c_NoEnd = some (excClassObj nm_NoEnd qn_NoEnd c_NoEnd ns_NoEnd bs_NoEnd [.ref c_TestError, .type "ValueError", .type "Exception", .type "BaseException", .type "object"] true sn_NoEnd sub_NoEnd ab_NoEnd col_NoEnd dd_NoEnd m0_NoEnd m1_NoEnd m2_NoEnd m3_NoEnd m5_NoEnd "ValueError.__new__"))
    (h_sa_NoEnd : PySem.W.findIn K (.ref c_NoEnd) "__setattr__" = some (some (.builtin "object.__setattr__")))
    (h_eb_NoEnd : PySem.W.subIn K (.ref c_NoEnd) (.type "BaseException") = some true)
    (h_ty_NoEnd : PySem.W.typeIn K (.ref c_NoEnd) = some (.type "type"))
    (h_kc_NoEnd : PySem.W.keepIn K (.ref c_NoEnd) = true)
    (h_ga_NoEnd : PySem.W.findIn K (.ref c_NoEnd) "__getattribute__" = some (some (.builtin "BaseException.__getattribute__")))
    (h_gg_NoEnd : PySem.W.findIn K (.ref c_NoEnd) "__getattr__" = some none)
    (h_hd_NoEnd : PySem.W.hasDictIn K c_NoEnd = true)
    (h_ss_NoEnd : PySem.W.subIn K (.ref c_NoEnd) (.ref c_NoEnd) = some true)
    (h_ic1_NoEnd : PySem.W.findIn K (.ref c_NoEnd) "__class__" = some (some (.builtin "object.__class__")))
    (h_ic4_NoEnd : PySem.W.mroIn K c_NoEnd (.type "object") = some true)
    (h_nf_NoEnd_number : PySem.W.findIn K (.ref c_NoEnd) "number" = some none)
    (h_sb_NoEnd : PySem.W.subIn K (.ref c_NoEnd) (.ref c_TestError) = some true)
    (h_xl_ZeroBottom : K.lookup c_ZeroBottom = some (excClassObj nm_ZeroBottom qn_ZeroBottom c_ZeroBottom ns_ZeroBottom bs_ZeroBottom [.ref c_TestError, .type "ValueError", .type "Exception", .type "BaseException", .type "object"] true sn_ZeroBottom sub_ZeroBottom ab_ZeroBottom col_ZeroBottom dd_ZeroBottom m0_ZeroBottom m1_ZeroBottom m2_ZeroBottom m3_ZeroBottom m5_ZeroBottom "ValueError.__new__"))
    (h_sa_ZeroBottom : PySem.W.findIn K (.ref c_ZeroBottom) "__setattr__" = some (some (.builtin "object.__setattr__")))
    (h_eb_ZeroBottom : PySem.W.subIn K (.ref c_ZeroBottom) (.type "BaseException") = some true)
    (h_ty_ZeroBottom : PySem.W.typeIn K (.ref c_ZeroBottom) = some (.type "type"))
    (h_kc_ZeroBottom : PySem.W.keepIn K (.ref c_ZeroBottom) = true)
    (h_ga_ZeroBottom : PySem.W.findIn K (.ref c_ZeroBottom) "__getattribute__" = some (some (.builtin "BaseException.__getattribute__")))
    (h_gg_ZeroBottom : PySem.W.findIn K (.ref c_ZeroBottom) "__getattr__" = some none)
    (h_hd_ZeroBottom : PySem.W.hasDictIn K c_ZeroBottom = true)
    (h_ss_ZeroBottom : PySem.W.subIn K (.ref c_ZeroBottom) (.ref c_ZeroBottom) = some true)
    (h_ic1_ZeroBottom : PySem.W.findIn K (.ref c_ZeroBottom) "__class__" = some (some (.builtin "object.__class__")))
    (h_ic4_ZeroBottom : PySem.W.mroIn K c_ZeroBottom (.type "object") = some true)
    (h_sb_ZeroBottom : PySem.W.subIn K (.ref c_ZeroBottom) (.ref c_TestError) = some true)
    (h_xl_NoChance : K.lookup c_NoChance = some (excClassObj nm_NoChance qn_NoChance c_NoChance ns_NoChance bs_NoChance [.ref c_TestError, .type "ValueError", .type "Exception", .type "BaseException", .type "object"] true sn_NoChance sub_NoChance ab_NoChance col_NoChance dd_NoChance m0_NoChance m1_NoChance m2_NoChance m3_NoChance m5_NoChance "ValueError.__new__"))
    (h_sa_NoChance : PySem.W.findIn K (.ref c_NoChance) "__setattr__" = some (some (.builtin "object.__setattr__")))
    (h_eb_NoChance : PySem.W.subIn K (.ref c_NoChance) (.type "BaseException") = some true)
    (h_ty_NoChance : PySem.W.typeIn K (.ref c_NoChance) = some (.type "type"))
    (h_kc_NoChance : PySem.W.keepIn K (.ref c_NoChance) = true)
    (h_ga_NoChance : PySem.W.findIn K (.ref c_NoChance) "__getattribute__" = some (some (.builtin "BaseException.__getattribute__")))
    (h_gg_NoChance : PySem.W.findIn K (.ref c_NoChance) "__getattr__" = some none)
    (h_hd_NoChance : PySem.W.hasDictIn K c_NoChance = true)
    (h_ss_NoChance : PySem.W.subIn K (.ref c_NoChance) (.ref c_NoChance) = some true)
    (h_ic1_NoChance : PySem.W.findIn K (.ref c_NoChance) "__class__" = some (some (.builtin "object.__class__")))
    (h_ic4_NoChance : PySem.W.mroIn K c_NoChance (.type "object") = some true)
    (h_nf_NoChance_number : PySem.W.findIn K (.ref c_NoChance) "number" = some none)
    (h_sb_NoChance : PySem.W.subIn K (.ref c_NoChance) (.ref c_TestError) = some true)
    (h_xl_BadChance : K.lookup c_BadChance = some (excClassObj nm_BadChance qn_BadChance c_BadChance ns_BadChance bs_BadChance [.ref c_TestError, .type "ValueError", .type "Exception", .type "BaseException", .type "object"] true sn_BadChance sub_BadChance ab_BadChance col_BadChance dd_BadChance m0_BadChance m1_BadChance m2_BadChance m3_BadChance m5_BadChance "ValueError.__new__"))
    (h_sa_BadChance : PySem.W.findIn K (.ref c_BadChance) "__setattr__" = some (some (.builtin "object.__setattr__")))
    (h_eb_BadChance : PySem.W.subIn K (.ref c_BadChance) (.type "BaseException") = some true)
    (h_ty_BadChance : PySem.W.typeIn K (.ref c_BadChance) = some (.type "type"))
    (h_kc_BadChance : PySem.W.keepIn K (.ref c_BadChance) = true)
    (h_ga_BadChance : PySem.W.findIn K (.ref c_BadChance) "__getattribute__" = some (some (.builtin "BaseException.__getattribute__")))
    (h_gg_BadChance : PySem.W.findIn K (.ref c_BadChance) "__getattr__" = some none)
    (h_hd_BadChance : PySem.W.hasDictIn K c_BadChance = true)
    (h_ss_BadChance : PySem.W.subIn K (.ref c_BadChance) (.ref c_BadChance) = some true)
    (h_ic1_BadChance : PySem.W.findIn K (.ref c_BadChance) "__class__" = some (some (.builtin "object.__class__")))
    (h_ic4_BadChance : PySem.W.mroIn K c_BadChance (.type "object") = some true)
    (h_nf_BadChance_number : PySem.W.findIn K (.ref c_BadChance) "number" = some none)
    (h_sb_BadChance : PySem.W.subIn K (.ref c_BadChance) (.ref c_TestError) = some true)
    (h_xl_ZeroPolynomial : K.lookup c_ZeroPolynomial = some (excClassObj nm_ZeroPolynomial qn_ZeroPolynomial c_ZeroPolynomial ns_ZeroPolynomial bs_ZeroPolynomial [.ref c_TestError, .type "ValueError", .type "Exception", .type "BaseException", .type "object"] true sn_ZeroPolynomial sub_ZeroPolynomial ab_ZeroPolynomial col_ZeroPolynomial dd_ZeroPolynomial m0_ZeroPolynomial m1_ZeroPolynomial m2_ZeroPolynomial m3_ZeroPolynomial m5_ZeroPolynomial "ValueError.__new__"))
    (h_sa_ZeroPolynomial : PySem.W.findIn K (.ref c_ZeroPolynomial) "__setattr__" = some (some (.builtin "object.__setattr__")))
    (h_eb_ZeroPolynomial : PySem.W.subIn K (.ref c_ZeroPolynomial) (.type "BaseException") = some true)
    (h_ty_ZeroPolynomial : PySem.W.typeIn K (.ref c_ZeroPolynomial) = some (.type "type"))
    (h_kc_ZeroPolynomial : PySem.W.keepIn K (.ref c_ZeroPolynomial) = true)
    (h_ga_ZeroPolynomial : PySem.W.findIn K (.ref c_ZeroPolynomial) "__getattribute__" = some (some (.builtin "BaseException.__getattribute__")))
    (h_gg_ZeroPolynomial : PySem.W.findIn K (.ref c_ZeroPolynomial) "__getattr__" = some none)
    (h_hd_ZeroPolynomial : PySem.W.hasDictIn K c_ZeroPolynomial = true)
    (h_ss_ZeroPolynomial : PySem.W.subIn K (.ref c_ZeroPolynomial) (.ref c_ZeroPolynomial) = some true)
    (h_ic1_ZeroPolynomial : PySem.W.findIn K (.ref c_ZeroPolynomial) "__class__" = some (some (.builtin "object.__class__")))
    (h_ic4_ZeroPolynomial : PySem.W.mroIn K c_ZeroPolynomial (.type "object") = some true)
    (h_sb_ZeroPolynomial : PySem.W.subIn K (.ref c_ZeroPolynomial) (.ref c_TestError) = some true)
    (h_xl_BadInterval : K.lookup c_BadInterval = some (excClassObj nm_BadInterval qn_BadInterval c_BadInterval ns_BadInterval bs_BadInterval [.ref c_TestError, .type "ValueError", .type "Exception", .type "BaseException", .type "object"] true sn_BadInterval sub_BadInterval ab_BadInterval col_BadInterval dd_BadInterval m0_BadInterval m1_BadInterval m2_BadInterval m3_BadInterval m5_BadInterval "ValueError.__new__"))
    (h_sa_BadInterval : PySem.W.findIn K (.ref c_BadInterval) "__setattr__" = some (some (.builtin "object.__setattr__")))
    (h_eb_BadInterval : PySem.W.subIn K (.ref c_BadInterval) (.type "BaseException") = some true)
    (h_ty_BadInterval : PySem.W.typeIn K (.ref c_BadInterval) = some (.type "type"))
    (h_kc_BadInterval : PySem.W.keepIn K (.ref c_BadInterval) = true)
    (h_ga_BadInterval : PySem.W.findIn K (.ref c_BadInterval) "__getattribute__" = some (some (.builtin "BaseException.__getattribute__")))
    (h_gg_BadInterval : PySem.W.findIn K (.ref c_BadInterval) "__getattr__" = some none)
    (h_hd_BadInterval : PySem.W.hasDictIn K c_BadInterval = true)
    (h_ss_BadInterval : PySem.W.subIn K (.ref c_BadInterval) (.ref c_BadInterval) = some true)
    (h_ic1_BadInterval : PySem.W.findIn K (.ref c_BadInterval) "__class__" = some (some (.builtin "object.__class__")))
    (h_ic4_BadInterval : PySem.W.mroIn K c_BadInterval (.type "object") = some true)
    (h_sb_BadInterval : PySem.W.subIn K (.ref c_BadInterval) (.ref c_TestError) = some true)
    (h_xl_NoSkip : K.lookup c_NoSkip = some (excClassObj nm_NoSkip qn_NoSkip c_NoSkip ns_NoSkip bs_NoSkip [.ref c_TestError, .type "ValueError", .type "Exception", .type "BaseException", .type "object"] true sn_NoSkip sub_NoSkip ab_NoSkip col_NoSkip dd_NoSkip m0_NoSkip m1_NoSkip m2_NoSkip m3_NoSkip m5_NoSkip "ValueError.__new__"))
    (h_sa_NoSkip : PySem.W.findIn K (.ref c_NoSkip) "__setattr__" = some (some (.builtin "object.__setattr__")))
    (h_eb_NoSkip : PySem.W.subIn K (.ref c_NoSkip) (.type "BaseException") = some true)
    (h_ty_NoSkip : PySem.W.typeIn K (.ref c_NoSkip) = some (.type "type"))
    (h_kc_NoSkip : PySem.W.keepIn K (.ref c_NoSkip) = true)
    (h_ga_NoSkip : PySem.W.findIn K (.ref c_NoSkip) "__getattribute__" = some (some (.builtin "BaseException.__getattribute__")))
    (h_gg_NoSkip : PySem.W.findIn K (.ref c_NoSkip) "__getattr__" = some none)
    (h_hd_NoSkip : PySem.W.hasDictIn K c_NoSkip = true)
    (h_ss_NoSkip : PySem.W.subIn K (.ref c_NoSkip) (.ref c_NoSkip) = some true)
    (h_ic1_NoSkip : PySem.W.findIn K (.ref c_NoSkip) "__class__" = some (some (.builtin "object.__class__")))
    (h_ic4_NoSkip : PySem.W.mroIn K c_NoSkip (.type "object") = some true)
    (h_nf_NoSkip_index : PySem.W.findIn K (.ref c_NoSkip) "index" = some none)
    (h_sb_NoSkip : PySem.W.subIn K (.ref c_NoSkip) (.ref c_TestError) = some true)
    (h_xl_NotComing : K.lookup c_NotComing = some (excClassObj nm_NotComing qn_NotComing c_NotComing ns_NotComing bs_NotComing [.ref c_TestError, .type "ValueError", .type "Exception", .type "BaseException", .type "object"] true sn_NotComing sub_NotComing ab_NotComing col_NotComing dd_NotComing m0_NotComing m1_NotComing m2_NotComing m3_NotComing m5_NotComing "ValueError.__new__"))
    (h_sa_NotComing : PySem.W.findIn K (.ref c_NotComing) "__setattr__" = some (some (.builtin "object.__setattr__")))
    (h_eb_NotComing : PySem.W.subIn K (.ref c_NotComing) (.type "BaseException") = some true)
    (h_ty_NotComing : PySem.W.typeIn K (.ref c_NotComing) = some (.type "type"))
    (h_kc_NotComing : PySem.W.keepIn K (.ref c_NotComing) = true)
    (h_ga_NotComing : PySem.W.findIn K (.ref c_NotComing) "__getattribute__" = some (some (.builtin "BaseException.__getattribute__")))
    (h_gg_NotComing : PySem.W.findIn K (.ref c_NotComing) "__getattr__" = some none)
    (h_hd_NotComing : PySem.W.hasDictIn K c_NotComing = true)
    (h_ss_NotComing : PySem.W.subIn K (.ref c_NotComing) (.ref c_NotComing) = some true)
    (h_ic1_NotComing : PySem.W.findIn K (.ref c_NotComing) "__class__" = some (some (.builtin "object.__class__")))
    (h_ic4_NotComing : PySem.W.mroIn K c_NotComing (.type "object") = some true)
    (h_nf_NotComing_index : PySem.W.findIn K (.ref c_NotComing) "index" = some none)
    (h_sb_NotComing : PySem.W.subIn K (.ref c_NotComing) (.ref c_TestError) = some true)
    (h_xl_NoPupils : K.lookup c_NoPupils = some (excClassObj nm_NoPupils qn_NoPupils c_NoPupils ns_NoPupils bs_NoPupils [.ref c_TestError, .type "ValueError", .type "Exception", .type "BaseException", .type "object"] true sn_NoPupils sub_NoPupils ab_NoPupils col_NoPupils dd_NoPupils m0_NoPupils m1_NoPupils m2_NoPupils m3_NoPupils m5_NoPupils "ValueError.__new__"))
    (h_sa_NoPupils : PySem.W.findIn K (.ref c_NoPupils) "__setattr__" = some (some (.builtin "object.__setattr__")))
    (h_eb_NoPupils : PySem.W.subIn K (.ref c_NoPupils) (.type "BaseException") = some true)
    (h_ty_NoPupils : PySem.W.typeIn K (.ref c_NoPupils) = some (.type "type"))
    (h_kc_NoPupils : PySem.W.keepIn K (.ref c_NoPupils) = true)
    (h_ga_NoPupils : PySem.W.findIn K (.ref c_NoPupils) "__getattribute__" = some (some (.builtin "BaseException.__getattribute__")))
    (h_gg_NoPupils : PySem.W.findIn K (.ref c_NoPupils) "__getattr__" = some none)
    (h_hd_NoPupils : PySem.W.hasDictIn K c_NoPupils = true)
    (h_ss_NoPupils : PySem.W.subIn K (.ref c_NoPupils) (.ref c_NoPupils) = some true)
    (h_ic1_NoPupils : PySem.W.findIn K (.ref c_NoPupils) "__class__" = some (some (.builtin "object.__class__")))
    (h_ic4_NoPupils : PySem.W.mroIn K c_NoPupils (.type "object") = some true)
    (h_sb_NoPupils : PySem.W.subIn K (.ref c_NoPupils) (.ref c_TestError) = some true)
    (h_xl_BadLength : K.lookup c_BadLength = some (excClassObj nm_BadLength qn_BadLength c_BadLength ns_BadLength bs_BadLength [.ref c_TestError, .type "ValueError", .type "Exception", .type "BaseException", .type "object"] true sn_BadLength sub_BadLength ab_BadLength col_BadLength dd_BadLength m0_BadLength m1_BadLength m2_BadLength m3_BadLength m5_BadLength "ValueError.__new__"))
    (h_sa_BadLength : PySem.W.findIn K (.ref c_BadLength) "__setattr__" = some (some (.builtin "object.__setattr__")))
    (h_eb_BadLength : PySem.W.subIn K (.ref c_BadLength) (.type "BaseException") = some true)
    (h_ty_BadLength : PySem.W.typeIn K (.ref c_BadLength) = some (.type "type"))
    (h_kc_BadLength : PySem.W.keepIn K (.ref c_BadLength) = true)
    (h_ga_BadLength : PySem.W.findIn K (.ref c_BadLength) "__getattribute__" = some (some (.builtin "BaseException.__getattribute__")))
    (h_gg_BadLength : PySem.W.findIn K (.ref c_BadLength) "__getattr__" = some none)
    (h_hd_BadLength : PySem.W.hasDictIn K c_BadLength = true)
    (h_ss_BadLength : PySem.W.subIn K (.ref c_BadLength) (.ref c_BadLength) = some true)
    (h_ic1_BadLength : PySem.W.findIn K (.ref c_BadLength) "__class__" = some (some (.builtin "object.__class__")))
    (h_ic4_BadLength : PySem.W.mroIn K c_BadLength (.type "object") = some true)
    (h_nf_BadLength_count : PySem.W.findIn K (.ref c_BadLength) "count" = some none)
    (h_sb_BadLength : PySem.W.subIn K (.ref c_BadLength) (.ref c_TestError) = some true)
    (h_xl_AlikePupils : K.lookup c_AlikePupils = some (excClassObj nm_AlikePupils qn_AlikePupils c_AlikePupils ns_AlikePupils bs_AlikePupils [.ref c_TestError, .type "ValueError", .type "Exception", .type "BaseException", .type "object"] true sn_AlikePupils sub_AlikePupils ab_AlikePupils col_AlikePupils dd_AlikePupils m0_AlikePupils m1_AlikePupils m2_AlikePupils m3_AlikePupils m5_AlikePupils "ValueError.__new__"))
    (h_sa_AlikePupils : PySem.W.findIn K (.ref c_AlikePupils) "__setattr__" = some (some (.builtin "object.__setattr__")))
    (h_eb_AlikePupils : PySem.W.subIn K (.ref c_AlikePupils) (.type "BaseException") = some true)
    (h_ty_AlikePupils : PySem.W.typeIn K (.ref c_AlikePupils) = some (.type "type"))
    (h_kc_AlikePupils : PySem.W.keepIn K (.ref c_AlikePupils) = true)
    (h_ga_AlikePupils : PySem.W.findIn K (.ref c_AlikePupils) "__getattribute__" = some (some (.builtin "BaseException.__getattribute__")))
    (h_gg_AlikePupils : PySem.W.findIn K (.ref c_AlikePupils) "__getattr__" = some none)
    (h_hd_AlikePupils : PySem.W.hasDictIn K c_AlikePupils = true)
    (h_ss_AlikePupils : PySem.W.subIn K (.ref c_AlikePupils) (.ref c_AlikePupils) = some true)
    (h_ic1_AlikePupils : PySem.W.findIn K (.ref c_AlikePupils) "__class__" = some (some (.builtin "object.__class__")))
    (h_ic4_AlikePupils : PySem.W.mroIn K c_AlikePupils (.type "object") = some true)
    (h_nf_AlikePupils_first : PySem.W.findIn K (.ref c_AlikePupils) "first" = some none)
    (h_nf_AlikePupils_second : PySem.W.findIn K (.ref c_AlikePupils) "second" = some none)
    (h_sb_AlikePupils : PySem.W.subIn K (.ref c_AlikePupils) (.ref c_TestError) = some true)
    (h_xl_BadLine : K.lookup c_BadLine = some (excClassObj nm_BadLine qn_BadLine c_BadLine ns_BadLine bs_BadLine [.ref c_TestError, .type "ValueError", .type "Exception", .type "BaseException", .type "object"] true sn_BadLine sub_BadLine ab_BadLine col_BadLine dd_BadLine m0_BadLine m1_BadLine m2_BadLine m3_BadLine m5_BadLine "ValueError.__new__"))
    (h_sa_BadLine : PySem.W.findIn K (.ref c_BadLine) "__setattr__" = some (some (.builtin "object.__setattr__")))
    (h_eb_BadLine : PySem.W.subIn K (.ref c_BadLine) (.type "BaseException") = some true)
    (h_ty_BadLine : PySem.W.typeIn K (.ref c_BadLine) = some (.type "type"))
    (h_kc_BadLine : PySem.W.keepIn K (.ref c_BadLine) = true)
    (h_ga_BadLine : PySem.W.findIn K (.ref c_BadLine) "__getattribute__" = some (some (.builtin "BaseException.__getattribute__")))
    (h_gg_BadLine : PySem.W.findIn K (.ref c_BadLine) "__getattr__" = some none)
    (h_hd_BadLine : PySem.W.hasDictIn K c_BadLine = true)
    (h_ss_BadLine : PySem.W.subIn K (.ref c_BadLine) (.ref c_BadLine) = some true)
    (h_ic1_BadLine : PySem.W.findIn K (.ref c_BadLine) "__class__" = some (some (.builtin "object.__class__")))
    (h_ic4_BadLine : PySem.W.mroIn K c_BadLine (.type "object") = some true)
    (h_nf_BadLine_line : PySem.W.findIn K (.ref c_BadLine) "line" = some none)
    (h_sb_BadLine : PySem.W.subIn K (.ref c_BadLine) (.ref c_TestError) = some true)
    (h_xl_Ended : K.lookup c_Ended = some (excClassObj nm_Ended qn_Ended c_Ended ns_Ended bs_Ended [.ref c_TestError, .type "ValueError", .type "Exception", .type "BaseException", .type "object"] true sn_Ended sub_Ended ab_Ended col_Ended dd_Ended m0_Ended m1_Ended m2_Ended m3_Ended m5_Ended "ValueError.__new__"))
    (h_sa_Ended : PySem.W.findIn K (.ref c_Ended) "__setattr__" = some (some (.builtin "object.__setattr__")))
    (h_eb_Ended : PySem.W.subIn K (.ref c_Ended) (.type "BaseException") = some true)
    (h_ty_Ended : PySem.W.typeIn K (.ref c_Ended) = some (.type "type"))
    (h_kc_Ended : PySem.W.keepIn K (.ref c_Ended) = true)
    (h_ga_Ended : PySem.W.findIn K (.ref c_Ended) "__getattribute__" = some (some (.builtin "BaseException.__getattribute__")))
    (h_gg_Ended : PySem.W.findIn K (.ref c_Ended) "__getattr__" = some none)
    (h_hd_Ended : PySem.W.hasDictIn K c_Ended = true)
    (h_ss_Ended : PySem.W.subIn K (.ref c_Ended) (.ref c_Ended) = some true)
    (h_ic1_Ended : PySem.W.findIn K (.ref c_Ended) "__class__" = some (some (.builtin "object.__class__")))
    (h_ic4_Ended : PySem.W.mroIn K c_Ended (.type "object") = some true)
    (h_sb_Ended : PySem.W.subIn K (.ref c_Ended) (.ref c_TestError) = some true)
    (h_xl_BadDeed : K.lookup c_BadDeed = some (excClassObj nm_BadDeed qn_BadDeed c_BadDeed ns_BadDeed bs_BadDeed [.ref c_TestError, .type "ValueError", .type "Exception", .type "BaseException", .type "object"] true sn_BadDeed sub_BadDeed ab_BadDeed col_BadDeed dd_BadDeed m0_BadDeed m1_BadDeed m2_BadDeed m3_BadDeed m5_BadDeed "ValueError.__new__"))
    (h_sa_BadDeed : PySem.W.findIn K (.ref c_BadDeed) "__setattr__" = some (some (.builtin "object.__setattr__")))
    (h_eb_BadDeed : PySem.W.subIn K (.ref c_BadDeed) (.type "BaseException") = some true)
    (h_ty_BadDeed : PySem.W.typeIn K (.ref c_BadDeed) = some (.type "type"))
    (h_kc_BadDeed : PySem.W.keepIn K (.ref c_BadDeed) = true)
    (h_ga_BadDeed : PySem.W.findIn K (.ref c_BadDeed) "__getattribute__" = some (some (.builtin "BaseException.__getattribute__")))
    (h_gg_BadDeed : PySem.W.findIn K (.ref c_BadDeed) "__getattr__" = some none)
    (h_hd_BadDeed : PySem.W.hasDictIn K c_BadDeed = true)
    (h_ss_BadDeed : PySem.W.subIn K (.ref c_BadDeed) (.ref c_BadDeed) = some true)
    (h_ic1_BadDeed : PySem.W.findIn K (.ref c_BadDeed) "__class__" = some (some (.builtin "object.__class__")))
    (h_ic4_BadDeed : PySem.W.mroIn K c_BadDeed (.type "object") = some true)
    (h_nf_BadDeed_index : PySem.W.findIn K (.ref c_BadDeed) "index" = some none)
    (h_sb_BadDeed : PySem.W.subIn K (.ref c_BadDeed) (.ref c_TestError) = some true)
    (h_icl_BadEnds : PySem.W.isClsIn K c_BadEnds = true)
    (h_icl_BadNode : PySem.W.isClsIn K c_BadNode = true)
    (h_icl_BadStart : PySem.W.isClsIn K c_BadStart = true)
    (h_icl_TwiceAsked : PySem.W.isClsIn K c_TwiceAsked = true)
    (h_icl_NoNode : PySem.W.isClsIn K c_NoNode = true)
    (h_icl_NoPosition : PySem.W.isClsIn K c_NoPosition = true)
    (h_icl_BadQuestion : PySem.W.isClsIn K c_BadQuestion = true)
    (h_icl_BadMarks : PySem.W.isClsIn K c_BadMarks = true)
    (h_icl_BadLadder : PySem.W.isClsIn K c_BadLadder = true)
    (h_icl_BadCount : PySem.W.isClsIn K c_BadCount = true)
    (h_icl_BadRelation : PySem.W.isClsIn K c_BadRelation = true)
    (h_icl_BadPositions : PySem.W.isClsIn K c_BadPositions = true)
    (h_icl_NoFinal : PySem.W.isClsIn K c_NoFinal = true)
    (h_icl_NotReached : PySem.W.isClsIn K c_NotReached = true)
    (h_icl_NoEnd : PySem.W.isClsIn K c_NoEnd = true)
    (h_icl_ZeroBottom : PySem.W.isClsIn K c_ZeroBottom = true)
    (h_icl_NoChance : PySem.W.isClsIn K c_NoChance = true)
    (h_icl_BadChance : PySem.W.isClsIn K c_BadChance = true)
    (h_icl_ZeroPolynomial : PySem.W.isClsIn K c_ZeroPolynomial = true)
    (h_icl_BadInterval : PySem.W.isClsIn K c_BadInterval = true)
    (h_icl_NoSkip : PySem.W.isClsIn K c_NoSkip = true)
    (h_icl_NotComing : PySem.W.isClsIn K c_NotComing = true)
    (h_icl_NoPupils : PySem.W.isClsIn K c_NoPupils = true)
    (h_icl_BadLength : PySem.W.isClsIn K c_BadLength = true)
    (h_icl_AlikePupils : PySem.W.isClsIn K c_AlikePupils = true)
    (h_icl_BadLine : PySem.W.isClsIn K c_BadLine = true)
    (h_icl_Ended : PySem.W.isClsIn K c_Ended = true)
    (h_icl_BadDeed : PySem.W.isClsIn K c_BadDeed = true)
    (h_hks_BadEnds_BadNode : PySem.W.subIn K (.ref c_BadEnds) (.ref c_BadNode) = some false)
    (h_hks_BadEnds_BadStart : PySem.W.subIn K (.ref c_BadEnds) (.ref c_BadStart) = some false)
    (h_hks_BadEnds_TwiceAsked : PySem.W.subIn K (.ref c_BadEnds) (.ref c_TwiceAsked) = some false)
    (h_hks_BadEnds_NoNode : PySem.W.subIn K (.ref c_BadEnds) (.ref c_NoNode) = some false)
    (h_hks_BadEnds_NoPosition : PySem.W.subIn K (.ref c_BadEnds) (.ref c_NoPosition) = some false)
    (h_hks_BadEnds_BadQuestion : PySem.W.subIn K (.ref c_BadEnds) (.ref c_BadQuestion) = some false)
    (h_hks_BadEnds_BadMarks : PySem.W.subIn K (.ref c_BadEnds) (.ref c_BadMarks) = some false)
    (h_hks_BadEnds_BadLadder : PySem.W.subIn K (.ref c_BadEnds) (.ref c_BadLadder) = some false)
    (h_hks_BadEnds_BadCount : PySem.W.subIn K (.ref c_BadEnds) (.ref c_BadCount) = some false)
    (h_hks_BadEnds_BadRelation : PySem.W.subIn K (.ref c_BadEnds) (.ref c_BadRelation) = some false)
    (h_hks_BadEnds_BadPositions : PySem.W.subIn K (.ref c_BadEnds) (.ref c_BadPositions) = some false)
    (h_hks_BadEnds_NoFinal : PySem.W.subIn K (.ref c_BadEnds) (.ref c_NoFinal) = some false)
    (h_hks_BadEnds_NotReached : PySem.W.subIn K (.ref c_BadEnds) (.ref c_NotReached) = some false)
    (h_hks_BadEnds_NoEnd : PySem.W.subIn K (.ref c_BadEnds) (.ref c_NoEnd) = some false)
    (h_hks_BadEnds_ZeroBottom : PySem.W.subIn K (.ref c_BadEnds) (.ref c_ZeroBottom) = some false)
    (h_hks_BadEnds_NoChance : PySem.W.subIn K (.ref c_BadEnds) (.ref c_NoChance) = some false)
    (h_hks_BadEnds_BadChance : PySem.W.subIn K (.ref c_BadEnds) (.ref c_BadChance) = some false)
    (h_hks_BadEnds_ZeroPolynomial : PySem.W.subIn K (.ref c_BadEnds) (.ref c_ZeroPolynomial) = some false)
    (h_hks_BadEnds_BadInterval : PySem.W.subIn K (.ref c_BadEnds) (.ref c_BadInterval) = some false)
    (h_hks_BadEnds_NoSkip : PySem.W.subIn K (.ref c_BadEnds) (.ref c_NoSkip) = some false)
    (h_hks_BadEnds_NotComing : PySem.W.subIn K (.ref c_BadEnds) (.ref c_NotComing) = some false)
    (h_hks_BadEnds_NoPupils : PySem.W.subIn K (.ref c_BadEnds) (.ref c_NoPupils) = some false)
    (h_hks_BadEnds_BadLength : PySem.W.subIn K (.ref c_BadEnds) (.ref c_BadLength) = some false)
    (h_hks_BadEnds_AlikePupils : PySem.W.subIn K (.ref c_BadEnds) (.ref c_AlikePupils) = some false)
    (h_hks_BadEnds_BadLine : PySem.W.subIn K (.ref c_BadEnds) (.ref c_BadLine) = some false)
    (h_hks_BadEnds_Ended : PySem.W.subIn K (.ref c_BadEnds) (.ref c_Ended) = some false)
    (h_hks_BadEnds_BadDeed : PySem.W.subIn K (.ref c_BadEnds) (.ref c_BadDeed) = some false)
    (h_hks_BadNode_BadEnds : PySem.W.subIn K (.ref c_BadNode) (.ref c_BadEnds) = some false)
    (h_hks_BadNode_BadStart : PySem.W.subIn K (.ref c_BadNode) (.ref c_BadStart) = some false)
    (h_hks_BadNode_TwiceAsked : PySem.W.subIn K (.ref c_BadNode) (.ref c_TwiceAsked) = some false)
    (h_hks_BadNode_NoNode : PySem.W.subIn K (.ref c_BadNode) (.ref c_NoNode) = some false)
    (h_hks_BadNode_NoPosition : PySem.W.subIn K (.ref c_BadNode) (.ref c_NoPosition) = some false)
    (h_hks_BadNode_BadQuestion : PySem.W.subIn K (.ref c_BadNode) (.ref c_BadQuestion) = some false)
    (h_hks_BadNode_BadMarks : PySem.W.subIn K (.ref c_BadNode) (.ref c_BadMarks) = some false)
    (h_hks_BadNode_BadLadder : PySem.W.subIn K (.ref c_BadNode) (.ref c_BadLadder) = some false)
    (h_hks_BadNode_BadCount : PySem.W.subIn K (.ref c_BadNode) (.ref c_BadCount) = some false)
    (h_hks_BadNode_BadRelation : PySem.W.subIn K (.ref c_BadNode) (.ref c_BadRelation) = some false)
    (h_hks_BadNode_BadPositions : PySem.W.subIn K (.ref c_BadNode) (.ref c_BadPositions) = some false)
    (h_hks_BadNode_NoFinal : PySem.W.subIn K (.ref c_BadNode) (.ref c_NoFinal) = some false)
    (h_hks_BadNode_NotReached : PySem.W.subIn K (.ref c_BadNode) (.ref c_NotReached) = some false)
    (h_hks_BadNode_NoEnd : PySem.W.subIn K (.ref c_BadNode) (.ref c_NoEnd) = some false)
    (h_hks_BadNode_ZeroBottom : PySem.W.subIn K (.ref c_BadNode) (.ref c_ZeroBottom) = some false)
    (h_hks_BadNode_NoChance : PySem.W.subIn K (.ref c_BadNode) (.ref c_NoChance) = some false)
    (h_hks_BadNode_BadChance : PySem.W.subIn K (.ref c_BadNode) (.ref c_BadChance) = some false)
    (h_hks_BadNode_ZeroPolynomial : PySem.W.subIn K (.ref c_BadNode) (.ref c_ZeroPolynomial) = some false)
    (h_hks_BadNode_BadInterval : PySem.W.subIn K (.ref c_BadNode) (.ref c_BadInterval) = some false)
    (h_hks_BadNode_NoSkip : PySem.W.subIn K (.ref c_BadNode) (.ref c_NoSkip) = some false)
    (h_hks_BadNode_NotComing : PySem.W.subIn K (.ref c_BadNode) (.ref c_NotComing) = some false)
    (h_hks_BadNode_NoPupils : PySem.W.subIn K (.ref c_BadNode) (.ref c_NoPupils) = some false)
    (h_hks_BadNode_BadLength : PySem.W.subIn K (.ref c_BadNode) (.ref c_BadLength) = some false)
    (h_hks_BadNode_AlikePupils : PySem.W.subIn K (.ref c_BadNode) (.ref c_AlikePupils) = some false)
    (h_hks_BadNode_BadLine : PySem.W.subIn K (.ref c_BadNode) (.ref c_BadLine) = some false)
    (h_hks_BadNode_Ended : PySem.W.subIn K (.ref c_BadNode) (.ref c_Ended) = some false)
    (h_hks_BadNode_BadDeed : PySem.W.subIn K (.ref c_BadNode) (.ref c_BadDeed) = some false)
    (h_hks_BadStart_BadEnds : PySem.W.subIn K (.ref c_BadStart) (.ref c_BadEnds) = some false)
    (h_hks_BadStart_BadNode : PySem.W.subIn K (.ref c_BadStart) (.ref c_BadNode) = some false)
    (h_hks_BadStart_TwiceAsked : PySem.W.subIn K (.ref c_BadStart) (.ref c_TwiceAsked) = some false)
    (h_hks_BadStart_NoNode : PySem.W.subIn K (.ref c_BadStart) (.ref c_NoNode) = some false)
    (h_hks_BadStart_NoPosition : PySem.W.subIn K (.ref c_BadStart) (.ref c_NoPosition) = some false)
    (h_hks_BadStart_BadQuestion : PySem.W.subIn K (.ref c_BadStart) (.ref c_BadQuestion) = some false)
    (h_hks_BadStart_BadMarks : PySem.W.subIn K (.ref c_BadStart) (.ref c_BadMarks) = some false)
    (h_hks_BadStart_BadLadder : PySem.W.subIn K (.ref c_BadStart) (.ref c_BadLadder) = some false)
    (h_hks_BadStart_BadCount : PySem.W.subIn K (.ref c_BadStart) (.ref c_BadCount) = some false)
    (h_hks_BadStart_BadRelation : PySem.W.subIn K (.ref c_BadStart) (.ref c_BadRelation) = some false)
    (h_hks_BadStart_BadPositions : PySem.W.subIn K (.ref c_BadStart) (.ref c_BadPositions) = some false)
    (h_hks_BadStart_NoFinal : PySem.W.subIn K (.ref c_BadStart) (.ref c_NoFinal) = some false)
    (h_hks_BadStart_NotReached : PySem.W.subIn K (.ref c_BadStart) (.ref c_NotReached) = some false)
    (h_hks_BadStart_NoEnd : PySem.W.subIn K (.ref c_BadStart) (.ref c_NoEnd) = some false)
    (h_hks_BadStart_ZeroBottom : PySem.W.subIn K (.ref c_BadStart) (.ref c_ZeroBottom) = some false)
    (h_hks_BadStart_NoChance : PySem.W.subIn K (.ref c_BadStart) (.ref c_NoChance) = some false)
    (h_hks_BadStart_BadChance : PySem.W.subIn K (.ref c_BadStart) (.ref c_BadChance) = some false)
    (h_hks_BadStart_ZeroPolynomial : PySem.W.subIn K (.ref c_BadStart) (.ref c_ZeroPolynomial) = some false)
    (h_hks_BadStart_BadInterval : PySem.W.subIn K (.ref c_BadStart) (.ref c_BadInterval) = some false)
    (h_hks_BadStart_NoSkip : PySem.W.subIn K (.ref c_BadStart) (.ref c_NoSkip) = some false)
    (h_hks_BadStart_NotComing : PySem.W.subIn K (.ref c_BadStart) (.ref c_NotComing) = some false)
    (h_hks_BadStart_NoPupils : PySem.W.subIn K (.ref c_BadStart) (.ref c_NoPupils) = some false)
    (h_hks_BadStart_BadLength : PySem.W.subIn K (.ref c_BadStart) (.ref c_BadLength) = some false)
    (h_hks_BadStart_AlikePupils : PySem.W.subIn K (.ref c_BadStart) (.ref c_AlikePupils) = some false)
    (h_hks_BadStart_BadLine : PySem.W.subIn K (.ref c_BadStart) (.ref c_BadLine) = some false)
    (h_hks_BadStart_Ended : PySem.W.subIn K (.ref c_BadStart) (.ref c_Ended) = some false)
    (h_hks_BadStart_BadDeed : PySem.W.subIn K (.ref c_BadStart) (.ref c_BadDeed) = some false)
    (h_hks_TwiceAsked_BadEnds : PySem.W.subIn K (.ref c_TwiceAsked) (.ref c_BadEnds) = some false)
    (h_hks_TwiceAsked_BadNode : PySem.W.subIn K (.ref c_TwiceAsked) (.ref c_BadNode) = some false)
    (h_hks_TwiceAsked_BadStart : PySem.W.subIn K (.ref c_TwiceAsked) (.ref c_BadStart) = some false)
    (h_hks_TwiceAsked_NoNode : PySem.W.subIn K (.ref c_TwiceAsked) (.ref c_NoNode) = some false)
    (h_hks_TwiceAsked_NoPosition : PySem.W.subIn K (.ref c_TwiceAsked) (.ref c_NoPosition) = some false)
    (h_hks_TwiceAsked_BadQuestion : PySem.W.subIn K (.ref c_TwiceAsked) (.ref c_BadQuestion) = some false)
    (h_hks_TwiceAsked_BadMarks : PySem.W.subIn K (.ref c_TwiceAsked) (.ref c_BadMarks) = some false)
    (h_hks_TwiceAsked_BadLadder : PySem.W.subIn K (.ref c_TwiceAsked) (.ref c_BadLadder) = some false)
    (h_hks_TwiceAsked_BadCount : PySem.W.subIn K (.ref c_TwiceAsked) (.ref c_BadCount) = some false)
    (h_hks_TwiceAsked_BadRelation : PySem.W.subIn K (.ref c_TwiceAsked) (.ref c_BadRelation) = some false)
    (h_hks_TwiceAsked_BadPositions : PySem.W.subIn K (.ref c_TwiceAsked) (.ref c_BadPositions) = some false)
    (h_hks_TwiceAsked_NoFinal : PySem.W.subIn K (.ref c_TwiceAsked) (.ref c_NoFinal) = some false)
    (h_hks_TwiceAsked_NotReached : PySem.W.subIn K (.ref c_TwiceAsked) (.ref c_NotReached) = some false)
    (h_hks_TwiceAsked_NoEnd : PySem.W.subIn K (.ref c_TwiceAsked) (.ref c_NoEnd) = some false)
    (h_hks_TwiceAsked_ZeroBottom : PySem.W.subIn K (.ref c_TwiceAsked) (.ref c_ZeroBottom) = some false)
    (h_hks_TwiceAsked_NoChance : PySem.W.subIn K (.ref c_TwiceAsked) (.ref c_NoChance) = some false)
    (h_hks_TwiceAsked_BadChance : PySem.W.subIn K (.ref c_TwiceAsked) (.ref c_BadChance) = some false)
    (h_hks_TwiceAsked_ZeroPolynomial : PySem.W.subIn K (.ref c_TwiceAsked) (.ref c_ZeroPolynomial) = some false)
    (h_hks_TwiceAsked_BadInterval : PySem.W.subIn K (.ref c_TwiceAsked) (.ref c_BadInterval) = some false)
    (h_hks_TwiceAsked_NoSkip : PySem.W.subIn K (.ref c_TwiceAsked) (.ref c_NoSkip) = some false)
    (h_hks_TwiceAsked_NotComing : PySem.W.subIn K (.ref c_TwiceAsked) (.ref c_NotComing) = some false)
    (h_hks_TwiceAsked_NoPupils : PySem.W.subIn K (.ref c_TwiceAsked) (.ref c_NoPupils) = some false)
    (h_hks_TwiceAsked_BadLength : PySem.W.subIn K (.ref c_TwiceAsked) (.ref c_BadLength) = some false)
    (h_hks_TwiceAsked_AlikePupils : PySem.W.subIn K (.ref c_TwiceAsked) (.ref c_AlikePupils) = some false)
    (h_hks_TwiceAsked_BadLine : PySem.W.subIn K (.ref c_TwiceAsked) (.ref c_BadLine) = some false)
    (h_hks_TwiceAsked_Ended : PySem.W.subIn K (.ref c_TwiceAsked) (.ref c_Ended) = some false)
    (h_hks_TwiceAsked_BadDeed : PySem.W.subIn K (.ref c_TwiceAsked) (.ref c_BadDeed) = some false)
    (h_hks_NoNode_BadEnds : PySem.W.subIn K (.ref c_NoNode) (.ref c_BadEnds) = some false)
    (h_hks_NoNode_BadNode : PySem.W.subIn K (.ref c_NoNode) (.ref c_BadNode) = some false)
    (h_hks_NoNode_BadStart : PySem.W.subIn K (.ref c_NoNode) (.ref c_BadStart) = some false)
    (h_hks_NoNode_TwiceAsked : PySem.W.subIn K (.ref c_NoNode) (.ref c_TwiceAsked) = some false)
    (h_hks_NoNode_NoPosition : PySem.W.subIn K (.ref c_NoNode) (.ref c_NoPosition) = some false)
    (h_hks_NoNode_BadQuestion : PySem.W.subIn K (.ref c_NoNode) (.ref c_BadQuestion) = some false)
    (h_hks_NoNode_BadMarks : PySem.W.subIn K (.ref c_NoNode) (.ref c_BadMarks) = some false)
    (h_hks_NoNode_BadLadder : PySem.W.subIn K (.ref c_NoNode) (.ref c_BadLadder) = some false)
    (h_hks_NoNode_BadCount : PySem.W.subIn K (.ref c_NoNode) (.ref c_BadCount) = some false)
    (h_hks_NoNode_BadRelation : PySem.W.subIn K (.ref c_NoNode) (.ref c_BadRelation) = some false)
    (h_hks_NoNode_BadPositions : PySem.W.subIn K (.ref c_NoNode) (.ref c_BadPositions) = some false)
    (h_hks_NoNode_NoFinal : PySem.W.subIn K (.ref c_NoNode) (.ref c_NoFinal) = some false)
    (h_hks_NoNode_NotReached : PySem.W.subIn K (.ref c_NoNode) (.ref c_NotReached) = some false)
    (h_hks_NoNode_NoEnd : PySem.W.subIn K (.ref c_NoNode) (.ref c_NoEnd) = some false)
    (h_hks_NoNode_ZeroBottom : PySem.W.subIn K (.ref c_NoNode) (.ref c_ZeroBottom) = some false)
    (h_hks_NoNode_NoChance : PySem.W.subIn K (.ref c_NoNode) (.ref c_NoChance) = some false)
    (h_hks_NoNode_BadChance : PySem.W.subIn K (.ref c_NoNode) (.ref c_BadChance) = some false)
    (h_hks_NoNode_ZeroPolynomial : PySem.W.subIn K (.ref c_NoNode) (.ref c_ZeroPolynomial) = some false)
    (h_hks_NoNode_BadInterval : PySem.W.subIn K (.ref c_NoNode) (.ref c_BadInterval) = some false)
    (h_hks_NoNode_NoSkip : PySem.W.subIn K (.ref c_NoNode) (.ref c_NoSkip) = some false)
    (h_hks_NoNode_NotComing : PySem.W.subIn K (.ref c_NoNode) (.ref c_NotComing) = some false)
    (h_hks_NoNode_NoPupils : PySem.W.subIn K (.ref c_NoNode) (.ref c_NoPupils) = some false)
    (h_hks_NoNode_BadLength : PySem.W.subIn K (.ref c_NoNode) (.ref c_BadLength) = some false)
    (h_hks_NoNode_AlikePupils : PySem.W.subIn K (.ref c_NoNode) (.ref c_AlikePupils) = some false)
    (h_hks_NoNode_BadLine : PySem.W.subIn K (.ref c_NoNode) (.ref c_BadLine) = some false)
    (h_hks_NoNode_Ended : PySem.W.subIn K (.ref c_NoNode) (.ref c_Ended) = some false)
    (h_hks_NoNode_BadDeed : PySem.W.subIn K (.ref c_NoNode) (.ref c_BadDeed) = some false)
    (h_hks_NoPosition_BadEnds : PySem.W.subIn K (.ref c_NoPosition) (.ref c_BadEnds) = some false)
    (h_hks_NoPosition_BadNode : PySem.W.subIn K (.ref c_NoPosition) (.ref c_BadNode) = some false)
    (h_hks_NoPosition_BadStart : PySem.W.subIn K (.ref c_NoPosition) (.ref c_BadStart) = some false)
    (h_hks_NoPosition_TwiceAsked : PySem.W.subIn K (.ref c_NoPosition) (.ref c_TwiceAsked) = some false)
    (h_hks_NoPosition_NoNode : PySem.W.subIn K (.ref c_NoPosition) (.ref c_NoNode) = some false)
    (h_hks_NoPosition_BadQuestion : PySem.W.subIn K (.ref c_NoPosition) (.ref c_BadQuestion) = some false)
    (h_hks_NoPosition_BadMarks : PySem.W.subIn K (.ref c_NoPosition) (.ref c_BadMarks) = some false)
    (h_hks_NoPosition_BadLadder : PySem.W.subIn K (.ref c_NoPosition) (.ref c_BadLadder) = some false)
    (h_hks_NoPosition_BadCount : PySem.W.subIn K (.ref c_NoPosition) (.ref c_BadCount) = some false)
    (h_hks_NoPosition_BadRelation : PySem.W.subIn K (.ref c_NoPosition) (.ref c_BadRelation) = some false)
    (h_hks_NoPosition_BadPositions : PySem.W.subIn K (.ref c_NoPosition) (.ref c_BadPositions) = some false)
    (h_hks_NoPosition_NoFinal : PySem.W.subIn K (.ref c_NoPosition) (.ref c_NoFinal) = some false)
    (h_hks_NoPosition_NotReached : PySem.W.subIn K (.ref c_NoPosition) (.ref c_NotReached) = some false)
    (h_hks_NoPosition_NoEnd : PySem.W.subIn K (.ref c_NoPosition) (.ref c_NoEnd) = some false)
    (h_hks_NoPosition_ZeroBottom : PySem.W.subIn K (.ref c_NoPosition) (.ref c_ZeroBottom) = some false)
    (h_hks_NoPosition_NoChance : PySem.W.subIn K (.ref c_NoPosition) (.ref c_NoChance) = some false)
    (h_hks_NoPosition_BadChance : PySem.W.subIn K (.ref c_NoPosition) (.ref c_BadChance) = some false)
    (h_hks_NoPosition_ZeroPolynomial : PySem.W.subIn K (.ref c_NoPosition) (.ref c_ZeroPolynomial) = some false)
    (h_hks_NoPosition_BadInterval : PySem.W.subIn K (.ref c_NoPosition) (.ref c_BadInterval) = some false)
    (h_hks_NoPosition_NoSkip : PySem.W.subIn K (.ref c_NoPosition) (.ref c_NoSkip) = some false)
    (h_hks_NoPosition_NotComing : PySem.W.subIn K (.ref c_NoPosition) (.ref c_NotComing) = some false)
    (h_hks_NoPosition_NoPupils : PySem.W.subIn K (.ref c_NoPosition) (.ref c_NoPupils) = some false)
    (h_hks_NoPosition_BadLength : PySem.W.subIn K (.ref c_NoPosition) (.ref c_BadLength) = some false)
    (h_hks_NoPosition_AlikePupils : PySem.W.subIn K (.ref c_NoPosition) (.ref c_AlikePupils) = some false)
    (h_hks_NoPosition_BadLine : PySem.W.subIn K (.ref c_NoPosition) (.ref c_BadLine) = some false)
    (h_hks_NoPosition_Ended : PySem.W.subIn K (.ref c_NoPosition) (.ref c_Ended) = some false)
    (h_hks_NoPosition_BadDeed : PySem.W.subIn K (.ref c_NoPosition) (.ref c_BadDeed) = some false)
    (h_hks_BadQuestion_BadEnds : PySem.W.subIn K (.ref c_BadQuestion) (.ref c_BadEnds) = some false)
    (h_hks_BadQuestion_BadNode : PySem.W.subIn K (.ref c_BadQuestion) (.ref c_BadNode) = some false)
    (h_hks_BadQuestion_BadStart : PySem.W.subIn K (.ref c_BadQuestion) (.ref c_BadStart) = some false)
    (h_hks_BadQuestion_TwiceAsked : PySem.W.subIn K (.ref c_BadQuestion) (.ref c_TwiceAsked) = some false)
    (h_hks_BadQuestion_NoNode : PySem.W.subIn K (.ref c_BadQuestion) (.ref c_NoNode) = some false)
    (h_hks_BadQuestion_NoPosition : PySem.W.subIn K (.ref c_BadQuestion) (.ref c_NoPosition) = some false)
    (h_hks_BadQuestion_BadMarks : PySem.W.subIn K (.ref c_BadQuestion) (.ref c_BadMarks) = some false)
    (h_hks_BadQuestion_BadLadder : PySem.W.subIn K (.ref c_BadQuestion) (.ref c_BadLadder) = some false)
    (h_hks_BadQuestion_BadCount : PySem.W.subIn K (.ref c_BadQuestion) (.ref c_BadCount) = some false)
    (h_hks_BadQuestion_BadRelation : PySem.W.subIn K (.ref c_BadQuestion) (.ref c_BadRelation) = some false)
    (h_hks_BadQuestion_BadPositions : PySem.W.subIn K (.ref c_BadQuestion) (.ref c_BadPositions) = some false)
    (h_hks_BadQuestion_NoFinal : PySem.W.subIn K (.ref c_BadQuestion) (.ref c_NoFinal) = some false)
    (h_hks_BadQuestion_NotReached : PySem.W.subIn K (.ref c_BadQuestion) (.ref c_NotReached) = some false)
    (h_hks_BadQuestion_NoEnd : PySem.W.subIn K (.ref c_BadQuestion) (.ref c_NoEnd) = some false)
    (h_hks_BadQuestion_ZeroBottom : PySem.W.subIn K (.ref c_BadQuestion) (.ref c_ZeroBottom) = some false)
    (h_hks_BadQuestion_NoChance : PySem.W.subIn K (.ref c_BadQuestion) (.ref c_NoChance) = some false)
    (h_hks_BadQuestion_BadChance : PySem.W.subIn K (.ref c_BadQuestion) (.ref c_BadChance) = some false)
    (h_hks_BadQuestion_ZeroPolynomial : PySem.W.subIn K (.ref c_BadQuestion) (.ref c_ZeroPolynomial) = some false)
    (h_hks_BadQuestion_BadInterval : PySem.W.subIn K (.ref c_BadQuestion) (.ref c_BadInterval) = some false)
    (h_hks_BadQuestion_NoSkip : PySem.W.subIn K (.ref c_BadQuestion) (.ref c_NoSkip) = some false)
    (h_hks_BadQuestion_NotComing : PySem.W.subIn K (.ref c_BadQuestion) (.ref c_NotComing) = some false)
    (h_hks_BadQuestion_NoPupils : PySem.W.subIn K (.ref c_BadQuestion) (.ref c_NoPupils) = some false)
    (h_hks_BadQuestion_BadLength : PySem.W.subIn K (.ref c_BadQuestion) (.ref c_BadLength) = some false)
    (h_hks_BadQuestion_AlikePupils : PySem.W.subIn K (.ref c_BadQuestion) (.ref c_AlikePupils) = some false)
    (h_hks_BadQuestion_BadLine : PySem.W.subIn K (.ref c_BadQuestion) (.ref c_BadLine) = some false)
    (h_hks_BadQuestion_Ended : PySem.W.subIn K (.ref c_BadQuestion) (.ref c_Ended) = some false)
    (h_hks_BadQuestion_BadDeed : PySem.W.subIn K (.ref c_BadQuestion) (.ref c_BadDeed) = some false)
    (h_hks_BadMarks_BadEnds : PySem.W.subIn K (.ref c_BadMarks) (.ref c_BadEnds) = some false)
    (h_hks_BadMarks_BadNode : PySem.W.subIn K (.ref c_BadMarks) (.ref c_BadNode) = some false)
    (h_hks_BadMarks_BadStart : PySem.W.subIn K (.ref c_BadMarks) (.ref c_BadStart) = some false)
    (h_hks_BadMarks_TwiceAsked : PySem.W.subIn K (.ref c_BadMarks) (.ref c_TwiceAsked) = some false)
    (h_hks_BadMarks_NoNode : PySem.W.subIn K (.ref c_BadMarks) (.ref c_NoNode) = some false)
    (h_hks_BadMarks_NoPosition : PySem.W.subIn K (.ref c_BadMarks) (.ref c_NoPosition) = some false)
    (h_hks_BadMarks_BadQuestion : PySem.W.subIn K (.ref c_BadMarks) (.ref c_BadQuestion) = some false)
    (h_hks_BadMarks_BadLadder : PySem.W.subIn K (.ref c_BadMarks) (.ref c_BadLadder) = some false)
    (h_hks_BadMarks_BadCount : PySem.W.subIn K (.ref c_BadMarks) (.ref c_BadCount) = some false)
    (h_hks_BadMarks_BadRelation : PySem.W.subIn K (.ref c_BadMarks) (.ref c_BadRelation) = some false)
    (h_hks_BadMarks_BadPositions : PySem.W.subIn K (.ref c_BadMarks) (.ref c_BadPositions) = some false)
    (h_hks_BadMarks_NoFinal : PySem.W.subIn K (.ref c_BadMarks) (.ref c_NoFinal) = some false)
    (h_hks_BadMarks_NotReached : PySem.W.subIn K (.ref c_BadMarks) (.ref c_NotReached) = some false)
    (h_hks_BadMarks_NoEnd : PySem.W.subIn K (.ref c_BadMarks) (.ref c_NoEnd) = some false)
    (h_hks_BadMarks_ZeroBottom : PySem.W.subIn K (.ref c_BadMarks) (.ref c_ZeroBottom) = some false)
    (h_hks_BadMarks_NoChance : PySem.W.subIn K (.ref c_BadMarks) (.ref c_NoChance) = some false)
    (h_hks_BadMarks_BadChance : PySem.W.subIn K (.ref c_BadMarks) (.ref c_BadChance) = some false)
    (h_hks_BadMarks_ZeroPolynomial : PySem.W.subIn K (.ref c_BadMarks) (.ref c_ZeroPolynomial) = some false)
    (h_hks_BadMarks_BadInterval : PySem.W.subIn K (.ref c_BadMarks) (.ref c_BadInterval) = some false)
    (h_hks_BadMarks_NoSkip : PySem.W.subIn K (.ref c_BadMarks) (.ref c_NoSkip) = some false)
    (h_hks_BadMarks_NotComing : PySem.W.subIn K (.ref c_BadMarks) (.ref c_NotComing) = some false)
    (h_hks_BadMarks_NoPupils : PySem.W.subIn K (.ref c_BadMarks) (.ref c_NoPupils) = some false)
    (h_hks_BadMarks_BadLength : PySem.W.subIn K (.ref c_BadMarks) (.ref c_BadLength) = some false)
    (h_hks_BadMarks_AlikePupils : PySem.W.subIn K (.ref c_BadMarks) (.ref c_AlikePupils) = some false)
    (h_hks_BadMarks_BadLine : PySem.W.subIn K (.ref c_BadMarks) (.ref c_BadLine) = some false)
    (h_hks_BadMarks_Ended : PySem.W.subIn K (.ref c_BadMarks) (.ref c_Ended) = some false)
    (h_hks_BadMarks_BadDeed : PySem.W.subIn K (.ref c_BadMarks) (.ref c_BadDeed) = some false)
    (h_hks_BadLadder_BadEnds : PySem.W.subIn K (.ref c_BadLadder) (.ref c_BadEnds) = some false)
    (h_hks_BadLadder_BadNode : PySem.W.subIn K (.ref c_BadLadder) (.ref c_BadNode) = some false)
    (h_hks_BadLadder_BadStart : PySem.W.subIn K (.ref c_BadLadder) (.ref c_BadStart) = some false)
    (h_hks_BadLadder_TwiceAsked : PySem.W.subIn K (.ref c_BadLadder) (.ref c_TwiceAsked) = some false)
    (h_hks_BadLadder_NoNode : PySem.W.subIn K (.ref c_BadLadder) (.ref c_NoNode) = some false)
    (h_hks_BadLadder_NoPosition : PySem.W.subIn K (.ref c_BadLadder) (.ref c_NoPosition) = some false)
    (h_hks_BadLadder_BadQuestion : PySem.W.subIn K (.ref c_BadLadder) (.ref c_BadQuestion) = some false)
    (h_hks_BadLadder_BadMarks : PySem.W.subIn K (.ref c_BadLadder) (.ref c_BadMarks) = some false)
    (h_hks_BadLadder_BadCount : PySem.W.subIn K (.ref c_BadLadder) (.ref c_BadCount) = some false)
    (h_hks_BadLadder_BadRelation : PySem.W.subIn K (.ref c_BadLadder) (.ref c_BadRelation) = some false)
    (h_hks_BadLadder_BadPositions : PySem.W.subIn K (.ref c_BadLadder) (.ref c_BadPositions) = some false)
    (h_hks_BadLadder_NoFinal : PySem.W.subIn K (.ref c_BadLadder) (.ref c_NoFinal) = some false)
    (h_hks_BadLadder_NotReached : PySem.W.subIn K (.ref c_BadLadder) (.ref c_NotReached) = some false)
    (h_hks_BadLadder_NoEnd : PySem.W.subIn K (.ref c_BadLadder) (.ref c_NoEnd) = some false)
    (h_hks_BadLadder_ZeroBottom : PySem.W.subIn K (.ref c_BadLadder) (.ref c_ZeroBottom) = some false)
    (h_hks_BadLadder_NoChance : PySem.W.subIn K (.ref c_BadLadder) (.ref c_NoChance) = some false)
    (h_hks_BadLadder_BadChance : PySem.W.subIn K (.ref c_BadLadder) (.ref c_BadChance) = some false)
    (h_hks_BadLadder_ZeroPolynomial : PySem.W.subIn K (.ref c_BadLadder) (.ref c_ZeroPolynomial) = some false)
    (h_hks_BadLadder_BadInterval : PySem.W.subIn K (.ref c_BadLadder) (.ref c_BadInterval) = some false)
    (h_hks_BadLadder_NoSkip : PySem.W.subIn K (.ref c_BadLadder) (.ref c_NoSkip) = some false)
    (h_hks_BadLadder_NotComing : PySem.W.subIn K (.ref c_BadLadder) (.ref c_NotComing) = some false)
    (h_hks_BadLadder_NoPupils : PySem.W.subIn K (.ref c_BadLadder) (.ref c_NoPupils) = some false)
    (h_hks_BadLadder_BadLength : PySem.W.subIn K (.ref c_BadLadder) (.ref c_BadLength) = some false)
    (h_hks_BadLadder_AlikePupils : PySem.W.subIn K (.ref c_BadLadder) (.ref c_AlikePupils) = some false)
    (h_hks_BadLadder_BadLine : PySem.W.subIn K (.ref c_BadLadder) (.ref c_BadLine) = some false)
    (h_hks_BadLadder_Ended : PySem.W.subIn K (.ref c_BadLadder) (.ref c_Ended) = some false)
    (h_hks_BadLadder_BadDeed : PySem.W.subIn K (.ref c_BadLadder) (.ref c_BadDeed) = some false)
    (h_hks_BadCount_BadEnds : PySem.W.subIn K (.ref c_BadCount) (.ref c_BadEnds) = some false)
    (h_hks_BadCount_BadNode : PySem.W.subIn K (.ref c_BadCount) (.ref c_BadNode) = some false)
    (h_hks_BadCount_BadStart : PySem.W.subIn K (.ref c_BadCount) (.ref c_BadStart) = some false)
    (h_hks_BadCount_TwiceAsked : PySem.W.subIn K (.ref c_BadCount) (.ref c_TwiceAsked) = some false)
    (h_hks_BadCount_NoNode : PySem.W.subIn K (.ref c_BadCount) (.ref c_NoNode) = some false)
    (h_hks_BadCount_NoPosition : PySem.W.subIn K (.ref c_BadCount) (.ref c_NoPosition) = some false)
    (h_hks_BadCount_BadQuestion : PySem.W.subIn K (.ref c_BadCount) (.ref c_BadQuestion) = some false)
    (h_hks_BadCount_BadMarks : PySem.W.subIn K (.ref c_BadCount) (.ref c_BadMarks) = some false)
    (h_hks_BadCount_BadLadder : PySem.W.subIn K (.ref c_BadCount) (.ref c_BadLadder) = some false)
    (h_hks_BadCount_BadRelation : PySem.W.subIn K (.ref c_BadCount) (.ref c_BadRelation) = some false)
    (h_hks_BadCount_BadPositions : PySem.W.subIn K (.ref c_BadCount) (.ref c_BadPositions) = some false)
    (h_hks_BadCount_NoFinal : PySem.W.subIn K (.ref c_BadCount) (.ref c_NoFinal) = some false)
    (h_hks_BadCount_NotReached : PySem.W.subIn K (.ref c_BadCount) (.ref c_NotReached) = some false)
    (h_hks_BadCount_NoEnd : PySem.W.subIn K (.ref c_BadCount) (.ref c_NoEnd) = some false)
    (h_hks_BadCount_ZeroBottom : PySem.W.subIn K (.ref c_BadCount) (.ref c_ZeroBottom) = some false)
    (h_hks_BadCount_NoChance : PySem.W.subIn K (.ref c_BadCount) (.ref c_NoChance) = some false)
    (h_hks_BadCount_BadChance : PySem.W.subIn K (.ref c_BadCount) (.ref c_BadChance) = some false)
    (h_hks_BadCount_ZeroPolynomial : PySem.W.subIn K (.ref c_BadCount) (.ref c_ZeroPolynomial) = some false)
    (h_hks_BadCount_BadInterval : PySem.W.subIn K (.ref c_BadCount) (.ref c_BadInterval) = some false)
    (h_hks_BadCount_NoSkip : PySem.W.subIn K (.ref c_BadCount) (.ref c_NoSkip) = some false)
    (h_hks_BadCount_NotComing : PySem.W.subIn K (.ref c_BadCount) (.ref c_NotComing) = some false)
    (h_hks_BadCount_NoPupils : PySem.W.subIn K (.ref c_BadCount) (.ref c_NoPupils) = some false)
    (h_hks_BadCount_BadLength : PySem.W.subIn K (.ref c_BadCount) (.ref c_BadLength) = some false)
    (h_hks_BadCount_AlikePupils : PySem.W.subIn K (.ref c_BadCount) (.ref c_AlikePupils) = some false)
    (h_hks_BadCount_BadLine : PySem.W.subIn K (.ref c_BadCount) (.ref c_BadLine) = some false)
    (h_hks_BadCount_Ended : PySem.W.subIn K (.ref c_BadCount) (.ref c_Ended) = some false)
    (h_hks_BadCount_BadDeed : PySem.W.subIn K (.ref c_BadCount) (.ref c_BadDeed) = some false)
    (h_hks_BadRelation_BadEnds : PySem.W.subIn K (.ref c_BadRelation) (.ref c_BadEnds) = some false)
    (h_hks_BadRelation_BadNode : PySem.W.subIn K (.ref c_BadRelation) (.ref c_BadNode) = some false)
    (h_hks_BadRelation_BadStart : PySem.W.subIn K (.ref c_BadRelation) (.ref c_BadStart) = some false)
    (h_hks_BadRelation_TwiceAsked : PySem.W.subIn K (.ref c_BadRelation) (.ref c_TwiceAsked) = some false)
    (h_hks_BadRelation_NoNode : PySem.W.subIn K (.ref c_BadRelation) (.ref c_NoNode) = some false)
    (h_hks_BadRelation_NoPosition : PySem.W.subIn K (.ref c_BadRelation) (.ref c_NoPosition) = some false)
    (h_hks_BadRelation_BadQuestion : PySem.W.subIn K (.ref c_BadRelation) (.ref c_BadQuestion) = some false)
    (h_hks_BadRelation_BadMarks : PySem.W.subIn K (.ref c_BadRelation) (.ref c_BadMarks) = some false)
    (h_hks_BadRelation_BadLadder : PySem.W.subIn K (.ref c_BadRelation) (.ref c_BadLadder) = some false)
    (h_hks_BadRelation_BadCount : PySem.W.subIn K (.ref c_BadRelation) (.ref c_BadCount) = some false)
    (h_hks_BadRelation_BadPositions : PySem.W.subIn K (.ref c_BadRelation) (.ref c_BadPositions) = some false)
    (h_hks_BadRelation_NoFinal : PySem.W.subIn K (.ref c_BadRelation) (.ref c_NoFinal) = some false)
    (h_hks_BadRelation_NotReached : PySem.W.subIn K (.ref c_BadRelation) (.ref c_NotReached) = some false)
    (h_hks_BadRelation_NoEnd : PySem.W.subIn K (.ref c_BadRelation) (.ref c_NoEnd) = some false)
    (h_hks_BadRelation_ZeroBottom : PySem.W.subIn K (.ref c_BadRelation) (.ref c_ZeroBottom) = some false)
    (h_hks_BadRelation_NoChance : PySem.W.subIn K (.ref c_BadRelation) (.ref c_NoChance) = some false)
    (h_hks_BadRelation_BadChance : PySem.W.subIn K (.ref c_BadRelation) (.ref c_BadChance) = some false)
    (h_hks_BadRelation_ZeroPolynomial : PySem.W.subIn K (.ref c_BadRelation) (.ref c_ZeroPolynomial) = some false)
    (h_hks_BadRelation_BadInterval : PySem.W.subIn K (.ref c_BadRelation) (.ref c_BadInterval) = some false)
    (h_hks_BadRelation_NoSkip : PySem.W.subIn K (.ref c_BadRelation) (.ref c_NoSkip) = some false)
    (h_hks_BadRelation_NotComing : PySem.W.subIn K (.ref c_BadRelation) (.ref c_NotComing) = some false)
    (h_hks_BadRelation_NoPupils : PySem.W.subIn K (.ref c_BadRelation) (.ref c_NoPupils) = some false)
    (h_hks_BadRelation_BadLength : PySem.W.subIn K (.ref c_BadRelation) (.ref c_BadLength) = some false)
    (h_hks_BadRelation_AlikePupils : PySem.W.subIn K (.ref c_BadRelation) (.ref c_AlikePupils) = some false)
    (h_hks_BadRelation_BadLine : PySem.W.subIn K (.ref c_BadRelation) (.ref c_BadLine) = some false)
    (h_hks_BadRelation_Ended : PySem.W.subIn K (.ref c_BadRelation) (.ref c_Ended) = some false)
    (h_hks_BadRelation_BadDeed : PySem.W.subIn K (.ref c_BadRelation) (.ref c_BadDeed) = some false)
    (h_hks_BadPositions_BadEnds : PySem.W.subIn K (.ref c_BadPositions) (.ref c_BadEnds) = some false)
    (h_hks_BadPositions_BadNode : PySem.W.subIn K (.ref c_BadPositions) (.ref c_BadNode) = some false)
    (h_hks_BadPositions_BadStart : PySem.W.subIn K (.ref c_BadPositions) (.ref c_BadStart) = some false)
    (h_hks_BadPositions_TwiceAsked : PySem.W.subIn K (.ref c_BadPositions) (.ref c_TwiceAsked) = some false)
    (h_hks_BadPositions_NoNode : PySem.W.subIn K (.ref c_BadPositions) (.ref c_NoNode) = some false)
    (h_hks_BadPositions_NoPosition : PySem.W.subIn K (.ref c_BadPositions) (.ref c_NoPosition) = some false)
    (h_hks_BadPositions_BadQuestion : PySem.W.subIn K (.ref c_BadPositions) (.ref c_BadQuestion) = some false)
    (h_hks_BadPositions_BadMarks : PySem.W.subIn K (.ref c_BadPositions) (.ref c_BadMarks) = some false)
    (h_hks_BadPositions_BadLadder : PySem.W.subIn K (.ref c_BadPositions) (.ref c_BadLadder) = some false)
    (h_hks_BadPositions_BadCount : PySem.W.subIn K (.ref c_BadPositions) (.ref c_BadCount) = some false)
    (h_hks_BadPositions_BadRelation : PySem.W.subIn K (.ref c_BadPositions) (.ref c_BadRelation) = some false)
    (h_hks_BadPositions_NoFinal : PySem.W.subIn K (.ref c_BadPositions) (.ref c_NoFinal) = some false)
    (h_hks_BadPositions_NotReached : PySem.W.subIn K (.ref c_BadPositions) (.ref c_NotReached) = some false)
    (h_hks_BadPositions_NoEnd : PySem.W.subIn K (.ref c_BadPositions) (.ref c_NoEnd) = some false)
    (h_hks_BadPositions_ZeroBottom : PySem.W.subIn K (.ref c_BadPositions) (.ref c_ZeroBottom) = some false)
    (h_hks_BadPositions_NoChance : PySem.W.subIn K (.ref c_BadPositions) (.ref c_NoChance) = some false)
    (h_hks_BadPositions_BadChance : PySem.W.subIn K (.ref c_BadPositions) (.ref c_BadChance) = some false)
    (h_hks_BadPositions_ZeroPolynomial : PySem.W.subIn K (.ref c_BadPositions) (.ref c_ZeroPolynomial) = some false)
    (h_hks_BadPositions_BadInterval : PySem.W.subIn K (.ref c_BadPositions) (.ref c_BadInterval) = some false)
    (h_hks_BadPositions_NoSkip : PySem.W.subIn K (.ref c_BadPositions) (.ref c_NoSkip) = some false)
    (h_hks_BadPositions_NotComing : PySem.W.subIn K (.ref c_BadPositions) (.ref c_NotComing) = some false)
    (h_hks_BadPositions_NoPupils : PySem.W.subIn K (.ref c_BadPositions) (.ref c_NoPupils) = some false)
    (h_hks_BadPositions_BadLength : PySem.W.subIn K (.ref c_BadPositions) (.ref c_BadLength) = some false)
    (h_hks_BadPositions_AlikePupils : PySem.W.subIn K (.ref c_BadPositions) (.ref c_AlikePupils) = some false)
    (h_hks_BadPositions_BadLine : PySem.W.subIn K (.ref c_BadPositions) (.ref c_BadLine) = some false)
    (h_hks_BadPositions_Ended : PySem.W.subIn K (.ref c_BadPositions) (.ref c_Ended) = some false)
    (h_hks_BadPositions_BadDeed : PySem.W.subIn K (.ref c_BadPositions) (.ref c_BadDeed) = some false)
    (h_hks_NoFinal_BadEnds : PySem.W.subIn K (.ref c_NoFinal) (.ref c_BadEnds) = some false)
    (h_hks_NoFinal_BadNode : PySem.W.subIn K (.ref c_NoFinal) (.ref c_BadNode) = some false)
    (h_hks_NoFinal_BadStart : PySem.W.subIn K (.ref c_NoFinal) (.ref c_BadStart) = some false)
    (h_hks_NoFinal_TwiceAsked : PySem.W.subIn K (.ref c_NoFinal) (.ref c_TwiceAsked) = some false)
    (h_hks_NoFinal_NoNode : PySem.W.subIn K (.ref c_NoFinal) (.ref c_NoNode) = some false)
    (h_hks_NoFinal_NoPosition : PySem.W.subIn K (.ref c_NoFinal) (.ref c_NoPosition) = some false)
    (h_hks_NoFinal_BadQuestion : PySem.W.subIn K (.ref c_NoFinal) (.ref c_BadQuestion) = some false)
    (h_hks_NoFinal_BadMarks : PySem.W.subIn K (.ref c_NoFinal) (.ref c_BadMarks) = some false)
    (h_hks_NoFinal_BadLadder : PySem.W.subIn K (.ref c_NoFinal) (.ref c_BadLadder) = some false)
    (h_hks_NoFinal_BadCount : PySem.W.subIn K (.ref c_NoFinal) (.ref c_BadCount) = some false)
    (h_hks_NoFinal_BadRelation : PySem.W.subIn K (.ref c_NoFinal) (.ref c_BadRelation) = some false)
    (h_hks_NoFinal_BadPositions : PySem.W.subIn K (.ref c_NoFinal) (.ref c_BadPositions) = some false)
    (h_hks_NoFinal_NotReached : PySem.W.subIn K (.ref c_NoFinal) (.ref c_NotReached) = some false)
    (h_hks_NoFinal_NoEnd : PySem.W.subIn K (.ref c_NoFinal) (.ref c_NoEnd) = some false)
    (h_hks_NoFinal_ZeroBottom : PySem.W.subIn K (.ref c_NoFinal) (.ref c_ZeroBottom) = some false)
    (h_hks_NoFinal_NoChance : PySem.W.subIn K (.ref c_NoFinal) (.ref c_NoChance) = some false)
    (h_hks_NoFinal_BadChance : PySem.W.subIn K (.ref c_NoFinal) (.ref c_BadChance) = some false)
    (h_hks_NoFinal_ZeroPolynomial : PySem.W.subIn K (.ref c_NoFinal) (.ref c_ZeroPolynomial) = some false)
    (h_hks_NoFinal_BadInterval : PySem.W.subIn K (.ref c_NoFinal) (.ref c_BadInterval) = some false)
    (h_hks_NoFinal_NoSkip : PySem.W.subIn K (.ref c_NoFinal) (.ref c_NoSkip) = some false)
    (h_hks_NoFinal_NotComing : PySem.W.subIn K (.ref c_NoFinal) (.ref c_NotComing) = some false)
    (h_hks_NoFinal_NoPupils : PySem.W.subIn K (.ref c_NoFinal) (.ref c_NoPupils) = some false)
    (h_hks_NoFinal_BadLength : PySem.W.subIn K (.ref c_NoFinal) (.ref c_BadLength) = some false)
    (h_hks_NoFinal_AlikePupils : PySem.W.subIn K (.ref c_NoFinal) (.ref c_AlikePupils) = some false)
    (h_hks_NoFinal_BadLine : PySem.W.subIn K (.ref c_NoFinal) (.ref c_BadLine) = some false)
    (h_hks_NoFinal_Ended : PySem.W.subIn K (.ref c_NoFinal) (.ref c_Ended) = some false)
    (h_hks_NoFinal_BadDeed : PySem.W.subIn K (.ref c_NoFinal) (.ref c_BadDeed) = some false)
    (h_hks_NotReached_BadEnds : PySem.W.subIn K (.ref c_NotReached) (.ref c_BadEnds) = some false)
    (h_hks_NotReached_BadNode : PySem.W.subIn K (.ref c_NotReached) (.ref c_BadNode) = some false)
    (h_hks_NotReached_BadStart : PySem.W.subIn K (.ref c_NotReached) (.ref c_BadStart) = some false)
    (h_hks_NotReached_TwiceAsked : PySem.W.subIn K (.ref c_NotReached) (.ref c_TwiceAsked) = some false)
    (h_hks_NotReached_NoNode : PySem.W.subIn K (.ref c_NotReached) (.ref c_NoNode) = some false)
    (h_hks_NotReached_NoPosition : PySem.W.subIn K (.ref c_NotReached) (.ref c_NoPosition) = some false)
    (h_hks_NotReached_BadQuestion : PySem.W.subIn K (.ref c_NotReached) (.ref c_BadQuestion) = some false)
    (h_hks_NotReached_BadMarks : PySem.W.subIn K (.ref c_NotReached) (.ref c_BadMarks) = some false)
    (h_hks_NotReached_BadLadder : PySem.W.subIn K (.ref c_NotReached) (.ref c_BadLadder) = some false)
    (h_hks_NotReached_BadCount : PySem.W.subIn K (.ref c_NotReached) (.ref c_BadCount) = some false)
    (h_hks_NotReached_BadRelation : PySem.W.subIn K (.ref c_NotReached) (.ref c_BadRelation) = some false)
    (h_hks_NotReached_BadPositions : PySem.W.subIn K (.ref c_NotReached) (.ref c_BadPositions) = some false)
    (h_hks_NotReached_NoFinal : PySem.W.subIn K (.ref c_NotReached) (.ref c_NoFinal) = some false)
    (h_hks_NotReached_NoEnd : PySem.W.subIn K (.ref c_NotReached) (.ref c_NoEnd) = some false)
    (h_hks_NotReached_ZeroBottom : PySem.W.subIn K (.ref c_NotReached) (.ref c_ZeroBottom) = some false)
    (h_hks_NotReached_NoChance : PySem.W.subIn K (.ref c_NotReached) (.ref c_NoChance) = some false)
    (h_hks_NotReached_BadChance : PySem.W.subIn K (.ref c_NotReached) (.ref c_BadChance) = some false)
    (h_hks_NotReached_ZeroPolynomial : PySem.W.subIn K (.ref c_NotReached) (.ref c_ZeroPolynomial) = some false)
    (h_hks_NotReached_BadInterval : PySem.W.subIn K (.ref c_NotReached) (.ref c_BadInterval) = some false)
    (h_hks_NotReached_NoSkip : PySem.W.subIn K (.ref c_NotReached) (.ref c_NoSkip) = some false)
    (h_hks_NotReached_NotComing : PySem.W.subIn K (.ref c_NotReached) (.ref c_NotComing) = some false)
    (h_hks_NotReached_NoPupils : PySem.W.subIn K (.ref c_NotReached) (.ref c_NoPupils) = some false)
    (h_hks_NotReached_BadLength : PySem.W.subIn K (.ref c_NotReached) (.ref c_BadLength) = some false)
    (h_hks_NotReached_AlikePupils : PySem.W.subIn K (.ref c_NotReached) (.ref c_AlikePupils) = some false)
    (h_hks_NotReached_BadLine : PySem.W.subIn K (.ref c_NotReached) (.ref c_BadLine) = some false)
    (h_hks_NotReached_Ended : PySem.W.subIn K (.ref c_NotReached) (.ref c_Ended) = some false)
    (h_hks_NotReached_BadDeed : PySem.W.subIn K (.ref c_NotReached) (.ref c_BadDeed) = some false)
    (h_hks_NoEnd_BadEnds : PySem.W.subIn K (.ref c_NoEnd) (.ref c_BadEnds) = some false)
    (h_hks_NoEnd_BadNode : PySem.W.subIn K (.ref c_NoEnd) (.ref c_BadNode) = some false)
    (h_hks_NoEnd_BadStart : PySem.W.subIn K (.ref c_NoEnd) (.ref c_BadStart) = some false)
    (h_hks_NoEnd_TwiceAsked : PySem.W.subIn K (.ref c_NoEnd) (.ref c_TwiceAsked) = some false)
    (h_hks_NoEnd_NoNode : PySem.W.subIn K (.ref c_NoEnd) (.ref c_NoNode) = some false)
    (h_hks_NoEnd_NoPosition : PySem.W.subIn K (.ref c_NoEnd) (.ref c_NoPosition) = some false)
    (h_hks_NoEnd_BadQuestion : PySem.W.subIn K (.ref c_NoEnd) (.ref c_BadQuestion) = some false)
    (h_hks_NoEnd_BadMarks : PySem.W.subIn K (.ref c_NoEnd) (.ref c_BadMarks) = some false)
    (h_hks_NoEnd_BadLadder : PySem.W.subIn K (.ref c_NoEnd) (.ref c_BadLadder) = some false)
    (h_hks_NoEnd_BadCount : PySem.W.subIn K (.ref c_NoEnd) (.ref c_BadCount) = some false)
    (h_hks_NoEnd_BadRelation : PySem.W.subIn K (.ref c_NoEnd) (.ref c_BadRelation) = some false)
    (h_hks_NoEnd_BadPositions : PySem.W.subIn K (.ref c_NoEnd) (.ref c_BadPositions) = some false)
    (h_hks_NoEnd_NoFinal : PySem.W.subIn K (.ref c_NoEnd) (.ref c_NoFinal) = some false)
    (h_hks_NoEnd_NotReached : PySem.W.subIn K (.ref c_NoEnd) (.ref c_NotReached) = some false)
    (h_hks_NoEnd_ZeroBottom : PySem.W.subIn K (.ref c_NoEnd) (.ref c_ZeroBottom) = some false)
    (h_hks_NoEnd_NoChance : PySem.W.subIn K (.ref c_NoEnd) (.ref c_NoChance) = some false)
    (h_hks_NoEnd_BadChance : PySem.W.subIn K (.ref c_NoEnd) (.ref c_BadChance) = some false)
    (h_hks_NoEnd_ZeroPolynomial : PySem.W.subIn K (.ref c_NoEnd) (.ref c_ZeroPolynomial) = some false)
    (h_hks_NoEnd_BadInterval : PySem.W.subIn K (.ref c_NoEnd) (.ref c_BadInterval) = some false)
    (h_hks_NoEnd_NoSkip : PySem.W.subIn K (.ref c_NoEnd) (.ref c_NoSkip) = some false)
    (h_hks_NoEnd_NotComing : PySem.W.subIn K (.ref c_NoEnd) (.ref c_NotComing) = some false)
    (h_hks_NoEnd_NoPupils : PySem.W.subIn K (.ref c_NoEnd) (.ref c_NoPupils) = some false)
    (h_hks_NoEnd_BadLength : PySem.W.subIn K (.ref c_NoEnd) (.ref c_BadLength) = some false)
    (h_hks_NoEnd_AlikePupils : PySem.W.subIn K (.ref c_NoEnd) (.ref c_AlikePupils) = some false)
    (h_hks_NoEnd_BadLine : PySem.W.subIn K (.ref c_NoEnd) (.ref c_BadLine) = some false)
    (h_hks_NoEnd_Ended : PySem.W.subIn K (.ref c_NoEnd) (.ref c_Ended) = some false)
    (h_hks_NoEnd_BadDeed : PySem.W.subIn K (.ref c_NoEnd) (.ref c_BadDeed) = some false)
    (h_hks_ZeroBottom_BadEnds : PySem.W.subIn K (.ref c_ZeroBottom) (.ref c_BadEnds) = some false)
    (h_hks_ZeroBottom_BadNode : PySem.W.subIn K (.ref c_ZeroBottom) (.ref c_BadNode) = some false)
    (h_hks_ZeroBottom_BadStart : PySem.W.subIn K (.ref c_ZeroBottom) (.ref c_BadStart) = some false)
    (h_hks_ZeroBottom_TwiceAsked : PySem.W.subIn K (.ref c_ZeroBottom) (.ref c_TwiceAsked) = some false)
    (h_hks_ZeroBottom_NoNode : PySem.W.subIn K (.ref c_ZeroBottom) (.ref c_NoNode) = some false)
    (h_hks_ZeroBottom_NoPosition : PySem.W.subIn K (.ref c_ZeroBottom) (.ref c_NoPosition) = some false)
    (h_hks_ZeroBottom_BadQuestion : PySem.W.subIn K (.ref c_ZeroBottom) (.ref c_BadQuestion) = some false)
    (h_hks_ZeroBottom_BadMarks : PySem.W.subIn K (.ref c_ZeroBottom) (.ref c_BadMarks) = some false)
    (h_hks_ZeroBottom_BadLadder : PySem.W.subIn K (.ref c_ZeroBottom) (.ref c_BadLadder) = some false)
    (h_hks_ZeroBottom_BadCount : PySem.W.subIn K (.ref c_ZeroBottom) (.ref c_BadCount) = some false)
    (h_hks_ZeroBottom_BadRelation : PySem.W.subIn K (.ref c_ZeroBottom) (.ref c_BadRelation) = some false)
    (h_hks_ZeroBottom_BadPositions : PySem.W.subIn K (.ref c_ZeroBottom) (.ref c_BadPositions) = some false)
    (h_hks_ZeroBottom_NoFinal : PySem.W.subIn K (.ref c_ZeroBottom) (.ref c_NoFinal) = some false)
    (h_hks_ZeroBottom_NotReached : PySem.W.subIn K (.ref c_ZeroBottom) (.ref c_NotReached) = some false)
    (h_hks_ZeroBottom_NoEnd : PySem.W.subIn K (.ref c_ZeroBottom) (.ref c_NoEnd) = some false)
    (h_hks_ZeroBottom_NoChance : PySem.W.subIn K (.ref c_ZeroBottom) (.ref c_NoChance) = some false)
    (h_hks_ZeroBottom_BadChance : PySem.W.subIn K (.ref c_ZeroBottom) (.ref c_BadChance) = some false)
    (h_hks_ZeroBottom_ZeroPolynomial : PySem.W.subIn K (.ref c_ZeroBottom) (.ref c_ZeroPolynomial) = some false)
    (h_hks_ZeroBottom_BadInterval : PySem.W.subIn K (.ref c_ZeroBottom) (.ref c_BadInterval) = some false)
    (h_hks_ZeroBottom_NoSkip : PySem.W.subIn K (.ref c_ZeroBottom) (.ref c_NoSkip) = some false)
    (h_hks_ZeroBottom_NotComing : PySem.W.subIn K (.ref c_ZeroBottom) (.ref c_NotComing) = some false)
    (h_hks_ZeroBottom_NoPupils : PySem.W.subIn K (.ref c_ZeroBottom) (.ref c_NoPupils) = some false)
    (h_hks_ZeroBottom_BadLength : PySem.W.subIn K (.ref c_ZeroBottom) (.ref c_BadLength) = some false)
    (h_hks_ZeroBottom_AlikePupils : PySem.W.subIn K (.ref c_ZeroBottom) (.ref c_AlikePupils) = some false)
    (h_hks_ZeroBottom_BadLine : PySem.W.subIn K (.ref c_ZeroBottom) (.ref c_BadLine) = some false)
    (h_hks_ZeroBottom_Ended : PySem.W.subIn K (.ref c_ZeroBottom) (.ref c_Ended) = some false)
    (h_hks_ZeroBottom_BadDeed : PySem.W.subIn K (.ref c_ZeroBottom) (.ref c_BadDeed) = some false)
    (h_hks_NoChance_BadEnds : PySem.W.subIn K (.ref c_NoChance) (.ref c_BadEnds) = some false)
    (h_hks_NoChance_BadNode : PySem.W.subIn K (.ref c_NoChance) (.ref c_BadNode) = some false)
    (h_hks_NoChance_BadStart : PySem.W.subIn K (.ref c_NoChance) (.ref c_BadStart) = some false)
    (h_hks_NoChance_TwiceAsked : PySem.W.subIn K (.ref c_NoChance) (.ref c_TwiceAsked) = some false)
    (h_hks_NoChance_NoNode : PySem.W.subIn K (.ref c_NoChance) (.ref c_NoNode) = some false)
    (h_hks_NoChance_NoPosition : PySem.W.subIn K (.ref c_NoChance) (.ref c_NoPosition) = some false)
    (h_hks_NoChance_BadQuestion : PySem.W.subIn K (.ref c_NoChance) (.ref c_BadQuestion) = some false)
    (h_hks_NoChance_BadMarks : PySem.W.subIn K (.ref c_NoChance) (.ref c_BadMarks) = some false)
    (h_hks_NoChance_BadLadder : PySem.W.subIn K (.ref c_NoChance) (.ref c_BadLadder) = some false)
    (h_hks_NoChance_BadCount : PySem.W.subIn K (.ref c_NoChance) (.ref c_BadCount) = some false)
    (h_hks_NoChance_BadRelation : PySem.W.subIn K (.ref c_NoChance) (.ref c_BadRelation) = some false)
    (h_hks_NoChance_BadPositions : PySem.W.subIn K (.ref c_NoChance) (.ref c_BadPositions) = some false)
    (h_hks_NoChance_NoFinal : PySem.W.subIn K (.ref c_NoChance) (.ref c_NoFinal) = some false)
    (h_hks_NoChance_NotReached : PySem.W.subIn K (.ref c_NoChance) (.ref c_NotReached) = some false)
    (h_hks_NoChance_NoEnd : PySem.W.subIn K (.ref c_NoChance) (.ref c_NoEnd) = some false)
    (h_hks_NoChance_ZeroBottom : PySem.W.subIn K (.ref c_NoChance) (.ref c_ZeroBottom) = some false)
    (h_hks_NoChance_BadChance : PySem.W.subIn K (.ref c_NoChance) (.ref c_BadChance) = some false)
    (h_hks_NoChance_ZeroPolynomial : PySem.W.subIn K (.ref c_NoChance) (.ref c_ZeroPolynomial) = some false)
    (h_hks_NoChance_BadInterval : PySem.W.subIn K (.ref c_NoChance) (.ref c_BadInterval) = some false)
    (h_hks_NoChance_NoSkip : PySem.W.subIn K (.ref c_NoChance) (.ref c_NoSkip) = some false)
    (h_hks_NoChance_NotComing : PySem.W.subIn K (.ref c_NoChance) (.ref c_NotComing) = some false)
    (h_hks_NoChance_NoPupils : PySem.W.subIn K (.ref c_NoChance) (.ref c_NoPupils) = some false)
    (h_hks_NoChance_BadLength : PySem.W.subIn K (.ref c_NoChance) (.ref c_BadLength) = some false)
    (h_hks_NoChance_AlikePupils : PySem.W.subIn K (.ref c_NoChance) (.ref c_AlikePupils) = some false)
    (h_hks_NoChance_BadLine : PySem.W.subIn K (.ref c_NoChance) (.ref c_BadLine) = some false)
    (h_hks_NoChance_Ended : PySem.W.subIn K (.ref c_NoChance) (.ref c_Ended) = some false)
    (h_hks_NoChance_BadDeed : PySem.W.subIn K (.ref c_NoChance) (.ref c_BadDeed) = some false)
    (h_hks_BadChance_BadEnds : PySem.W.subIn K (.ref c_BadChance) (.ref c_BadEnds) = some false)
    (h_hks_BadChance_BadNode : PySem.W.subIn K (.ref c_BadChance) (.ref c_BadNode) = some false)
    (h_hks_BadChance_BadStart : PySem.W.subIn K (.ref c_BadChance) (.ref c_BadStart) = some false)
    (h_hks_BadChance_TwiceAsked : PySem.W.subIn K (.ref c_BadChance) (.ref c_TwiceAsked) = some false)
    (h_hks_BadChance_NoNode : PySem.W.subIn K (.ref c_BadChance) (.ref c_NoNode) = some false)
    (h_hks_BadChance_NoPosition : PySem.W.subIn K (.ref c_BadChance) (.ref c_NoPosition) = some false)
    (h_hks_BadChance_BadQuestion : PySem.W.subIn K (.ref c_BadChance) (.ref c_BadQuestion) = some false)
    (h_hks_BadChance_BadMarks : PySem.W.subIn K (.ref c_BadChance) (.ref c_BadMarks) = some false)
    (h_hks_BadChance_BadLadder : PySem.W.subIn K (.ref c_BadChance) (.ref c_BadLadder) = some false)
    (h_hks_BadChance_BadCount : PySem.W.subIn K (.ref c_BadChance) (.ref c_BadCount) = some false)
    (h_hks_BadChance_BadRelation : PySem.W.subIn K (.ref c_BadChance) (.ref c_BadRelation) = some false)
    (h_hks_BadChance_BadPositions : PySem.W.subIn K (.ref c_BadChance) (.ref c_BadPositions) = some false)
    (h_hks_BadChance_NoFinal : PySem.W.subIn K (.ref c_BadChance) (.ref c_NoFinal) = some false)
    (h_hks_BadChance_NotReached : PySem.W.subIn K (.ref c_BadChance) (.ref c_NotReached) = some false)
    (h_hks_BadChance_NoEnd : PySem.W.subIn K (.ref c_BadChance) (.ref c_NoEnd) = some false)
    (h_hks_BadChance_ZeroBottom : PySem.W.subIn K (.ref c_BadChance) (.ref c_ZeroBottom) = some false)
    (h_hks_BadChance_NoChance : PySem.W.subIn K (.ref c_BadChance) (.ref c_NoChance) = some false)
    (h_hks_BadChance_ZeroPolynomial : PySem.W.subIn K (.ref c_BadChance) (.ref c_ZeroPolynomial) = some false)
    (h_hks_BadChance_BadInterval : PySem.W.subIn K (.ref c_BadChance) (.ref c_BadInterval) = some false)
    (h_hks_BadChance_NoSkip : PySem.W.subIn K (.ref c_BadChance) (.ref c_NoSkip) = some false)
    (h_hks_BadChance_NotComing : PySem.W.subIn K (.ref c_BadChance) (.ref c_NotComing) = some false)
    (h_hks_BadChance_NoPupils : PySem.W.subIn K (.ref c_BadChance) (.ref c_NoPupils) = some false)
    (h_hks_BadChance_BadLength : PySem.W.subIn K (.ref c_BadChance) (.ref c_BadLength) = some false)
    (h_hks_BadChance_AlikePupils : PySem.W.subIn K (.ref c_BadChance) (.ref c_AlikePupils) = some false)
    (h_hks_BadChance_BadLine : PySem.W.subIn K (.ref c_BadChance) (.ref c_BadLine) = some false)
    (h_hks_BadChance_Ended : PySem.W.subIn K (.ref c_BadChance) (.ref c_Ended) = some false)
    (h_hks_BadChance_BadDeed : PySem.W.subIn K (.ref c_BadChance) (.ref c_BadDeed) = some false)
    (h_hks_ZeroPolynomial_BadEnds : PySem.W.subIn K (.ref c_ZeroPolynomial) (.ref c_BadEnds) = some false)
    (h_hks_ZeroPolynomial_BadNode : PySem.W.subIn K (.ref c_ZeroPolynomial) (.ref c_BadNode) = some false)
    (h_hks_ZeroPolynomial_BadStart : PySem.W.subIn K (.ref c_ZeroPolynomial) (.ref c_BadStart) = some false)
    (h_hks_ZeroPolynomial_TwiceAsked : PySem.W.subIn K (.ref c_ZeroPolynomial) (.ref c_TwiceAsked) = some false)
    (h_hks_ZeroPolynomial_NoNode : PySem.W.subIn K (.ref c_ZeroPolynomial) (.ref c_NoNode) = some false)
    (h_hks_ZeroPolynomial_NoPosition : PySem.W.subIn K (.ref c_ZeroPolynomial) (.ref c_NoPosition) = some false)
    (h_hks_ZeroPolynomial_BadQuestion : PySem.W.subIn K (.ref c_ZeroPolynomial) (.ref c_BadQuestion) = some false)
    (h_hks_ZeroPolynomial_BadMarks : PySem.W.subIn K (.ref c_ZeroPolynomial) (.ref c_BadMarks) = some false)
    (h_hks_ZeroPolynomial_BadLadder : PySem.W.subIn K (.ref c_ZeroPolynomial) (.ref c_BadLadder) = some false)
    (h_hks_ZeroPolynomial_BadCount : PySem.W.subIn K (.ref c_ZeroPolynomial) (.ref c_BadCount) = some false)
    (h_hks_ZeroPolynomial_BadRelation : PySem.W.subIn K (.ref c_ZeroPolynomial) (.ref c_BadRelation) = some false)
    (h_hks_ZeroPolynomial_BadPositions : PySem.W.subIn K (.ref c_ZeroPolynomial) (.ref c_BadPositions) = some false)
    (h_hks_ZeroPolynomial_NoFinal : PySem.W.subIn K (.ref c_ZeroPolynomial) (.ref c_NoFinal) = some false)
    (h_hks_ZeroPolynomial_NotReached : PySem.W.subIn K (.ref c_ZeroPolynomial) (.ref c_NotReached) = some false)
    (h_hks_ZeroPolynomial_NoEnd : PySem.W.subIn K (.ref c_ZeroPolynomial) (.ref c_NoEnd) = some false)
    (h_hks_ZeroPolynomial_ZeroBottom : PySem.W.subIn K (.ref c_ZeroPolynomial) (.ref c_ZeroBottom) = some false)
    (h_hks_ZeroPolynomial_NoChance : PySem.W.subIn K (.ref c_ZeroPolynomial) (.ref c_NoChance) = some false)
    (h_hks_ZeroPolynomial_BadChance : PySem.W.subIn K (.ref c_ZeroPolynomial) (.ref c_BadChance) = some false)
    (h_hks_ZeroPolynomial_BadInterval : PySem.W.subIn K (.ref c_ZeroPolynomial) (.ref c_BadInterval) = some false)
    (h_hks_ZeroPolynomial_NoSkip : PySem.W.subIn K (.ref c_ZeroPolynomial) (.ref c_NoSkip) = some false)
    (h_hks_ZeroPolynomial_NotComing : PySem.W.subIn K (.ref c_ZeroPolynomial) (.ref c_NotComing) = some false)
    (h_hks_ZeroPolynomial_NoPupils : PySem.W.subIn K (.ref c_ZeroPolynomial) (.ref c_NoPupils) = some false)
    (h_hks_ZeroPolynomial_BadLength : PySem.W.subIn K (.ref c_ZeroPolynomial) (.ref c_BadLength) = some false)
    (h_hks_ZeroPolynomial_AlikePupils : PySem.W.subIn K (.ref c_ZeroPolynomial) (.ref c_AlikePupils) = some false)
    (h_hks_ZeroPolynomial_BadLine : PySem.W.subIn K (.ref c_ZeroPolynomial) (.ref c_BadLine) = some false)
    (h_hks_ZeroPolynomial_Ended : PySem.W.subIn K (.ref c_ZeroPolynomial) (.ref c_Ended) = some false)
    (h_hks_ZeroPolynomial_BadDeed : PySem.W.subIn K (.ref c_ZeroPolynomial) (.ref c_BadDeed) = some false)
    (h_hks_BadInterval_BadEnds : PySem.W.subIn K (.ref c_BadInterval) (.ref c_BadEnds) = some false)
    (h_hks_BadInterval_BadNode : PySem.W.subIn K (.ref c_BadInterval) (.ref c_BadNode) = some false)
    (h_hks_BadInterval_BadStart : PySem.W.subIn K (.ref c_BadInterval) (.ref c_BadStart) = some false)
    (h_hks_BadInterval_TwiceAsked : PySem.W.subIn K (.ref c_BadInterval) (.ref c_TwiceAsked) = some false)
    (h_hks_BadInterval_NoNode : PySem.W.subIn K (.ref c_BadInterval) (.ref c_NoNode) = some false)
    (h_hks_BadInterval_NoPosition : PySem.W.subIn K (.ref c_BadInterval) (.ref c_NoPosition) = some false)
    (h_hks_BadInterval_BadQuestion : PySem.W.subIn K (.ref c_BadInterval) (.ref c_BadQuestion) = some false)
    (h_hks_BadInterval_BadMarks : PySem.W.subIn K (.ref c_BadInterval) (.ref c_BadMarks) = some false)
    (h_hks_BadInterval_BadLadder : PySem.W.subIn K (.ref c_BadInterval) (.ref c_BadLadder) = some false)
    (h_hks_BadInterval_BadCount : PySem.W.subIn K (.ref c_BadInterval) (.ref c_BadCount) = some false)
    (h_hks_BadInterval_BadRelation : PySem.W.subIn K (.ref c_BadInterval) (.ref c_BadRelation) = some false)
    (h_hks_BadInterval_BadPositions : PySem.W.subIn K (.ref c_BadInterval) (.ref c_BadPositions) = some false)
    (h_hks_BadInterval_NoFinal : PySem.W.subIn K (.ref c_BadInterval) (.ref c_NoFinal) = some false)
    (h_hks_BadInterval_NotReached : PySem.W.subIn K (.ref c_BadInterval) (.ref c_NotReached) = some false)
    (h_hks_BadInterval_NoEnd : PySem.W.subIn K (.ref c_BadInterval) (.ref c_NoEnd) = some false)
    (h_hks_BadInterval_ZeroBottom : PySem.W.subIn K (.ref c_BadInterval) (.ref c_ZeroBottom) = some false)
    (h_hks_BadInterval_NoChance : PySem.W.subIn K (.ref c_BadInterval) (.ref c_NoChance) = some false)
    (h_hks_BadInterval_BadChance : PySem.W.subIn K (.ref c_BadInterval) (.ref c_BadChance) = some false)
    (h_hks_BadInterval_ZeroPolynomial : PySem.W.subIn K (.ref c_BadInterval) (.ref c_ZeroPolynomial) = some false)
    (h_hks_BadInterval_NoSkip : PySem.W.subIn K (.ref c_BadInterval) (.ref c_NoSkip) = some false)
    (h_hks_BadInterval_NotComing : PySem.W.subIn K (.ref c_BadInterval) (.ref c_NotComing) = some false)
    (h_hks_BadInterval_NoPupils : PySem.W.subIn K (.ref c_BadInterval) (.ref c_NoPupils) = some false)
    (h_hks_BadInterval_BadLength : PySem.W.subIn K (.ref c_BadInterval) (.ref c_BadLength) = some false)
    (h_hks_BadInterval_AlikePupils : PySem.W.subIn K (.ref c_BadInterval) (.ref c_AlikePupils) = some false)
    (h_hks_BadInterval_BadLine : PySem.W.subIn K (.ref c_BadInterval) (.ref c_BadLine) = some false)
    (h_hks_BadInterval_Ended : PySem.W.subIn K (.ref c_BadInterval) (.ref c_Ended) = some false)
    (h_hks_BadInterval_BadDeed : PySem.W.subIn K (.ref c_BadInterval) (.ref c_BadDeed) = some false)
    (h_hks_NoSkip_BadEnds : PySem.W.subIn K (.ref c_NoSkip) (.ref c_BadEnds) = some false)
    (h_hks_NoSkip_BadNode : PySem.W.subIn K (.ref c_NoSkip) (.ref c_BadNode) = some false)
    (h_hks_NoSkip_BadStart : PySem.W.subIn K (.ref c_NoSkip) (.ref c_BadStart) = some false)
    (h_hks_NoSkip_TwiceAsked : PySem.W.subIn K (.ref c_NoSkip) (.ref c_TwiceAsked) = some false)
    (h_hks_NoSkip_NoNode : PySem.W.subIn K (.ref c_NoSkip) (.ref c_NoNode) = some false)
    (h_hks_NoSkip_NoPosition : PySem.W.subIn K (.ref c_NoSkip) (.ref c_NoPosition) = some false)
    (h_hks_NoSkip_BadQuestion : PySem.W.subIn K (.ref c_NoSkip) (.ref c_BadQuestion) = some false)
    (h_hks_NoSkip_BadMarks : PySem.W.subIn K (.ref c_NoSkip) (.ref c_BadMarks) = some false)
    (h_hks_NoSkip_BadLadder : PySem.W.subIn K (.ref c_NoSkip) (.ref c_BadLadder) = some false)
    (h_hks_NoSkip_BadCount : PySem.W.subIn K (.ref c_NoSkip) (.ref c_BadCount) = some false)
    (h_hks_NoSkip_BadRelation : PySem.W.subIn K (.ref c_NoSkip) (.ref c_BadRelation) = some false)
    (h_hks_NoSkip_BadPositions : PySem.W.subIn K (.ref c_NoSkip) (.ref c_BadPositions) = some false)
    (h_hks_NoSkip_NoFinal : PySem.W.subIn K (.ref c_NoSkip) (.ref c_NoFinal) = some false)
    (h_hks_NoSkip_NotReached : PySem.W.subIn K (.ref c_NoSkip) (.ref c_NotReached) = some false)
    (h_hks_NoSkip_NoEnd : PySem.W.subIn K (.ref c_NoSkip) (.ref c_NoEnd) = some false)
    (h_hks_NoSkip_ZeroBottom : PySem.W.subIn K (.ref c_NoSkip) (.ref c_ZeroBottom) = some false)
    (h_hks_NoSkip_NoChance : PySem.W.subIn K (.ref c_NoSkip) (.ref c_NoChance) = some false)
    (h_hks_NoSkip_BadChance : PySem.W.subIn K (.ref c_NoSkip) (.ref c_BadChance) = some false)
    (h_hks_NoSkip_ZeroPolynomial : PySem.W.subIn K (.ref c_NoSkip) (.ref c_ZeroPolynomial) = some false)
    (h_hks_NoSkip_BadInterval : PySem.W.subIn K (.ref c_NoSkip) (.ref c_BadInterval) = some false)
    (h_hks_NoSkip_NotComing : PySem.W.subIn K (.ref c_NoSkip) (.ref c_NotComing) = some false)
    (h_hks_NoSkip_NoPupils : PySem.W.subIn K (.ref c_NoSkip) (.ref c_NoPupils) = some false)
    (h_hks_NoSkip_BadLength : PySem.W.subIn K (.ref c_NoSkip) (.ref c_BadLength) = some false)
    (h_hks_NoSkip_AlikePupils : PySem.W.subIn K (.ref c_NoSkip) (.ref c_AlikePupils) = some false)
    (h_hks_NoSkip_BadLine : PySem.W.subIn K (.ref c_NoSkip) (.ref c_BadLine) = some false)
    (h_hks_NoSkip_Ended : PySem.W.subIn K (.ref c_NoSkip) (.ref c_Ended) = some false)
    (h_hks_NoSkip_BadDeed : PySem.W.subIn K (.ref c_NoSkip) (.ref c_BadDeed) = some false)
    (h_hks_NotComing_BadEnds : PySem.W.subIn K (.ref c_NotComing) (.ref c_BadEnds) = some false)
    (h_hks_NotComing_BadNode : PySem.W.subIn K (.ref c_NotComing) (.ref c_BadNode) = some false)
    (h_hks_NotComing_BadStart : PySem.W.subIn K (.ref c_NotComing) (.ref c_BadStart) = some false)
    (h_hks_NotComing_TwiceAsked : PySem.W.subIn K (.ref c_NotComing) (.ref c_TwiceAsked) = some false)
    (h_hks_NotComing_NoNode : PySem.W.subIn K (.ref c_NotComing) (.ref c_NoNode) = some false)
    (h_hks_NotComing_NoPosition : PySem.W.subIn K (.ref c_NotComing) (.ref c_NoPosition) = some false)
    (h_hks_NotComing_BadQuestion : PySem.W.subIn K (.ref c_NotComing) (.ref c_BadQuestion) = some false)
    (h_hks_NotComing_BadMarks : PySem.W.subIn K (.ref c_NotComing) (.ref c_BadMarks) = some false)
    (h_hks_NotComing_BadLadder : PySem.W.subIn K (.ref c_NotComing) (.ref c_BadLadder) = some false)
    (h_hks_NotComing_BadCount : PySem.W.subIn K (.ref c_NotComing) (.ref c_BadCount) = some false)
    (h_hks_NotComing_BadRelation : PySem.W.subIn K (.ref c_NotComing) (.ref c_BadRelation) = some false)
    (h_hks_NotComing_BadPositions : PySem.W.subIn K (.ref c_NotComing) (.ref c_BadPositions) = some false)
    (h_hks_NotComing_NoFinal : PySem.W.subIn K (.ref c_NotComing) (.ref c_NoFinal) = some false)
    (h_hks_NotComing_NotReached : PySem.W.subIn K (.ref c_NotComing) (.ref c_NotReached) = some false)
    (h_hks_NotComing_NoEnd : PySem.W.subIn K (.ref c_NotComing) (.ref c_NoEnd) = some false)
    (h_hks_NotComing_ZeroBottom : PySem.W.subIn K (.ref c_NotComing) (.ref c_ZeroBottom) = some false)
    (h_hks_NotComing_NoChance : PySem.W.subIn K (.ref c_NotComing) (.ref c_NoChance) = some false)
    (h_hks_NotComing_BadChance : PySem.W.subIn K (.ref c_NotComing) (.ref c_BadChance) = some false)
    (h_hks_NotComing_ZeroPolynomial : PySem.W.subIn K (.ref c_NotComing) (.ref c_ZeroPolynomial) = some false)
    (h_hks_NotComing_BadInterval : PySem.W.subIn K (.ref c_NotComing) (.ref c_BadInterval) = some false)
    (h_hks_NotComing_NoSkip : PySem.W.subIn K (.ref c_NotComing) (.ref c_NoSkip) = some false)
    (h_hks_NotComing_NoPupils : PySem.W.subIn K (.ref c_NotComing) (.ref c_NoPupils) = some false)
    (h_hks_NotComing_BadLength : PySem.W.subIn K (.ref c_NotComing) (.ref c_BadLength) = some false)
    (h_hks_NotComing_AlikePupils : PySem.W.subIn K (.ref c_NotComing) (.ref c_AlikePupils) = some false)
    (h_hks_NotComing_BadLine : PySem.W.subIn K (.ref c_NotComing) (.ref c_BadLine) = some false)
    (h_hks_NotComing_Ended : PySem.W.subIn K (.ref c_NotComing) (.ref c_Ended) = some false)
    (h_hks_NotComing_BadDeed : PySem.W.subIn K (.ref c_NotComing) (.ref c_BadDeed) = some false)
    (h_hks_NoPupils_BadEnds : PySem.W.subIn K (.ref c_NoPupils) (.ref c_BadEnds) = some false)
    (h_hks_NoPupils_BadNode : PySem.W.subIn K (.ref c_NoPupils) (.ref c_BadNode) = some false)
    (h_hks_NoPupils_BadStart : PySem.W.subIn K (.ref c_NoPupils) (.ref c_BadStart) = some false)
    (h_hks_NoPupils_TwiceAsked : PySem.W.subIn K (.ref c_NoPupils) (.ref c_TwiceAsked) = some false)
    (h_hks_NoPupils_NoNode : PySem.W.subIn K (.ref c_NoPupils) (.ref c_NoNode) = some false)
    (h_hks_NoPupils_NoPosition : PySem.W.subIn K (.ref c_NoPupils) (.ref c_NoPosition) = some false)
    (h_hks_NoPupils_BadQuestion : PySem.W.subIn K (.ref c_NoPupils) (.ref c_BadQuestion) = some false)
    (h_hks_NoPupils_BadMarks : PySem.W.subIn K (.ref c_NoPupils) (.ref c_BadMarks) = some false)
    (h_hks_NoPupils_BadLadder : PySem.W.subIn K (.ref c_NoPupils) (.ref c_BadLadder) = some false)
    (h_hks_NoPupils_BadCount : PySem.W.subIn K (.ref c_NoPupils) (.ref c_BadCount) = some false)
    (h_hks_NoPupils_BadRelation : PySem.W.subIn K (.ref c_NoPupils) (.ref c_BadRelation) = some false)
    (h_hks_NoPupils_BadPositions : PySem.W.subIn K (.ref c_NoPupils) (.ref c_BadPositions) = some false)
    (h_hks_NoPupils_NoFinal : PySem.W.subIn K (.ref c_NoPupils) (.ref c_NoFinal) = some false)
    (h_hks_NoPupils_NotReached : PySem.W.subIn K (.ref c_NoPupils) (.ref c_NotReached) = some false)
    (h_hks_NoPupils_NoEnd : PySem.W.subIn K (.ref c_NoPupils) (.ref c_NoEnd) = some false)
    (h_hks_NoPupils_ZeroBottom : PySem.W.subIn K (.ref c_NoPupils) (.ref c_ZeroBottom) = some false)
    (h_hks_NoPupils_NoChance : PySem.W.subIn K (.ref c_NoPupils) (.ref c_NoChance) = some false)
    (h_hks_NoPupils_BadChance : PySem.W.subIn K (.ref c_NoPupils) (.ref c_BadChance) = some false)
    (h_hks_NoPupils_ZeroPolynomial : PySem.W.subIn K (.ref c_NoPupils) (.ref c_ZeroPolynomial) = some false)
    (h_hks_NoPupils_BadInterval : PySem.W.subIn K (.ref c_NoPupils) (.ref c_BadInterval) = some false)
    (h_hks_NoPupils_NoSkip : PySem.W.subIn K (.ref c_NoPupils) (.ref c_NoSkip) = some false)
    (h_hks_NoPupils_NotComing : PySem.W.subIn K (.ref c_NoPupils) (.ref c_NotComing) = some false)
    (h_hks_NoPupils_BadLength : PySem.W.subIn K (.ref c_NoPupils) (.ref c_BadLength) = some false)
    (h_hks_NoPupils_AlikePupils : PySem.W.subIn K (.ref c_NoPupils) (.ref c_AlikePupils) = some false)
    (h_hks_NoPupils_BadLine : PySem.W.subIn K (.ref c_NoPupils) (.ref c_BadLine) = some false)
    (h_hks_NoPupils_Ended : PySem.W.subIn K (.ref c_NoPupils) (.ref c_Ended) = some false)
    (h_hks_NoPupils_BadDeed : PySem.W.subIn K (.ref c_NoPupils) (.ref c_BadDeed) = some false)
    (h_hks_BadLength_BadEnds : PySem.W.subIn K (.ref c_BadLength) (.ref c_BadEnds) = some false)
    (h_hks_BadLength_BadNode : PySem.W.subIn K (.ref c_BadLength) (.ref c_BadNode) = some false)
    (h_hks_BadLength_BadStart : PySem.W.subIn K (.ref c_BadLength) (.ref c_BadStart) = some false)
    (h_hks_BadLength_TwiceAsked : PySem.W.subIn K (.ref c_BadLength) (.ref c_TwiceAsked) = some false)
    (h_hks_BadLength_NoNode : PySem.W.subIn K (.ref c_BadLength) (.ref c_NoNode) = some false)
    (h_hks_BadLength_NoPosition : PySem.W.subIn K (.ref c_BadLength) (.ref c_NoPosition) = some false)
    (h_hks_BadLength_BadQuestion : PySem.W.subIn K (.ref c_BadLength) (.ref c_BadQuestion) = some false)
    (h_hks_BadLength_BadMarks : PySem.W.subIn K (.ref c_BadLength) (.ref c_BadMarks) = some false)
    (h_hks_BadLength_BadLadder : PySem.W.subIn K (.ref c_BadLength) (.ref c_BadLadder) = some false)
    (h_hks_BadLength_BadCount : PySem.W.subIn K (.ref c_BadLength) (.ref c_BadCount) = some false)
    (h_hks_BadLength_BadRelation : PySem.W.subIn K (.ref c_BadLength) (.ref c_BadRelation) = some false)
    (h_hks_BadLength_BadPositions : PySem.W.subIn K (.ref c_BadLength) (.ref c_BadPositions) = some false)
    (h_hks_BadLength_NoFinal : PySem.W.subIn K (.ref c_BadLength) (.ref c_NoFinal) = some false)
    (h_hks_BadLength_NotReached : PySem.W.subIn K (.ref c_BadLength) (.ref c_NotReached) = some false)
    (h_hks_BadLength_NoEnd : PySem.W.subIn K (.ref c_BadLength) (.ref c_NoEnd) = some false)
    (h_hks_BadLength_ZeroBottom : PySem.W.subIn K (.ref c_BadLength) (.ref c_ZeroBottom) = some false)
    (h_hks_BadLength_NoChance : PySem.W.subIn K (.ref c_BadLength) (.ref c_NoChance) = some false)
    (h_hks_BadLength_BadChance : PySem.W.subIn K (.ref c_BadLength) (.ref c_BadChance) = some false)
    (h_hks_BadLength_ZeroPolynomial : PySem.W.subIn K (.ref c_BadLength) (.ref c_ZeroPolynomial) = some false)
    (h_hks_BadLength_BadInterval : PySem.W.subIn K (.ref c_BadLength) (.ref c_BadInterval) = some false)
    (h_hks_BadLength_NoSkip : PySem.W.subIn K (.ref c_BadLength) (.ref c_NoSkip) = some false)
    (h_hks_BadLength_NotComing : PySem.W.subIn K (.ref c_BadLength) (.ref c_NotComing) = some false)
    (h_hks_BadLength_NoPupils : PySem.W.subIn K (.ref c_BadLength) (.ref c_NoPupils) = some false)
    (h_hks_BadLength_AlikePupils : PySem.W.subIn K (.ref c_BadLength) (.ref c_AlikePupils) = some false)
    (h_hks_BadLength_BadLine : PySem.W.subIn K (.ref c_BadLength) (.ref c_BadLine) = some false)
    (h_hks_BadLength_Ended : PySem.W.subIn K (.ref c_BadLength) (.ref c_Ended) = some false)
    (h_hks_BadLength_BadDeed : PySem.W.subIn K (.ref c_BadLength) (.ref c_BadDeed) = some false)
    (h_hks_AlikePupils_BadEnds : PySem.W.subIn K (.ref c_AlikePupils) (.ref c_BadEnds) = some false)
    (h_hks_AlikePupils_BadNode : PySem.W.subIn K (.ref c_AlikePupils) (.ref c_BadNode) = some false)
    (h_hks_AlikePupils_BadStart : PySem.W.subIn K (.ref c_AlikePupils) (.ref c_BadStart) = some false)
    (h_hks_AlikePupils_TwiceAsked : PySem.W.subIn K (.ref c_AlikePupils) (.ref c_TwiceAsked) = some false)
    (h_hks_AlikePupils_NoNode : PySem.W.subIn K (.ref c_AlikePupils) (.ref c_NoNode) = some false)
    (h_hks_AlikePupils_NoPosition : PySem.W.subIn K (.ref c_AlikePupils) (.ref c_NoPosition) = some false)
    (h_hks_AlikePupils_BadQuestion : PySem.W.subIn K (.ref c_AlikePupils) (.ref c_BadQuestion) = some false)
    (h_hks_AlikePupils_BadMarks : PySem.W.subIn K (.ref c_AlikePupils) (.ref c_BadMarks) = some false)
    (h_hks_AlikePupils_BadLadder : PySem.W.subIn K (.ref c_AlikePupils) (.ref c_BadLadder) = some false)
    (h_hks_AlikePupils_BadCount : PySem.W.subIn K (.ref c_AlikePupils) (.ref c_BadCount) = some false)
    (h_hks_AlikePupils_BadRelation : PySem.W.subIn K (.ref c_AlikePupils) (.ref c_BadRelation) = some false)
    (h_hks_AlikePupils_BadPositions : PySem.W.subIn K (.ref c_AlikePupils) (.ref c_BadPositions) = some false)
    (h_hks_AlikePupils_NoFinal : PySem.W.subIn K (.ref c_AlikePupils) (.ref c_NoFinal) = some false)
    (h_hks_AlikePupils_NotReached : PySem.W.subIn K (.ref c_AlikePupils) (.ref c_NotReached) = some false)
    (h_hks_AlikePupils_NoEnd : PySem.W.subIn K (.ref c_AlikePupils) (.ref c_NoEnd) = some false)
    (h_hks_AlikePupils_ZeroBottom : PySem.W.subIn K (.ref c_AlikePupils) (.ref c_ZeroBottom) = some false)
    (h_hks_AlikePupils_NoChance : PySem.W.subIn K (.ref c_AlikePupils) (.ref c_NoChance) = some false)
    (h_hks_AlikePupils_BadChance : PySem.W.subIn K (.ref c_AlikePupils) (.ref c_BadChance) = some false)
    (h_hks_AlikePupils_ZeroPolynomial : PySem.W.subIn K (.ref c_AlikePupils) (.ref c_ZeroPolynomial) = some false)
    (h_hks_AlikePupils_BadInterval : PySem.W.subIn K (.ref c_AlikePupils) (.ref c_BadInterval) = some false)
    (h_hks_AlikePupils_NoSkip : PySem.W.subIn K (.ref c_AlikePupils) (.ref c_NoSkip) = some false)
    (h_hks_AlikePupils_NotComing : PySem.W.subIn K (.ref c_AlikePupils) (.ref c_NotComing) = some false)
    (h_hks_AlikePupils_NoPupils : PySem.W.subIn K (.ref c_AlikePupils) (.ref c_NoPupils) = some false)
    (h_hks_AlikePupils_BadLength : PySem.W.subIn K (.ref c_AlikePupils) (.ref c_BadLength) = some false)
    (h_hks_AlikePupils_BadLine : PySem.W.subIn K (.ref c_AlikePupils) (.ref c_BadLine) = some false)
    (h_hks_AlikePupils_Ended : PySem.W.subIn K (.ref c_AlikePupils) (.ref c_Ended) = some false)
    (h_hks_AlikePupils_BadDeed : PySem.W.subIn K (.ref c_AlikePupils) (.ref c_BadDeed) = some false)
    (h_hks_BadLine_BadEnds : PySem.W.subIn K (.ref c_BadLine) (.ref c_BadEnds) = some false)
    (h_hks_BadLine_BadNode : PySem.W.subIn K (.ref c_BadLine) (.ref c_BadNode) = some false)
    (h_hks_BadLine_BadStart : PySem.W.subIn K (.ref c_BadLine) (.ref c_BadStart) = some false)
    (h_hks_BadLine_TwiceAsked : PySem.W.subIn K (.ref c_BadLine) (.ref c_TwiceAsked) = some false)
    (h_hks_BadLine_NoNode : PySem.W.subIn K (.ref c_BadLine) (.ref c_NoNode) = some false)
    (h_hks_BadLine_NoPosition : PySem.W.subIn K (.ref c_BadLine) (.ref c_NoPosition) = some false)
    (h_hks_BadLine_BadQuestion : PySem.W.subIn K (.ref c_BadLine) (.ref c_BadQuestion) = some false)
    (h_hks_BadLine_BadMarks : PySem.W.subIn K (.ref c_BadLine) (.ref c_BadMarks) = some false)
    (h_hks_BadLine_BadLadder : PySem.W.subIn K (.ref c_BadLine) (.ref c_BadLadder) = some false)
    (h_hks_BadLine_BadCount : PySem.W.subIn K (.ref c_BadLine) (.ref c_BadCount) = some false)
    (h_hks_BadLine_BadRelation : PySem.W.subIn K (.ref c_BadLine) (.ref c_BadRelation) = some false)
    (h_hks_BadLine_BadPositions : PySem.W.subIn K (.ref c_BadLine) (.ref c_BadPositions) = some false)
    (h_hks_BadLine_NoFinal : PySem.W.subIn K (.ref c_BadLine) (.ref c_NoFinal) = some false)
    (h_hks_BadLine_NotReached : PySem.W.subIn K (.ref c_BadLine) (.ref c_NotReached) = some false)
    (h_hks_BadLine_NoEnd : PySem.W.subIn K (.ref c_BadLine) (.ref c_NoEnd) = some false)
    (h_hks_BadLine_ZeroBottom : PySem.W.subIn K (.ref c_BadLine) (.ref c_ZeroBottom) = some false)
    (h_hks_BadLine_NoChance : PySem.W.subIn K (.ref c_BadLine) (.ref c_NoChance) = some false)
    (h_hks_BadLine_BadChance : PySem.W.subIn K (.ref c_BadLine) (.ref c_BadChance) = some false)
    (h_hks_BadLine_ZeroPolynomial : PySem.W.subIn K (.ref c_BadLine) (.ref c_ZeroPolynomial) = some false)
    (h_hks_BadLine_BadInterval : PySem.W.subIn K (.ref c_BadLine) (.ref c_BadInterval) = some false)
    (h_hks_BadLine_NoSkip : PySem.W.subIn K (.ref c_BadLine) (.ref c_NoSkip) = some false)
    (h_hks_BadLine_NotComing : PySem.W.subIn K (.ref c_BadLine) (.ref c_NotComing) = some false)
    (h_hks_BadLine_NoPupils : PySem.W.subIn K (.ref c_BadLine) (.ref c_NoPupils) = some false)
    (h_hks_BadLine_BadLength : PySem.W.subIn K (.ref c_BadLine) (.ref c_BadLength) = some false)
    (h_hks_BadLine_AlikePupils : PySem.W.subIn K (.ref c_BadLine) (.ref c_AlikePupils) = some false)
    (h_hks_BadLine_Ended : PySem.W.subIn K (.ref c_BadLine) (.ref c_Ended) = some false)
    (h_hks_BadLine_BadDeed : PySem.W.subIn K (.ref c_BadLine) (.ref c_BadDeed) = some false)
    (h_hks_Ended_BadEnds : PySem.W.subIn K (.ref c_Ended) (.ref c_BadEnds) = some false)
    (h_hks_Ended_BadNode : PySem.W.subIn K (.ref c_Ended) (.ref c_BadNode) = some false)
    (h_hks_Ended_BadStart : PySem.W.subIn K (.ref c_Ended) (.ref c_BadStart) = some false)
    (h_hks_Ended_TwiceAsked : PySem.W.subIn K (.ref c_Ended) (.ref c_TwiceAsked) = some false)
    (h_hks_Ended_NoNode : PySem.W.subIn K (.ref c_Ended) (.ref c_NoNode) = some false)
    (h_hks_Ended_NoPosition : PySem.W.subIn K (.ref c_Ended) (.ref c_NoPosition) = some false)
    (h_hks_Ended_BadQuestion : PySem.W.subIn K (.ref c_Ended) (.ref c_BadQuestion) = some false)
    (h_hks_Ended_BadMarks : PySem.W.subIn K (.ref c_Ended) (.ref c_BadMarks) = some false)
    (h_hks_Ended_BadLadder : PySem.W.subIn K (.ref c_Ended) (.ref c_BadLadder) = some false)
    (h_hks_Ended_BadCount : PySem.W.subIn K (.ref c_Ended) (.ref c_BadCount) = some false)
    (h_hks_Ended_BadRelation : PySem.W.subIn K (.ref c_Ended) (.ref c_BadRelation) = some false)
    (h_hks_Ended_BadPositions : PySem.W.subIn K (.ref c_Ended) (.ref c_BadPositions) = some false)
    (h_hks_Ended_NoFinal : PySem.W.subIn K (.ref c_Ended) (.ref c_NoFinal) = some false)
    (h_hks_Ended_NotReached : PySem.W.subIn K (.ref c_Ended) (.ref c_NotReached) = some false)
    (h_hks_Ended_NoEnd : PySem.W.subIn K (.ref c_Ended) (.ref c_NoEnd) = some false)
    (h_hks_Ended_ZeroBottom : PySem.W.subIn K (.ref c_Ended) (.ref c_ZeroBottom) = some false)
    (h_hks_Ended_NoChance : PySem.W.subIn K (.ref c_Ended) (.ref c_NoChance) = some false)
    (h_hks_Ended_BadChance : PySem.W.subIn K (.ref c_Ended) (.ref c_BadChance) = some false)
    (h_hks_Ended_ZeroPolynomial : PySem.W.subIn K (.ref c_Ended) (.ref c_ZeroPolynomial) = some false)
    (h_hks_Ended_BadInterval : PySem.W.subIn K (.ref c_Ended) (.ref c_BadInterval) = some false)
    (h_hks_Ended_NoSkip : PySem.W.subIn K (.ref c_Ended) (.ref c_NoSkip) = some false)
    (h_hks_Ended_NotComing : PySem.W.subIn K (.ref c_Ended) (.ref c_NotComing) = some false)
    (h_hks_Ended_NoPupils : PySem.W.subIn K (.ref c_Ended) (.ref c_NoPupils) = some false)
    (h_hks_Ended_BadLength : PySem.W.subIn K (.ref c_Ended) (.ref c_BadLength) = some false)
    (h_hks_Ended_AlikePupils : PySem.W.subIn K (.ref c_Ended) (.ref c_AlikePupils) = some false)
    (h_hks_Ended_BadLine : PySem.W.subIn K (.ref c_Ended) (.ref c_BadLine) = some false)
    (h_hks_Ended_BadDeed : PySem.W.subIn K (.ref c_Ended) (.ref c_BadDeed) = some false)
    (h_hks_BadDeed_BadEnds : PySem.W.subIn K (.ref c_BadDeed) (.ref c_BadEnds) = some false)
    (h_hks_BadDeed_BadNode : PySem.W.subIn K (.ref c_BadDeed) (.ref c_BadNode) = some false)
    (h_hks_BadDeed_BadStart : PySem.W.subIn K (.ref c_BadDeed) (.ref c_BadStart) = some false)
    (h_hks_BadDeed_TwiceAsked : PySem.W.subIn K (.ref c_BadDeed) (.ref c_TwiceAsked) = some false)
    (h_hks_BadDeed_NoNode : PySem.W.subIn K (.ref c_BadDeed) (.ref c_NoNode) = some false)
    (h_hks_BadDeed_NoPosition : PySem.W.subIn K (.ref c_BadDeed) (.ref c_NoPosition) = some false)
    (h_hks_BadDeed_BadQuestion : PySem.W.subIn K (.ref c_BadDeed) (.ref c_BadQuestion) = some false)
    (h_hks_BadDeed_BadMarks : PySem.W.subIn K (.ref c_BadDeed) (.ref c_BadMarks) = some false)
    (h_hks_BadDeed_BadLadder : PySem.W.subIn K (.ref c_BadDeed) (.ref c_BadLadder) = some false)
    (h_hks_BadDeed_BadCount : PySem.W.subIn K (.ref c_BadDeed) (.ref c_BadCount) = some false)
    (h_hks_BadDeed_BadRelation : PySem.W.subIn K (.ref c_BadDeed) (.ref c_BadRelation) = some false)
    (h_hks_BadDeed_BadPositions : PySem.W.subIn K (.ref c_BadDeed) (.ref c_BadPositions) = some false)
    (h_hks_BadDeed_NoFinal : PySem.W.subIn K (.ref c_BadDeed) (.ref c_NoFinal) = some false)
    (h_hks_BadDeed_NotReached : PySem.W.subIn K (.ref c_BadDeed) (.ref c_NotReached) = some false)
    (h_hks_BadDeed_NoEnd : PySem.W.subIn K (.ref c_BadDeed) (.ref c_NoEnd) = some false)
    (h_hks_BadDeed_ZeroBottom : PySem.W.subIn K (.ref c_BadDeed) (.ref c_ZeroBottom) = some false)
    (h_hks_BadDeed_NoChance : PySem.W.subIn K (.ref c_BadDeed) (.ref c_NoChance) = some false)
    (h_hks_BadDeed_BadChance : PySem.W.subIn K (.ref c_BadDeed) (.ref c_BadChance) = some false)
    (h_hks_BadDeed_ZeroPolynomial : PySem.W.subIn K (.ref c_BadDeed) (.ref c_ZeroPolynomial) = some false)
    (h_hks_BadDeed_BadInterval : PySem.W.subIn K (.ref c_BadDeed) (.ref c_BadInterval) = some false)
    (h_hks_BadDeed_NoSkip : PySem.W.subIn K (.ref c_BadDeed) (.ref c_NoSkip) = some false)
    (h_hks_BadDeed_NotComing : PySem.W.subIn K (.ref c_BadDeed) (.ref c_NotComing) = some false)
    (h_hks_BadDeed_NoPupils : PySem.W.subIn K (.ref c_BadDeed) (.ref c_NoPupils) = some false)
    (h_hks_BadDeed_BadLength : PySem.W.subIn K (.ref c_BadDeed) (.ref c_BadLength) = some false)
    (h_hks_BadDeed_AlikePupils : PySem.W.subIn K (.ref c_BadDeed) (.ref c_AlikePupils) = some false)
    (h_hks_BadDeed_BadLine : PySem.W.subIn K (.ref c_BadDeed) (.ref c_BadLine) = some false)
    (h_hks_BadDeed_Ended : PySem.W.subIn K (.ref c_BadDeed) (.ref c_Ended) = some false)
    (h_hks_BadEnds_ValueError : PySem.W.subIn K (.ref c_BadEnds) (.type "ValueError") = some true)
    (h_hks_BadNode_ValueError : PySem.W.subIn K (.ref c_BadNode) (.type "ValueError") = some true)
    (h_hks_BadStart_ValueError : PySem.W.subIn K (.ref c_BadStart) (.type "ValueError") = some true)
    (h_hks_TwiceAsked_ValueError : PySem.W.subIn K (.ref c_TwiceAsked) (.type "ValueError") = some true)
    (h_hks_NoNode_ValueError : PySem.W.subIn K (.ref c_NoNode) (.type "ValueError") = some true)
    (h_hks_NoPosition_ValueError : PySem.W.subIn K (.ref c_NoPosition) (.type "ValueError") = some true)
    (h_hks_BadQuestion_ValueError : PySem.W.subIn K (.ref c_BadQuestion) (.type "ValueError") = some true)
    (h_hks_BadMarks_ValueError : PySem.W.subIn K (.ref c_BadMarks) (.type "ValueError") = some true)
    (h_hks_BadLadder_ValueError : PySem.W.subIn K (.ref c_BadLadder) (.type "ValueError") = some true)
    (h_hks_BadCount_ValueError : PySem.W.subIn K (.ref c_BadCount) (.type "ValueError") = some true)
    (h_hks_BadRelation_ValueError : PySem.W.subIn K (.ref c_BadRelation) (.type "ValueError") = some true)
    (h_hks_BadPositions_ValueError : PySem.W.subIn K (.ref c_BadPositions) (.type "ValueError") = some true)
    (h_hks_NoFinal_ValueError : PySem.W.subIn K (.ref c_NoFinal) (.type "ValueError") = some true)
    (h_hks_NotReached_ValueError : PySem.W.subIn K (.ref c_NotReached) (.type "ValueError") = some true)
    (h_hks_NoEnd_ValueError : PySem.W.subIn K (.ref c_NoEnd) (.type "ValueError") = some true)
    (h_hks_ZeroBottom_ValueError : PySem.W.subIn K (.ref c_ZeroBottom) (.type "ValueError") = some true)
    (h_hks_NoChance_ValueError : PySem.W.subIn K (.ref c_NoChance) (.type "ValueError") = some true)
    (h_hks_BadChance_ValueError : PySem.W.subIn K (.ref c_BadChance) (.type "ValueError") = some true)
    (h_hks_ZeroPolynomial_ValueError : PySem.W.subIn K (.ref c_ZeroPolynomial) (.type "ValueError") = some true)
    (h_hks_BadInterval_ValueError : PySem.W.subIn K (.ref c_BadInterval) (.type "ValueError") = some true)
    (h_hks_NoSkip_ValueError : PySem.W.subIn K (.ref c_NoSkip) (.type "ValueError") = some true)
    (h_hks_NotComing_ValueError : PySem.W.subIn K (.ref c_NotComing) (.type "ValueError") = some true)
    (h_hks_NoPupils_ValueError : PySem.W.subIn K (.ref c_NoPupils) (.type "ValueError") = some true)
    (h_hks_BadLength_ValueError : PySem.W.subIn K (.ref c_BadLength) (.type "ValueError") = some true)
    (h_hks_AlikePupils_ValueError : PySem.W.subIn K (.ref c_AlikePupils) (.type "ValueError") = some true)
    (h_hks_BadLine_ValueError : PySem.W.subIn K (.ref c_BadLine) (.type "ValueError") = some true)
    (h_hks_Ended_ValueError : PySem.W.subIn K (.ref c_Ended) (.type "ValueError") = some true)
    (h_hks_BadDeed_ValueError : PySem.W.subIn K (.ref c_BadDeed) (.type "ValueError") = some true)
    (h_a_BadEnds_init : PySem.W.findIn K (.ref c_BadEnds) "__init__" = some (some (.ref f_BadEnds_init)))
    (h_i_BadEnds_init : PySem.W.isFn K (.ref f_BadEnds_init) = true)
    (h_l_BadEnds_init : K.lookup f_BadEnds_init = some ⟨oc_BadEnds_init, od_BadEnds_init, .func (PySem.W.fnOf "__init__" "BadEnds.__init__" (defArgs s_BadEnds_init) (defBody s_BadEnds_init) (defScope s_BadEnds_init) .none kV_BadEnds_init dc_BadEnds_init pm_BadEnds_init an_BadEnds_init cd_BadEnds_init ct_BadEnds_init), sl_BadEnds_init⟩)
    (h_c_BadEnds_init : PySem.W.codeIn K cd_BadEnds_init "BadEnds.__init__" = true)
    (h_k_BadEnds_init : PySem.W.keepIn K (.ref f_BadEnds_init) = true)
    (h_a_BadNode_init : PySem.W.findIn K (.ref c_BadNode) "__init__" = some (some (.ref f_BadNode_init)))
    (h_i_BadNode_init : PySem.W.isFn K (.ref f_BadNode_init) = true)
    (h_l_BadNode_init : K.lookup f_BadNode_init = some ⟨oc_BadNode_init, od_BadNode_init, .func (PySem.W.fnOf "__init__" "BadNode.__init__" (defArgs s_BadNode_init) (defBody s_BadNode_init) (defScope s_BadNode_init) .none kV_BadNode_init dc_BadNode_init pm_BadNode_init an_BadNode_init cd_BadNode_init ct_BadNode_init), sl_BadNode_init⟩)
    (h_c_BadNode_init : PySem.W.codeIn K cd_BadNode_init "BadNode.__init__" = true)
    (h_k_BadNode_init : PySem.W.keepIn K (.ref f_BadNode_init) = true)
    (h_a_BadStart_init : PySem.W.findIn K (.ref c_BadStart) "__init__" = some (some (.ref f_BadStart_init)))
    (h_i_BadStart_init : PySem.W.isFn K (.ref f_BadStart_init) = true)
    (h_l_BadStart_init : K.lookup f_BadStart_init = some ⟨oc_BadStart_init, od_BadStart_init, .func (PySem.W.fnOf "__init__" "BadStart.__init__" (defArgs s_BadStart_init) (defBody s_BadStart_init) (defScope s_BadStart_init) .none kV_BadStart_init dc_BadStart_init pm_BadStart_init an_BadStart_init cd_BadStart_init ct_BadStart_init), sl_BadStart_init⟩)
    (h_c_BadStart_init : PySem.W.codeIn K cd_BadStart_init "BadStart.__init__" = true)
    (h_k_BadStart_init : PySem.W.keepIn K (.ref f_BadStart_init) = true)
    (h_a_TwiceAsked_init : PySem.W.findIn K (.ref c_TwiceAsked) "__init__" = some (some (.ref f_TwiceAsked_init)))
    (h_i_TwiceAsked_init : PySem.W.isFn K (.ref f_TwiceAsked_init) = true)
    (h_l_TwiceAsked_init : K.lookup f_TwiceAsked_init = some ⟨oc_TwiceAsked_init, od_TwiceAsked_init, .func (PySem.W.fnOf "__init__" "TwiceAsked.__init__" (defArgs s_TwiceAsked_init) (defBody s_TwiceAsked_init) (defScope s_TwiceAsked_init) .none kV_TwiceAsked_init dc_TwiceAsked_init pm_TwiceAsked_init an_TwiceAsked_init cd_TwiceAsked_init ct_TwiceAsked_init), sl_TwiceAsked_init⟩)
    (h_c_TwiceAsked_init : PySem.W.codeIn K cd_TwiceAsked_init "TwiceAsked.__init__" = true)
    (h_k_TwiceAsked_init : PySem.W.keepIn K (.ref f_TwiceAsked_init) = true)
    (h_a_NoNode_init : PySem.W.findIn K (.ref c_NoNode) "__init__" = some (some (.ref f_NoNode_init)))
    (h_i_NoNode_init : PySem.W.isFn K (.ref f_NoNode_init) = true)
    (h_l_NoNode_init : K.lookup f_NoNode_init = some ⟨oc_NoNode_init, od_NoNode_init, .func (PySem.W.fnOf "__init__" "NoNode.__init__" (defArgs s_NoNode_init) (defBody s_NoNode_init) (defScope s_NoNode_init) .none kV_NoNode_init dc_NoNode_init pm_NoNode_init an_NoNode_init cd_NoNode_init ct_NoNode_init), sl_NoNode_init⟩)
    (h_c_NoNode_init : PySem.W.codeIn K cd_NoNode_init "NoNode.__init__" = true)
    (h_k_NoNode_init : PySem.W.keepIn K (.ref f_NoNode_init) = true)
    (h_a_NoPosition_init : PySem.W.findIn K (.ref c_NoPosition) "__init__" = some (some (.ref f_NoPosition_init)))
    (h_i_NoPosition_init : PySem.W.isFn K (.ref f_NoPosition_init) = true)
    (h_l_NoPosition_init : K.lookup f_NoPosition_init = some ⟨oc_NoPosition_init, od_NoPosition_init, .func (PySem.W.fnOf "__init__" "NoPosition.__init__" (defArgs s_NoPosition_init) (defBody s_NoPosition_init) (defScope s_NoPosition_init) .none kV_NoPosition_init dc_NoPosition_init pm_NoPosition_init an_NoPosition_init cd_NoPosition_init ct_NoPosition_init), sl_NoPosition_init⟩)
    (h_c_NoPosition_init : PySem.W.codeIn K cd_NoPosition_init "NoPosition.__init__" = true)
    (h_k_NoPosition_init : PySem.W.keepIn K (.ref f_NoPosition_init) = true)
    (h_a_BadQuestion_init : PySem.W.findIn K (.ref c_BadQuestion) "__init__" = some (some (.ref f_BadQuestion_init)))
    (h_i_BadQuestion_init : PySem.W.isFn K (.ref f_BadQuestion_init) = true)
    (h_l_BadQuestion_init : K.lookup f_BadQuestion_init = some ⟨oc_BadQuestion_init, od_BadQuestion_init, .func (PySem.W.fnOf "__init__" "BadQuestion.__init__" (defArgs s_BadQuestion_init) (defBody s_BadQuestion_init) (defScope s_BadQuestion_init) .none kV_BadQuestion_init dc_BadQuestion_init pm_BadQuestion_init an_BadQuestion_init cd_BadQuestion_init ct_BadQuestion_init), sl_BadQuestion_init⟩)
    (h_c_BadQuestion_init : PySem.W.codeIn K cd_BadQuestion_init "BadQuestion.__init__" = true)
    (h_k_BadQuestion_init : PySem.W.keepIn K (.ref f_BadQuestion_init) = true)
    (h_a_BadMarks_init : PySem.W.findIn K (.ref c_BadMarks) "__init__" = some (some (.ref f_BadMarks_init)))
    (h_i_BadMarks_init : PySem.W.isFn K (.ref f_BadMarks_init) = true)
    (h_l_BadMarks_init : K.lookup f_BadMarks_init = some ⟨oc_BadMarks_init, od_BadMarks_init, .func (PySem.W.fnOf "__init__" "BadMarks.__init__" (defArgs s_BadMarks_init) (defBody s_BadMarks_init) (defScope s_BadMarks_init) .none kV_BadMarks_init dc_BadMarks_init pm_BadMarks_init an_BadMarks_init cd_BadMarks_init ct_BadMarks_init), sl_BadMarks_init⟩)
    (h_c_BadMarks_init : PySem.W.codeIn K cd_BadMarks_init "BadMarks.__init__" = true)
    (h_k_BadMarks_init : PySem.W.keepIn K (.ref f_BadMarks_init) = true)
    (h_a_BadLadder_init : PySem.W.findIn K (.ref c_BadLadder) "__init__" = some (some (.ref f_BadLadder_init)))
    (h_i_BadLadder_init : PySem.W.isFn K (.ref f_BadLadder_init) = true)
    (h_l_BadLadder_init : K.lookup f_BadLadder_init = some ⟨oc_BadLadder_init, od_BadLadder_init, .func (PySem.W.fnOf "__init__" "BadLadder.__init__" (defArgs s_BadLadder_init) (defBody s_BadLadder_init) (defScope s_BadLadder_init) .none kV_BadLadder_init dc_BadLadder_init pm_BadLadder_init an_BadLadder_init cd_BadLadder_init ct_BadLadder_init), sl_BadLadder_init⟩)
    (h_c_BadLadder_init : PySem.W.codeIn K cd_BadLadder_init "BadLadder.__init__" = true)
    (h_k_BadLadder_init : PySem.W.keepIn K (.ref f_BadLadder_init) = true)
    (h_a_BadCount_init : PySem.W.findIn K (.ref c_BadCount) "__init__" = some (some (.ref f_BadCount_init)))
    (h_i_BadCount_init : PySem.W.isFn K (.ref f_BadCount_init) = true)
    (h_l_BadCount_init : K.lookup f_BadCount_init = some ⟨oc_BadCount_init, od_BadCount_init, .func (PySem.W.fnOf "__init__" "BadCount.__init__" (defArgs s_BadCount_init) (defBody s_BadCount_init) (defScope s_BadCount_init) .none kV_BadCount_init dc_BadCount_init pm_BadCount_init an_BadCount_init cd_BadCount_init ct_BadCount_init), sl_BadCount_init⟩)
    (h_c_BadCount_init : PySem.W.codeIn K cd_BadCount_init "BadCount.__init__" = true)
    (h_k_BadCount_init : PySem.W.keepIn K (.ref f_BadCount_init) = true)
    (h_a_BadRelation_init : PySem.W.findIn K (.ref c_BadRelation) "__init__" = some (some (.ref f_BadRelation_init)))
    (h_i_BadRelation_init : PySem.W.isFn K (.ref f_BadRelation_init) = true)
    (h_l_BadRelation_init : K.lookup f_BadRelation_init = some ⟨oc_BadRelation_init, od_BadRelation_init, .func (PySem.W.fnOf "__init__" "BadRelation.__init__" (defArgs s_BadRelation_init) (defBody s_BadRelation_init) (defScope s_BadRelation_init) .none kV_BadRelation_init dc_BadRelation_init pm_BadRelation_init an_BadRelation_init cd_BadRelation_init ct_BadRelation_init), sl_BadRelation_init⟩)
    (h_c_BadRelation_init : PySem.W.codeIn K cd_BadRelation_init "BadRelation.__init__" = true)
    (h_k_BadRelation_init : PySem.W.keepIn K (.ref f_BadRelation_init) = true)
    (h_a_BadPositions_init : PySem.W.findIn K (.ref c_BadPositions) "__init__" = some (some (.ref f_BadPositions_init)))
    (h_i_BadPositions_init : PySem.W.isFn K (.ref f_BadPositions_init) = true)
    (h_l_BadPositions_init : K.lookup f_BadPositions_init = some ⟨oc_BadPositions_init, od_BadPositions_init, .func (PySem.W.fnOf "__init__" "BadPositions.__init__" (defArgs s_BadPositions_init) (defBody s_BadPositions_init) (defScope s_BadPositions_init) .none kV_BadPositions_init dc_BadPositions_init pm_BadPositions_init an_BadPositions_init cd_BadPositions_init ct_BadPositions_init), sl_BadPositions_init⟩)
    (h_c_BadPositions_init : PySem.W.codeIn K cd_BadPositions_init "BadPositions.__init__" = true)
    (h_k_BadPositions_init : PySem.W.keepIn K (.ref f_BadPositions_init) = true)
    (h_a_NoFinal_init : PySem.W.findIn K (.ref c_NoFinal) "__init__" = some (some (.ref f_NoFinal_init)))
    (h_i_NoFinal_init : PySem.W.isFn K (.ref f_NoFinal_init) = true)
    (h_l_NoFinal_init : K.lookup f_NoFinal_init = some ⟨oc_NoFinal_init, od_NoFinal_init, .func (PySem.W.fnOf "__init__" "NoFinal.__init__" (defArgs s_NoFinal_init) (defBody s_NoFinal_init) (defScope s_NoFinal_init) .none kV_NoFinal_init dc_NoFinal_init pm_NoFinal_init an_NoFinal_init cd_NoFinal_init ct_NoFinal_init), sl_NoFinal_init⟩)
    (h_c_NoFinal_init : PySem.W.codeIn K cd_NoFinal_init "NoFinal.__init__" = true)
    (h_k_NoFinal_init : PySem.W.keepIn K (.ref f_NoFinal_init) = true)
    (h_a_NotReached_init : PySem.W.findIn K (.ref c_NotReached) "__init__" = some (some (.ref f_NotReached_init)))
    (h_i_NotReached_init : PySem.W.isFn K (.ref f_NotReached_init) = true)
    (h_l_NotReached_init : K.lookup f_NotReached_init = some ⟨oc_NotReached_init, od_NotReached_init, .func (PySem.W.fnOf "__init__" "NotReached.__init__" (defArgs s_NotReached_init) (defBody s_NotReached_init) (defScope s_NotReached_init) .none kV_NotReached_init dc_NotReached_init pm_NotReached_init an_NotReached_init cd_NotReached_init ct_NotReached_init), sl_NotReached_init⟩)
    (h_c_NotReached_init : PySem.W.codeIn K cd_NotReached_init "NotReached.__init__" = true)
    (h_k_NotReached_init : PySem.W.keepIn K (.ref f_NotReached_init) = true)
    (h_a_NoEnd_init : PySem.W.findIn K (.ref c_NoEnd) "__init__" = some (some (.ref f_NoEnd_init)))
    (h_i_NoEnd_init : PySem.W.isFn K (.ref f_NoEnd_init) = true)
    (h_l_NoEnd_init : K.lookup f_NoEnd_init = some ⟨oc_NoEnd_init, od_NoEnd_init, .func (PySem.W.fnOf "__init__" "NoEnd.__init__" (defArgs s_NoEnd_init) (defBody s_NoEnd_init) (defScope s_NoEnd_init) .none kV_NoEnd_init dc_NoEnd_init pm_NoEnd_init an_NoEnd_init cd_NoEnd_init ct_NoEnd_init), sl_NoEnd_init⟩)
    (h_c_NoEnd_init : PySem.W.codeIn K cd_NoEnd_init "NoEnd.__init__" = true)
    (h_k_NoEnd_init : PySem.W.keepIn K (.ref f_NoEnd_init) = true)
    (h_a_ZeroBottom_init : PySem.W.findIn K (.ref c_ZeroBottom) "__init__" = some (some (.ref f_ZeroBottom_init)))
    (h_i_ZeroBottom_init : PySem.W.isFn K (.ref f_ZeroBottom_init) = true)
    (h_l_ZeroBottom_init : K.lookup f_ZeroBottom_init = some ⟨oc_ZeroBottom_init, od_ZeroBottom_init, .func (PySem.W.fnOf "__init__" "ZeroBottom.__init__" (defArgs s_ZeroBottom_init) (defBody s_ZeroBottom_init) (defScope s_ZeroBottom_init) .none kV_ZeroBottom_init dc_ZeroBottom_init pm_ZeroBottom_init an_ZeroBottom_init cd_ZeroBottom_init ct_ZeroBottom_init), sl_ZeroBottom_init⟩)
    (h_c_ZeroBottom_init : PySem.W.codeIn K cd_ZeroBottom_init "ZeroBottom.__init__" = true)
    (h_k_ZeroBottom_init : PySem.W.keepIn K (.ref f_ZeroBottom_init) = true)
    (h_a_NoChance_init : PySem.W.findIn K (.ref c_NoChance) "__init__" = some (some (.ref f_NoChance_init)))
    (h_i_NoChance_init : PySem.W.isFn K (.ref f_NoChance_init) = true)
    (h_l_NoChance_init : K.lookup f_NoChance_init = some ⟨oc_NoChance_init, od_NoChance_init, .func (PySem.W.fnOf "__init__" "NoChance.__init__" (defArgs s_NoChance_init) (defBody s_NoChance_init) (defScope s_NoChance_init) .none kV_NoChance_init dc_NoChance_init pm_NoChance_init an_NoChance_init cd_NoChance_init ct_NoChance_init), sl_NoChance_init⟩)
    (h_c_NoChance_init : PySem.W.codeIn K cd_NoChance_init "NoChance.__init__" = true)
    (h_k_NoChance_init : PySem.W.keepIn K (.ref f_NoChance_init) = true)
    (h_a_BadChance_init : PySem.W.findIn K (.ref c_BadChance) "__init__" = some (some (.ref f_BadChance_init)))
    (h_i_BadChance_init : PySem.W.isFn K (.ref f_BadChance_init) = true)
    (h_l_BadChance_init : K.lookup f_BadChance_init = some ⟨oc_BadChance_init, od_BadChance_init, .func (PySem.W.fnOf "__init__" "BadChance.__init__" (defArgs s_BadChance_init) (defBody s_BadChance_init) (defScope s_BadChance_init) .none kV_BadChance_init dc_BadChance_init pm_BadChance_init an_BadChance_init cd_BadChance_init ct_BadChance_init), sl_BadChance_init⟩)
    (h_c_BadChance_init : PySem.W.codeIn K cd_BadChance_init "BadChance.__init__" = true)
    (h_k_BadChance_init : PySem.W.keepIn K (.ref f_BadChance_init) = true)
    (h_a_ZeroPolynomial_init : PySem.W.findIn K (.ref c_ZeroPolynomial) "__init__" = some (some (.ref f_ZeroPolynomial_init)))
    (h_i_ZeroPolynomial_init : PySem.W.isFn K (.ref f_ZeroPolynomial_init) = true)
    (h_l_ZeroPolynomial_init : K.lookup f_ZeroPolynomial_init = some ⟨oc_ZeroPolynomial_init, od_ZeroPolynomial_init, .func (PySem.W.fnOf "__init__" "ZeroPolynomial.__init__" (defArgs s_ZeroPolynomial_init) (defBody s_ZeroPolynomial_init) (defScope s_ZeroPolynomial_init) .none kV_ZeroPolynomial_init dc_ZeroPolynomial_init pm_ZeroPolynomial_init an_ZeroPolynomial_init cd_ZeroPolynomial_init ct_ZeroPolynomial_init), sl_ZeroPolynomial_init⟩)
    (h_c_ZeroPolynomial_init : PySem.W.codeIn K cd_ZeroPolynomial_init "ZeroPolynomial.__init__" = true)
    (h_k_ZeroPolynomial_init : PySem.W.keepIn K (.ref f_ZeroPolynomial_init) = true)
    (h_a_BadInterval_init : PySem.W.findIn K (.ref c_BadInterval) "__init__" = some (some (.ref f_BadInterval_init)))
    (h_i_BadInterval_init : PySem.W.isFn K (.ref f_BadInterval_init) = true)
    (h_l_BadInterval_init : K.lookup f_BadInterval_init = some ⟨oc_BadInterval_init, od_BadInterval_init, .func (PySem.W.fnOf "__init__" "BadInterval.__init__" (defArgs s_BadInterval_init) (defBody s_BadInterval_init) (defScope s_BadInterval_init) .none kV_BadInterval_init dc_BadInterval_init pm_BadInterval_init an_BadInterval_init cd_BadInterval_init ct_BadInterval_init), sl_BadInterval_init⟩)
    (h_c_BadInterval_init : PySem.W.codeIn K cd_BadInterval_init "BadInterval.__init__" = true)
    (h_k_BadInterval_init : PySem.W.keepIn K (.ref f_BadInterval_init) = true)
    (h_a_NoSkip_init : PySem.W.findIn K (.ref c_NoSkip) "__init__" = some (some (.ref f_NoSkip_init)))
    (h_i_NoSkip_init : PySem.W.isFn K (.ref f_NoSkip_init) = true)
    (h_l_NoSkip_init : K.lookup f_NoSkip_init = some ⟨oc_NoSkip_init, od_NoSkip_init, .func (PySem.W.fnOf "__init__" "NoSkip.__init__" (defArgs s_NoSkip_init) (defBody s_NoSkip_init) (defScope s_NoSkip_init) .none kV_NoSkip_init dc_NoSkip_init pm_NoSkip_init an_NoSkip_init cd_NoSkip_init ct_NoSkip_init), sl_NoSkip_init⟩)
    (h_c_NoSkip_init : PySem.W.codeIn K cd_NoSkip_init "NoSkip.__init__" = true)
    (h_k_NoSkip_init : PySem.W.keepIn K (.ref f_NoSkip_init) = true)
    (h_a_NotComing_init : PySem.W.findIn K (.ref c_NotComing) "__init__" = some (some (.ref f_NotComing_init)))
    (h_i_NotComing_init : PySem.W.isFn K (.ref f_NotComing_init) = true)
    (h_l_NotComing_init : K.lookup f_NotComing_init = some ⟨oc_NotComing_init, od_NotComing_init, .func (PySem.W.fnOf "__init__" "NotComing.__init__" (defArgs s_NotComing_init) (defBody s_NotComing_init) (defScope s_NotComing_init) .none kV_NotComing_init dc_NotComing_init pm_NotComing_init an_NotComing_init cd_NotComing_init ct_NotComing_init), sl_NotComing_init⟩)
    (h_c_NotComing_init : PySem.W.codeIn K cd_NotComing_init "NotComing.__init__" = true)
    (h_k_NotComing_init : PySem.W.keepIn K (.ref f_NotComing_init) = true)
    (h_a_NoPupils_init : PySem.W.findIn K (.ref c_NoPupils) "__init__" = some (some (.ref f_NoPupils_init)))
    (h_i_NoPupils_init : PySem.W.isFn K (.ref f_NoPupils_init) = true)
    (h_l_NoPupils_init : K.lookup f_NoPupils_init = some ⟨oc_NoPupils_init, od_NoPupils_init, .func (PySem.W.fnOf "__init__" "NoPupils.__init__" (defArgs s_NoPupils_init) (defBody s_NoPupils_init) (defScope s_NoPupils_init) .none kV_NoPupils_init dc_NoPupils_init pm_NoPupils_init an_NoPupils_init cd_NoPupils_init ct_NoPupils_init), sl_NoPupils_init⟩)
    (h_c_NoPupils_init : PySem.W.codeIn K cd_NoPupils_init "NoPupils.__init__" = true)
    (h_k_NoPupils_init : PySem.W.keepIn K (.ref f_NoPupils_init) = true)
    (h_a_BadLength_init : PySem.W.findIn K (.ref c_BadLength) "__init__" = some (some (.ref f_BadLength_init)))
    (h_i_BadLength_init : PySem.W.isFn K (.ref f_BadLength_init) = true)
    (h_l_BadLength_init : K.lookup f_BadLength_init = some ⟨oc_BadLength_init, od_BadLength_init, .func (PySem.W.fnOf "__init__" "BadLength.__init__" (defArgs s_BadLength_init) (defBody s_BadLength_init) (defScope s_BadLength_init) .none kV_BadLength_init dc_BadLength_init pm_BadLength_init an_BadLength_init cd_BadLength_init ct_BadLength_init), sl_BadLength_init⟩)
    (h_c_BadLength_init : PySem.W.codeIn K cd_BadLength_init "BadLength.__init__" = true)
    (h_k_BadLength_init : PySem.W.keepIn K (.ref f_BadLength_init) = true)
    (h_a_AlikePupils_init : PySem.W.findIn K (.ref c_AlikePupils) "__init__" = some (some (.ref f_AlikePupils_init)))
    (h_i_AlikePupils_init : PySem.W.isFn K (.ref f_AlikePupils_init) = true)
    (h_l_AlikePupils_init : K.lookup f_AlikePupils_init = some ⟨oc_AlikePupils_init, od_AlikePupils_init, .func (PySem.W.fnOf "__init__" "AlikePupils.__init__" (defArgs s_AlikePupils_init) (defBody s_AlikePupils_init) (defScope s_AlikePupils_init) .none kV_AlikePupils_init dc_AlikePupils_init pm_AlikePupils_init an_AlikePupils_init cd_AlikePupils_init ct_AlikePupils_init), sl_AlikePupils_init⟩)
    (h_c_AlikePupils_init : PySem.W.codeIn K cd_AlikePupils_init "AlikePupils.__init__" = true)
    (h_k_AlikePupils_init : PySem.W.keepIn K (.ref f_AlikePupils_init) = true)
    (h_a_BadLine_init : PySem.W.findIn K (.ref c_BadLine) "__init__" = some (some (.ref f_BadLine_init)))
    (h_i_BadLine_init : PySem.W.isFn K (.ref f_BadLine_init) = true)
    (h_l_BadLine_init : K.lookup f_BadLine_init = some ⟨oc_BadLine_init, od_BadLine_init, .func (PySem.W.fnOf "__init__" "BadLine.__init__" (defArgs s_BadLine_init) (defBody s_BadLine_init) (defScope s_BadLine_init) .none kV_BadLine_init dc_BadLine_init pm_BadLine_init an_BadLine_init cd_BadLine_init ct_BadLine_init), sl_BadLine_init⟩)
    (h_c_BadLine_init : PySem.W.codeIn K cd_BadLine_init "BadLine.__init__" = true)
    (h_k_BadLine_init : PySem.W.keepIn K (.ref f_BadLine_init) = true)
    (h_a_Ended_init : PySem.W.findIn K (.ref c_Ended) "__init__" = some (some (.ref f_Ended_init)))
    (h_i_Ended_init : PySem.W.isFn K (.ref f_Ended_init) = true)
    (h_l_Ended_init : K.lookup f_Ended_init = some ⟨oc_Ended_init, od_Ended_init, .func (PySem.W.fnOf "__init__" "Ended.__init__" (defArgs s_Ended_init) (defBody s_Ended_init) (defScope s_Ended_init) .none kV_Ended_init dc_Ended_init pm_Ended_init an_Ended_init cd_Ended_init ct_Ended_init), sl_Ended_init⟩)
    (h_c_Ended_init : PySem.W.codeIn K cd_Ended_init "Ended.__init__" = true)
    (h_k_Ended_init : PySem.W.keepIn K (.ref f_Ended_init) = true)
    (h_a_BadDeed_init : PySem.W.findIn K (.ref c_BadDeed) "__init__" = some (some (.ref f_BadDeed_init)))
    (h_i_BadDeed_init : PySem.W.isFn K (.ref f_BadDeed_init) = true)
    (h_l_BadDeed_init : K.lookup f_BadDeed_init = some ⟨oc_BadDeed_init, od_BadDeed_init, .func (PySem.W.fnOf "__init__" "BadDeed.__init__" (defArgs s_BadDeed_init) (defBody s_BadDeed_init) (defScope s_BadDeed_init) .none kV_BadDeed_init dc_BadDeed_init pm_BadDeed_init an_BadDeed_init cd_BadDeed_init ct_BadDeed_init), sl_BadDeed_init⟩)
    (h_c_BadDeed_init : PySem.W.codeIn K cd_BadDeed_init "BadDeed.__init__" = true)
    (h_k_BadDeed_init : PySem.W.keepIn K (.ref f_BadDeed_init) = true)
    (h_a_l_pool : PySem.W.nsIn K mainGlobals "_law_pool" = some (some (.ref f_l_pool)))
    (h_l_l_pool : K.lookup f_l_pool = some ⟨oc_l_pool, od_l_pool, .func (PySem.W.fnOf "_law_pool" "_law_pool" (defArgs s_l_pool) (defBody s_l_pool) (defScope s_l_pool) .none kV_l_pool dc_l_pool pm_l_pool an_l_pool cd_l_pool ct_l_pool), sl_l_pool⟩)
    (h_c_l_pool : PySem.W.codeIn K cd_l_pool "_law_pool" = true)
    (h_k_l_pool : PySem.W.keepIn K (.ref f_l_pool) = true)
    (h_a_l_draw : PySem.W.nsIn K mainGlobals "_law_draw" = some (some (.ref f_l_draw)))
    (h_l_l_draw : K.lookup f_l_draw = some ⟨oc_l_draw, od_l_draw, .func (PySem.W.fnOf "_law_draw" "_law_draw" (defArgs s_l_draw) (defBody s_l_draw) (defScope s_l_draw) .none kV_l_draw dc_l_draw pm_l_draw an_l_draw cd_l_draw ct_l_draw), sl_l_draw⟩)
    (h_c_l_draw : PySem.W.codeIn K cd_l_draw "_law_draw" = true)
    (h_k_l_draw : PySem.W.keepIn K (.ref f_l_draw) = true)
    (h_a_l_first : PySem.W.nsIn K mainGlobals "_law_first" = some (some (.ref f_l_first)))
    (h_l_l_first : K.lookup f_l_first = some ⟨oc_l_first, od_l_first, .func (PySem.W.fnOf "_law_first" "_law_first" (defArgs s_l_first) (defBody s_l_first) (defScope s_l_first) .none kV_l_first dc_l_first pm_l_first an_l_first cd_l_first ct_l_first), sl_l_first⟩)
    (h_c_l_first : PySem.W.codeIn K cd_l_first "_law_first" = true)
    (h_k_l_first : PySem.W.keepIn K (.ref f_l_first) = true)
    (h_a_l_second : PySem.W.nsIn K mainGlobals "_law_second" = some (some (.ref f_l_second)))
    (h_l_l_second : K.lookup f_l_second = some ⟨oc_l_second, od_l_second, .func (PySem.W.fnOf "_law_second" "_law_second" (defArgs s_l_second) (defBody s_l_second) (defScope s_l_second) .none kV_l_second dc_l_second pm_l_second an_l_second cd_l_second ct_l_second), sl_l_second⟩)
    (h_c_l_second : PySem.W.codeIn K cd_l_second "_law_second" = true)
    (h_k_l_second : PySem.W.keepIn K (.ref f_l_second) = true)
    (h_a_l_third : PySem.W.nsIn K mainGlobals "_law_third" = some (some (.ref f_l_third)))
    (h_l_l_third : K.lookup f_l_third = some ⟨oc_l_third, od_l_third, .func (PySem.W.fnOf "_law_third" "_law_third" (defArgs s_l_third) (defBody s_l_third) (defScope s_l_third) .none kV_l_third dc_l_third pm_l_third an_l_third cd_l_third ct_l_third), sl_l_third⟩)
    (h_c_l_third : PySem.W.codeIn K cd_l_third "_law_third" = true)
    (h_k_l_third : PySem.W.keepIn K (.ref f_l_third) = true)
    (h_a_l_made : PySem.W.nsIn K mainGlobals "_law_made" = some (some (.ref f_l_made)))
    (h_l_l_made : K.lookup f_l_made = some ⟨oc_l_made, od_l_made, .func (PySem.W.fnOf "_law_made" "_law_made" (defArgs s_l_made) (defBody s_l_made) (defScope s_l_made) .none kV_l_made dc_l_made pm_l_made an_l_made cd_l_made ct_l_made), sl_l_made⟩)
    (h_c_l_made : PySem.W.codeIn K cd_l_made "_law_made" = true)
    (h_k_l_made : PySem.W.keepIn K (.ref f_l_made) = true)
    (h_a_l_kinds : PySem.W.nsIn K mainGlobals "_law_kinds" = some (some (.ref f_l_kinds)))
    (h_l_l_kinds : K.lookup f_l_kinds = some ⟨oc_l_kinds, od_l_kinds, .func (PySem.W.fnOf "_law_kinds" "_law_kinds" (defArgs s_l_kinds) (defBody s_l_kinds) (defScope s_l_kinds) .none kV_l_kinds dc_l_kinds pm_l_kinds an_l_kinds cd_l_kinds ct_l_kinds), sl_l_kinds⟩)
    (h_c_l_kinds : PySem.W.codeIn K cd_l_kinds "_law_kinds" = true)
    (h_k_l_kinds : PySem.W.keepIn K (.ref f_l_kinds) = true)
    (h_a_law : PySem.W.nsIn K mainGlobals "law" = some (some (.ref f_law)))
    (h_l_law : K.lookup f_law = some ⟨oc_law, od_law, .func (PySem.W.fnOf "law" "law" (defArgs s_law) (defBody s_law) (defScope s_law) .none kV_law dc_law pm_law an_law cd_law ct_law), sl_law⟩)
    (h_c_law : PySem.W.codeIn K cd_law "law" = true)
    (h_k_law : PySem.W.keepIn K (.ref f_law) = true)
    (h_ti_BadEnds : PySem.W.typeIn K (.ref f_BadEnds_init) = some (.type "function"))
    (h_ti_BadNode : PySem.W.typeIn K (.ref f_BadNode_init) = some (.type "function"))
    (h_ti_BadStart : PySem.W.typeIn K (.ref f_BadStart_init) = some (.type "function"))
    (h_ti_TwiceAsked : PySem.W.typeIn K (.ref f_TwiceAsked_init) = some (.type "function"))
    (h_ti_NoNode : PySem.W.typeIn K (.ref f_NoNode_init) = some (.type "function"))
    (h_ti_NoPosition : PySem.W.typeIn K (.ref f_NoPosition_init) = some (.type "function"))
    (h_ti_BadQuestion : PySem.W.typeIn K (.ref f_BadQuestion_init) = some (.type "function"))
    (h_ti_BadMarks : PySem.W.typeIn K (.ref f_BadMarks_init) = some (.type "function"))
    (h_ti_BadLadder : PySem.W.typeIn K (.ref f_BadLadder_init) = some (.type "function"))
    (h_ti_BadCount : PySem.W.typeIn K (.ref f_BadCount_init) = some (.type "function"))
    (h_ti_BadRelation : PySem.W.typeIn K (.ref f_BadRelation_init) = some (.type "function"))
    (h_ti_BadPositions : PySem.W.typeIn K (.ref f_BadPositions_init) = some (.type "function"))
    (h_ti_NoFinal : PySem.W.typeIn K (.ref f_NoFinal_init) = some (.type "function"))
    (h_ti_NotReached : PySem.W.typeIn K (.ref f_NotReached_init) = some (.type "function"))
    (h_ti_NoEnd : PySem.W.typeIn K (.ref f_NoEnd_init) = some (.type "function"))
    (h_ti_ZeroBottom : PySem.W.typeIn K (.ref f_ZeroBottom_init) = some (.type "function"))
    (h_ti_NoChance : PySem.W.typeIn K (.ref f_NoChance_init) = some (.type "function"))
    (h_ti_BadChance : PySem.W.typeIn K (.ref f_BadChance_init) = some (.type "function"))
    (h_ti_ZeroPolynomial : PySem.W.typeIn K (.ref f_ZeroPolynomial_init) = some (.type "function"))
    (h_ti_BadInterval : PySem.W.typeIn K (.ref f_BadInterval_init) = some (.type "function"))
    (h_ti_NoSkip : PySem.W.typeIn K (.ref f_NoSkip_init) = some (.type "function"))
    (h_ti_NotComing : PySem.W.typeIn K (.ref f_NotComing_init) = some (.type "function"))
    (h_ti_NoPupils : PySem.W.typeIn K (.ref f_NoPupils_init) = some (.type "function"))
    (h_ti_BadLength : PySem.W.typeIn K (.ref f_BadLength_init) = some (.type "function"))
    (h_ti_AlikePupils : PySem.W.typeIn K (.ref f_AlikePupils_init) = some (.type "function"))
    (h_ti_BadLine : PySem.W.typeIn K (.ref f_BadLine_init) = some (.type "function"))
    (h_ti_Ended : PySem.W.typeIn K (.ref f_Ended_init) = some (.type "function"))
    (h_ti_BadDeed : PySem.W.typeIn K (.ref f_BadDeed_init) = some (.type "function"))
    (h_z_ValueError : PySem.W.nsIn K mainGlobals "ValueError" = some none)
    (h_z_abs : PySem.W.nsIn K mainGlobals "abs" = some none)
    (h_z_int : PySem.W.nsIn K mainGlobals "int" = some none)
    (h_z_isinstance : PySem.W.nsIn K mainGlobals "isinstance" = some none)
    (h_z_len : PySem.W.nsIn K mainGlobals "len" = some none)
    (h_z_list : PySem.W.nsIn K mainGlobals "list" = some none)
    (h_z_range : PySem.W.nsIn K mainGlobals "range" = some none)
    (h_z_tuple : PySem.W.nsIn K mainGlobals "tuple" = some none) :
    ∃ fd : FuncData, (∀ (s : Shared) (v : Value), BindsTo s fd ⟨[v], []⟩ [("_law_script", v)]) ∧ ∀ base : Heap, K.In base → base.Ns mainGlobals mg → FnOk l.prog w K mg base CX0 6 fa fd ["_law_script"] (sp_law K) := by
  have e := hfa.symm.trans (PySem.W.mg_of X G h_a_law)
  cases e
  have T : Txt K mg (Ad.mk c_TestError c_BadEnds c_BadNode c_BadStart c_TwiceAsked c_NoNode c_NoPosition c_BadQuestion c_BadMarks c_BadLadder c_BadCount c_BadRelation c_BadPositions c_NoFinal c_NotReached c_NoEnd c_ZeroBottom c_NoChance c_BadChance c_ZeroPolynomial c_BadInterval c_NoSkip c_NotComing c_NoPupils c_BadLength c_AlikePupils c_BadLine c_Ended c_BadDeed f_BadEnds_init (PySem.W.fnOf "__init__" "BadEnds.__init__" (defArgs s_BadEnds_init) (defBody s_BadEnds_init) (defScope s_BadEnds_init) .none kV_BadEnds_init dc_BadEnds_init pm_BadEnds_init an_BadEnds_init cd_BadEnds_init ct_BadEnds_init) f_BadNode_init (PySem.W.fnOf "__init__" "BadNode.__init__" (defArgs s_BadNode_init) (defBody s_BadNode_init) (defScope s_BadNode_init) .none kV_BadNode_init dc_BadNode_init pm_BadNode_init an_BadNode_init cd_BadNode_init ct_BadNode_init) f_BadStart_init (PySem.W.fnOf "__init__" "BadStart.__init__" (defArgs s_BadStart_init) (defBody s_BadStart_init) (defScope s_BadStart_init) .none kV_BadStart_init dc_BadStart_init pm_BadStart_init an_BadStart_init cd_BadStart_init ct_BadStart_init) f_TwiceAsked_init (PySem.W.fnOf "__init__" "TwiceAsked.__init__" (defArgs s_TwiceAsked_init) (defBody s_TwiceAsked_init) (defScope s_TwiceAsked_init) .none kV_TwiceAsked_init dc_TwiceAsked_init pm_TwiceAsked_init an_TwiceAsked_init cd_TwiceAsked_init ct_TwiceAsked_init) f_NoNode_init (PySem.W.fnOf "__init__" "NoNode.__init__" (defArgs s_NoNode_init) (defBody s_NoNode_init) (defScope s_NoNode_init) .none kV_NoNode_init dc_NoNode_init pm_NoNode_init an_NoNode_init cd_NoNode_init ct_NoNode_init) f_NoPosition_init (PySem.W.fnOf "__init__" "NoPosition.__init__" (defArgs s_NoPosition_init) (defBody s_NoPosition_init) (defScope s_NoPosition_init) .none kV_NoPosition_init dc_NoPosition_init pm_NoPosition_init an_NoPosition_init cd_NoPosition_init ct_NoPosition_init) f_BadQuestion_init (PySem.W.fnOf "__init__" "BadQuestion.__init__" (defArgs s_BadQuestion_init) (defBody s_BadQuestion_init) (defScope s_BadQuestion_init) .none kV_BadQuestion_init dc_BadQuestion_init pm_BadQuestion_init an_BadQuestion_init cd_BadQuestion_init ct_BadQuestion_init) f_BadMarks_init (PySem.W.fnOf "__init__" "BadMarks.__init__" (defArgs s_BadMarks_init) (defBody s_BadMarks_init) (defScope s_BadMarks_init) .none kV_BadMarks_init dc_BadMarks_init pm_BadMarks_init an_BadMarks_init cd_BadMarks_init ct_BadMarks_init) f_BadLadder_init (PySem.W.fnOf "__init__" "BadLadder.__init__" (defArgs s_BadLadder_init) (defBody s_BadLadder_init) (defScope s_BadLadder_init) .none kV_BadLadder_init dc_BadLadder_init pm_BadLadder_init an_BadLadder_init cd_BadLadder_init ct_BadLadder_init) f_BadCount_init (PySem.W.fnOf "__init__" "BadCount.__init__" (defArgs s_BadCount_init) (defBody s_BadCount_init) (defScope s_BadCount_init) .none kV_BadCount_init dc_BadCount_init pm_BadCount_init an_BadCount_init cd_BadCount_init ct_BadCount_init) f_BadRelation_init (PySem.W.fnOf "__init__" "BadRelation.__init__" (defArgs s_BadRelation_init) (defBody s_BadRelation_init) (defScope s_BadRelation_init) .none kV_BadRelation_init dc_BadRelation_init pm_BadRelation_init an_BadRelation_init cd_BadRelation_init ct_BadRelation_init) f_BadPositions_init (PySem.W.fnOf "__init__" "BadPositions.__init__" (defArgs s_BadPositions_init) (defBody s_BadPositions_init) (defScope s_BadPositions_init) .none kV_BadPositions_init dc_BadPositions_init pm_BadPositions_init an_BadPositions_init cd_BadPositions_init ct_BadPositions_init) f_NoFinal_init (PySem.W.fnOf "__init__" "NoFinal.__init__" (defArgs s_NoFinal_init) (defBody s_NoFinal_init) (defScope s_NoFinal_init) .none kV_NoFinal_init dc_NoFinal_init pm_NoFinal_init an_NoFinal_init cd_NoFinal_init ct_NoFinal_init) f_NotReached_init (PySem.W.fnOf "__init__" "NotReached.__init__" (defArgs s_NotReached_init) (defBody s_NotReached_init) (defScope s_NotReached_init) .none kV_NotReached_init dc_NotReached_init pm_NotReached_init an_NotReached_init cd_NotReached_init ct_NotReached_init) f_NoEnd_init (PySem.W.fnOf "__init__" "NoEnd.__init__" (defArgs s_NoEnd_init) (defBody s_NoEnd_init) (defScope s_NoEnd_init) .none kV_NoEnd_init dc_NoEnd_init pm_NoEnd_init an_NoEnd_init cd_NoEnd_init ct_NoEnd_init) f_ZeroBottom_init (PySem.W.fnOf "__init__" "ZeroBottom.__init__" (defArgs s_ZeroBottom_init) (defBody s_ZeroBottom_init) (defScope s_ZeroBottom_init) .none kV_ZeroBottom_init dc_ZeroBottom_init pm_ZeroBottom_init an_ZeroBottom_init cd_ZeroBottom_init ct_ZeroBottom_init) f_NoChance_init (PySem.W.fnOf "__init__" "NoChance.__init__" (defArgs s_NoChance_init) (defBody s_NoChance_init) (defScope s_NoChance_init) .none kV_NoChance_init dc_NoChance_init pm_NoChance_init an_NoChance_init cd_NoChance_init ct_NoChance_init) f_BadChance_init (PySem.W.fnOf "__init__" "BadChance.__init__" (defArgs s_BadChance_init) (defBody s_BadChance_init) (defScope s_BadChance_init) .none kV_BadChance_init dc_BadChance_init pm_BadChance_init an_BadChance_init cd_BadChance_init ct_BadChance_init) f_ZeroPolynomial_init (PySem.W.fnOf "__init__" "ZeroPolynomial.__init__" (defArgs s_ZeroPolynomial_init) (defBody s_ZeroPolynomial_init) (defScope s_ZeroPolynomial_init) .none kV_ZeroPolynomial_init dc_ZeroPolynomial_init pm_ZeroPolynomial_init an_ZeroPolynomial_init cd_ZeroPolynomial_init ct_ZeroPolynomial_init) f_BadInterval_init (PySem.W.fnOf "__init__" "BadInterval.__init__" (defArgs s_BadInterval_init) (defBody s_BadInterval_init) (defScope s_BadInterval_init) .none kV_BadInterval_init dc_BadInterval_init pm_BadInterval_init an_BadInterval_init cd_BadInterval_init ct_BadInterval_init) f_NoSkip_init (PySem.W.fnOf "__init__" "NoSkip.__init__" (defArgs s_NoSkip_init) (defBody s_NoSkip_init) (defScope s_NoSkip_init) .none kV_NoSkip_init dc_NoSkip_init pm_NoSkip_init an_NoSkip_init cd_NoSkip_init ct_NoSkip_init) f_NotComing_init (PySem.W.fnOf "__init__" "NotComing.__init__" (defArgs s_NotComing_init) (defBody s_NotComing_init) (defScope s_NotComing_init) .none kV_NotComing_init dc_NotComing_init pm_NotComing_init an_NotComing_init cd_NotComing_init ct_NotComing_init) f_NoPupils_init (PySem.W.fnOf "__init__" "NoPupils.__init__" (defArgs s_NoPupils_init) (defBody s_NoPupils_init) (defScope s_NoPupils_init) .none kV_NoPupils_init dc_NoPupils_init pm_NoPupils_init an_NoPupils_init cd_NoPupils_init ct_NoPupils_init) f_BadLength_init (PySem.W.fnOf "__init__" "BadLength.__init__" (defArgs s_BadLength_init) (defBody s_BadLength_init) (defScope s_BadLength_init) .none kV_BadLength_init dc_BadLength_init pm_BadLength_init an_BadLength_init cd_BadLength_init ct_BadLength_init) f_AlikePupils_init (PySem.W.fnOf "__init__" "AlikePupils.__init__" (defArgs s_AlikePupils_init) (defBody s_AlikePupils_init) (defScope s_AlikePupils_init) .none kV_AlikePupils_init dc_AlikePupils_init pm_AlikePupils_init an_AlikePupils_init cd_AlikePupils_init ct_AlikePupils_init) f_BadLine_init (PySem.W.fnOf "__init__" "BadLine.__init__" (defArgs s_BadLine_init) (defBody s_BadLine_init) (defScope s_BadLine_init) .none kV_BadLine_init dc_BadLine_init pm_BadLine_init an_BadLine_init cd_BadLine_init ct_BadLine_init) f_Ended_init (PySem.W.fnOf "__init__" "Ended.__init__" (defArgs s_Ended_init) (defBody s_Ended_init) (defScope s_Ended_init) .none kV_Ended_init dc_Ended_init pm_Ended_init an_Ended_init cd_Ended_init ct_Ended_init) f_BadDeed_init (PySem.W.fnOf "__init__" "BadDeed.__init__" (defArgs s_BadDeed_init) (defBody s_BadDeed_init) (defScope s_BadDeed_init) .none kV_BadDeed_init dc_BadDeed_init pm_BadDeed_init an_BadDeed_init cd_BadDeed_init ct_BadDeed_init) f_l_pool (PySem.W.fnOf "_law_pool" "_law_pool" (defArgs s_l_pool) (defBody s_l_pool) (defScope s_l_pool) .none kV_l_pool dc_l_pool pm_l_pool an_l_pool cd_l_pool ct_l_pool) f_l_draw (PySem.W.fnOf "_law_draw" "_law_draw" (defArgs s_l_draw) (defBody s_l_draw) (defScope s_l_draw) .none kV_l_draw dc_l_draw pm_l_draw an_l_draw cd_l_draw ct_l_draw) f_l_first (PySem.W.fnOf "_law_first" "_law_first" (defArgs s_l_first) (defBody s_l_first) (defScope s_l_first) .none kV_l_first dc_l_first pm_l_first an_l_first cd_l_first ct_l_first) f_l_second (PySem.W.fnOf "_law_second" "_law_second" (defArgs s_l_second) (defBody s_l_second) (defScope s_l_second) .none kV_l_second dc_l_second pm_l_second an_l_second cd_l_second ct_l_second) f_l_third (PySem.W.fnOf "_law_third" "_law_third" (defArgs s_l_third) (defBody s_l_third) (defScope s_l_third) .none kV_l_third dc_l_third pm_l_third an_l_third cd_l_third ct_l_third) f_l_made (PySem.W.fnOf "_law_made" "_law_made" (defArgs s_l_made) (defBody s_l_made) (defScope s_l_made) .none kV_l_made dc_l_made pm_l_made an_l_made cd_l_made ct_l_made) f_l_kinds (PySem.W.fnOf "_law_kinds" "_law_kinds" (defArgs s_l_kinds) (defBody s_l_kinds) (defScope s_l_kinds) .none kV_l_kinds dc_l_kinds pm_l_kinds an_l_kinds cd_l_kinds ct_l_kinds) fa (PySem.W.fnOf "law" "law" (defArgs s_law) (defBody s_law) (defScope s_law) .none kV_law dc_law pm_law an_law cd_law ct_law)) :=
    Txt.mk (PySem.W.mg_of X G h_g_TestError) (PySem.W.mg_of X G h_g_BadEnds) (PySem.W.mg_of X G h_g_BadNode) (PySem.W.mg_of X G h_g_BadStart) (PySem.W.mg_of X G h_g_TwiceAsked) (PySem.W.mg_of X G h_g_NoNode) (PySem.W.mg_of X G h_g_NoPosition) (PySem.W.mg_of X G h_g_BadQuestion) (PySem.W.mg_of X G h_g_BadMarks) (PySem.W.mg_of X G h_g_BadLadder) (PySem.W.mg_of X G h_g_BadCount) (PySem.W.mg_of X G h_g_BadRelation) (PySem.W.mg_of X G h_g_BadPositions) (PySem.W.mg_of X G h_g_NoFinal) (PySem.W.mg_of X G h_g_NotReached) (PySem.W.mg_of X G h_g_NoEnd) (PySem.W.mg_of X G h_g_ZeroBottom) (PySem.W.mg_of X G h_g_NoChance) (PySem.W.mg_of X G h_g_BadChance) (PySem.W.mg_of X G h_g_ZeroPolynomial) (PySem.W.mg_of X G h_g_BadInterval) (PySem.W.mg_of X G h_g_NoSkip) (PySem.W.mg_of X G h_g_NotComing) (PySem.W.mg_of X G h_g_NoPupils) (PySem.W.mg_of X G h_g_BadLength) (PySem.W.mg_of X G h_g_AlikePupils) (PySem.W.mg_of X G h_g_BadLine) (PySem.W.mg_of X G h_g_Ended) (PySem.W.mg_of X G h_g_BadDeed) (⟨h_bga_TestError, h_ty_TestError, h_brd_TestError, h_bfi_TestError⟩) (⟨⟨_, _, _, _, _, _, _, _, _, _, _, _, _, _, _, h_xl_BadEnds, by rfl⟩, h_sa_BadEnds, h_eb_BadEnds, h_ty_BadEnds, h_kc_BadEnds⟩) (⟨h_ga_BadEnds, h_gg_BadEnds, h_eb_BadEnds, h_hd_BadEnds⟩) (h_nf_BadEnds_count) (PySem.W.exm_ref h_eb_BadEnds h_hd_BadEnds h_ty_BadEnds h_ss_BadEnds) (⟨h_ga_BadEnds, h_gg_BadEnds, h_eb_BadEnds, h_hd_BadEnds, h_ic1_BadEnds, h_eg2, h_eg3, h_ic4_BadEnds⟩) (h_a_BadEnds_init) (h_ti_BadEnds) (kit_sub h_sb_BadEnds h_icl_TestError h_ty_TestError) (⟨⟨_, _, _, _, _, _, _, _, _, _, _, _, _, _, _, h_xl_BadNode, by rfl⟩, h_sa_BadNode, h_eb_BadNode, h_ty_BadNode, h_kc_BadNode⟩) (⟨h_ga_BadNode, h_gg_BadNode, h_eb_BadNode, h_hd_BadNode⟩) (h_nf_BadNode_index) (PySem.W.exm_ref h_eb_BadNode h_hd_BadNode h_ty_BadNode h_ss_BadNode) (⟨h_ga_BadNode, h_gg_BadNode, h_eb_BadNode, h_hd_BadNode, h_ic1_BadNode, h_eg2, h_eg3, h_ic4_BadNode⟩) (h_a_BadNode_init) (h_ti_BadNode) (kit_sub h_sb_BadNode h_icl_TestError h_ty_TestError) (⟨⟨_, _, _, _, _, _, _, _, _, _, _, _, _, _, _, h_xl_BadStart, by rfl⟩, h_sa_BadStart, h_eb_BadStart, h_ty_BadStart, h_kc_BadStart⟩) (⟨h_ga_BadStart, h_gg_BadStart, h_eb_BadStart, h_hd_BadStart⟩) (h_nf_BadStart_place) (PySem.W.exm_ref h_eb_BadStart h_hd_BadStart h_ty_BadStart h_ss_BadStart) (⟨h_ga_BadStart, h_gg_BadStart, h_eb_BadStart, h_hd_BadStart, h_ic1_BadStart, h_eg2, h_eg3, h_ic4_BadStart⟩) (h_a_BadStart_init) (h_ti_BadStart) (kit_sub h_sb_BadStart h_icl_TestError h_ty_TestError) (⟨⟨_, _, _, _, _, _, _, _, _, _, _, _, _, _, _, h_xl_TwiceAsked, by rfl⟩, h_sa_TwiceAsked, h_eb_TwiceAsked, h_ty_TwiceAsked, h_kc_TwiceAsked⟩) (⟨h_ga_TwiceAsked, h_gg_TwiceAsked, h_eb_TwiceAsked, h_hd_TwiceAsked⟩) (h_nf_TwiceAsked_index) (PySem.W.exm_ref h_eb_TwiceAsked h_hd_TwiceAsked h_ty_TwiceAsked h_ss_TwiceAsked) (⟨h_ga_TwiceAsked, h_gg_TwiceAsked, h_eb_TwiceAsked, h_hd_TwiceAsked, h_ic1_TwiceAsked, h_eg2, h_eg3, h_ic4_TwiceAsked⟩) (h_a_TwiceAsked_init) (h_ti_TwiceAsked) (kit_sub h_sb_TwiceAsked h_icl_TestError h_ty_TestError) (⟨⟨_, _, _, _, _, _, _, _, _, _, _, _, _, _, _, h_xl_NoNode, by rfl⟩, h_sa_NoNode, h_eb_NoNode, h_ty_NoNode, h_kc_NoNode⟩) (⟨h_ga_NoNode, h_gg_NoNode, h_eb_NoNode, h_hd_NoNode⟩) (h_nf_NoNode_index) (PySem.W.exm_ref h_eb_NoNode h_hd_NoNode h_ty_NoNode h_ss_NoNode) (⟨h_ga_NoNode, h_gg_NoNode, h_eb_NoNode, h_hd_NoNode, h_ic1_NoNode, h_eg2, h_eg3, h_ic4_NoNode⟩) (h_a_NoNode_init) (h_ti_NoNode) (kit_sub h_sb_NoNode h_icl_TestError h_ty_TestError) (⟨⟨_, _, _, _, _, _, _, _, _, _, _, _, _, _, _, h_xl_NoPosition, by rfl⟩, h_sa_NoPosition, h_eb_NoPosition, h_ty_NoPosition, h_kc_NoPosition⟩) (⟨h_ga_NoPosition, h_gg_NoPosition, h_eb_NoPosition, h_hd_NoPosition⟩) (h_nf_NoPosition_place) (PySem.W.exm_ref h_eb_NoPosition h_hd_NoPosition h_ty_NoPosition h_ss_NoPosition) (⟨h_ga_NoPosition, h_gg_NoPosition, h_eb_NoPosition, h_hd_NoPosition, h_ic1_NoPosition, h_eg2, h_eg3, h_ic4_NoPosition⟩) (h_a_NoPosition_init) (h_ti_NoPosition) (kit_sub h_sb_NoPosition h_icl_TestError h_ty_TestError) (⟨⟨_, _, _, _, _, _, _, _, _, _, _, _, _, _, _, h_xl_BadQuestion, by rfl⟩, h_sa_BadQuestion, h_eb_BadQuestion, h_ty_BadQuestion, h_kc_BadQuestion⟩) (⟨h_ga_BadQuestion, h_gg_BadQuestion, h_eb_BadQuestion, h_hd_BadQuestion⟩) (h_nf_BadQuestion_number) (PySem.W.exm_ref h_eb_BadQuestion h_hd_BadQuestion h_ty_BadQuestion h_ss_BadQuestion) (⟨h_ga_BadQuestion, h_gg_BadQuestion, h_eb_BadQuestion, h_hd_BadQuestion, h_ic1_BadQuestion, h_eg2, h_eg3, h_ic4_BadQuestion⟩) (h_a_BadQuestion_init) (h_ti_BadQuestion) (kit_sub h_sb_BadQuestion h_icl_TestError h_ty_TestError) (⟨⟨_, _, _, _, _, _, _, _, _, _, _, _, _, _, _, h_xl_BadMarks, by rfl⟩, h_sa_BadMarks, h_eb_BadMarks, h_ty_BadMarks, h_kc_BadMarks⟩) (⟨h_ga_BadMarks, h_gg_BadMarks, h_eb_BadMarks, h_hd_BadMarks⟩) (h_nf_BadMarks_count) (PySem.W.exm_ref h_eb_BadMarks h_hd_BadMarks h_ty_BadMarks h_ss_BadMarks) (⟨h_ga_BadMarks, h_gg_BadMarks, h_eb_BadMarks, h_hd_BadMarks, h_ic1_BadMarks, h_eg2, h_eg3, h_ic4_BadMarks⟩) (h_a_BadMarks_init) (h_ti_BadMarks) (kit_sub h_sb_BadMarks h_icl_TestError h_ty_TestError) (⟨⟨_, _, _, _, _, _, _, _, _, _, _, _, _, _, _, h_xl_BadLadder, by rfl⟩, h_sa_BadLadder, h_eb_BadLadder, h_ty_BadLadder, h_kc_BadLadder⟩) (⟨h_ga_BadLadder, h_gg_BadLadder, h_eb_BadLadder, h_hd_BadLadder⟩) (h_nf_BadLadder_word) (PySem.W.exm_ref h_eb_BadLadder h_hd_BadLadder h_ty_BadLadder h_ss_BadLadder) (⟨h_ga_BadLadder, h_gg_BadLadder, h_eb_BadLadder, h_hd_BadLadder, h_ic1_BadLadder, h_eg2, h_eg3, h_ic4_BadLadder⟩) (h_a_BadLadder_init) (h_ti_BadLadder) (kit_sub h_sb_BadLadder h_icl_TestError h_ty_TestError) (⟨⟨_, _, _, _, _, _, _, _, _, _, _, _, _, _, _, h_xl_BadCount, by rfl⟩, h_sa_BadCount, h_eb_BadCount, h_ty_BadCount, h_kc_BadCount⟩) (⟨h_ga_BadCount, h_gg_BadCount, h_eb_BadCount, h_hd_BadCount⟩) (h_nf_BadCount_count) (PySem.W.exm_ref h_eb_BadCount h_hd_BadCount h_ty_BadCount h_ss_BadCount) (⟨h_ga_BadCount, h_gg_BadCount, h_eb_BadCount, h_hd_BadCount, h_ic1_BadCount, h_eg2, h_eg3, h_ic4_BadCount⟩) (h_a_BadCount_init) (h_ti_BadCount) (kit_sub h_sb_BadCount h_icl_TestError h_ty_TestError) (⟨⟨_, _, _, _, _, _, _, _, _, _, _, _, _, _, _, h_xl_BadRelation, by rfl⟩, h_sa_BadRelation, h_eb_BadRelation, h_ty_BadRelation, h_kc_BadRelation⟩) (⟨h_ga_BadRelation, h_gg_BadRelation, h_eb_BadRelation, h_hd_BadRelation⟩) (h_nf_BadRelation_word) (PySem.W.exm_ref h_eb_BadRelation h_hd_BadRelation h_ty_BadRelation h_ss_BadRelation) (⟨h_ga_BadRelation, h_gg_BadRelation, h_eb_BadRelation, h_hd_BadRelation, h_ic1_BadRelation, h_eg2, h_eg3, h_ic4_BadRelation⟩) (h_a_BadRelation_init) (h_ti_BadRelation) (kit_sub h_sb_BadRelation h_icl_TestError h_ty_TestError) (⟨⟨_, _, _, _, _, _, _, _, _, _, _, _, _, _, _, h_xl_BadPositions, by rfl⟩, h_sa_BadPositions, h_eb_BadPositions, h_ty_BadPositions, h_kc_BadPositions⟩) (⟨h_ga_BadPositions, h_gg_BadPositions, h_eb_BadPositions, h_hd_BadPositions⟩) (h_nf_BadPositions_index) (PySem.W.exm_ref h_eb_BadPositions h_hd_BadPositions h_ty_BadPositions h_ss_BadPositions) (⟨h_ga_BadPositions, h_gg_BadPositions, h_eb_BadPositions, h_hd_BadPositions, h_ic1_BadPositions, h_eg2, h_eg3, h_ic4_BadPositions⟩) (h_a_BadPositions_init) (h_ti_BadPositions) (kit_sub h_sb_BadPositions h_icl_TestError h_ty_TestError) (⟨⟨_, _, _, _, _, _, _, _, _, _, _, _, _, _, _, h_xl_NoFinal, by rfl⟩, h_sa_NoFinal, h_eb_NoFinal, h_ty_NoFinal, h_kc_NoFinal⟩) (⟨h_ga_NoFinal, h_gg_NoFinal, h_eb_NoFinal, h_hd_NoFinal⟩) (h_nf_NoFinal_ends) (PySem.W.exm_ref h_eb_NoFinal h_hd_NoFinal h_ty_NoFinal h_ss_NoFinal) (⟨h_ga_NoFinal, h_gg_NoFinal, h_eb_NoFinal, h_hd_NoFinal, h_ic1_NoFinal, h_eg2, h_eg3, h_ic4_NoFinal⟩) (h_a_NoFinal_init) (h_ti_NoFinal) (kit_sub h_sb_NoFinal h_icl_TestError h_ty_TestError) (⟨⟨_, _, _, _, _, _, _, _, _, _, _, _, _, _, _, h_xl_NotReached, by rfl⟩, h_sa_NotReached, h_eb_NotReached, h_ty_NotReached, h_kc_NotReached⟩) (⟨h_ga_NotReached, h_gg_NotReached, h_eb_NotReached, h_hd_NotReached⟩) (h_nf_NotReached_index) (PySem.W.exm_ref h_eb_NotReached h_hd_NotReached h_ty_NotReached h_ss_NotReached) (⟨h_ga_NotReached, h_gg_NotReached, h_eb_NotReached, h_hd_NotReached, h_ic1_NotReached, h_eg2, h_eg3, h_ic4_NotReached⟩) (h_a_NotReached_init) (h_ti_NotReached) (kit_sub h_sb_NotReached h_icl_TestError h_ty_TestError) (⟨⟨_, _, _, _, _, _, _, _, _, _, _, _, _, _, _, h_xl_NoEnd, by rfl⟩, h_sa_NoEnd, h_eb_NoEnd, h_ty_NoEnd, h_kc_NoEnd⟩) (⟨h_ga_NoEnd, h_gg_NoEnd, h_eb_NoEnd, h_hd_NoEnd⟩) (h_nf_NoEnd_number) (PySem.W.exm_ref h_eb_NoEnd h_hd_NoEnd h_ty_NoEnd h_ss_NoEnd) (⟨h_ga_NoEnd, h_gg_NoEnd, h_eb_NoEnd, h_hd_NoEnd, h_ic1_NoEnd, h_eg2, h_eg3, h_ic4_NoEnd⟩) (h_a_NoEnd_init) (h_ti_NoEnd) (kit_sub h_sb_NoEnd h_icl_TestError h_ty_TestError) (⟨⟨_, _, _, _, _, _, _, _, _, _, _, _, _, _, _, h_xl_ZeroBottom, by rfl⟩, h_sa_ZeroBottom, h_eb_ZeroBottom, h_ty_ZeroBottom, h_kc_ZeroBottom⟩) (⟨h_ga_ZeroBottom, h_gg_ZeroBottom, h_eb_ZeroBottom, h_hd_ZeroBottom⟩) (PySem.W.exm_ref h_eb_ZeroBottom h_hd_ZeroBottom h_ty_ZeroBottom h_ss_ZeroBottom) (⟨h_ga_ZeroBottom, h_gg_ZeroBottom, h_eb_ZeroBottom, h_hd_ZeroBottom, h_ic1_ZeroBottom, h_eg2, h_eg3, h_ic4_ZeroBottom⟩) (h_a_ZeroBottom_init) (h_ti_ZeroBottom) (kit_sub h_sb_ZeroBottom h_icl_TestError h_ty_TestError) (⟨⟨_, _, _, _, _, _, _, _, _, _, _, _, _, _, _, h_xl_NoChance, by rfl⟩, h_sa_NoChance, h_eb_NoChance, h_ty_NoChance, h_kc_NoChance⟩) (⟨h_ga_NoChance, h_gg_NoChance, h_eb_NoChance, h_hd_NoChance⟩) (h_nf_NoChance_number) (PySem.W.exm_ref h_eb_NoChance h_hd_NoChance h_ty_NoChance h_ss_NoChance) (⟨h_ga_NoChance, h_gg_NoChance, h_eb_NoChance, h_hd_NoChance, h_ic1_NoChance, h_eg2, h_eg3, h_ic4_NoChance⟩) (h_a_NoChance_init) (h_ti_NoChance) (kit_sub h_sb_NoChance h_icl_TestError h_ty_TestError) (⟨⟨_, _, _, _, _, _, _, _, _, _, _, _, _, _, _, h_xl_BadChance, by rfl⟩, h_sa_BadChance, h_eb_BadChance, h_ty_BadChance, h_kc_BadChance⟩) (⟨h_ga_BadChance, h_gg_BadChance, h_eb_BadChance, h_hd_BadChance⟩) (h_nf_BadChance_number) (PySem.W.exm_ref h_eb_BadChance h_hd_BadChance h_ty_BadChance h_ss_BadChance) (⟨h_ga_BadChance, h_gg_BadChance, h_eb_BadChance, h_hd_BadChance, h_ic1_BadChance, h_eg2, h_eg3, h_ic4_BadChance⟩) (h_a_BadChance_init) (h_ti_BadChance) (kit_sub h_sb_BadChance h_icl_TestError h_ty_TestError) (⟨⟨_, _, _, _, _, _, _, _, _, _, _, _, _, _, _, h_xl_ZeroPolynomial, by rfl⟩, h_sa_ZeroPolynomial, h_eb_ZeroPolynomial, h_ty_ZeroPolynomial, h_kc_ZeroPolynomial⟩) (⟨h_ga_ZeroPolynomial, h_gg_ZeroPolynomial, h_eb_ZeroPolynomial, h_hd_ZeroPolynomial⟩) (PySem.W.exm_ref h_eb_ZeroPolynomial h_hd_ZeroPolynomial h_ty_ZeroPolynomial h_ss_ZeroPolynomial) (⟨h_ga_ZeroPolynomial, h_gg_ZeroPolynomial, h_eb_ZeroPolynomial, h_hd_ZeroPolynomial, h_ic1_ZeroPolynomial, h_eg2, h_eg3, h_ic4_ZeroPolynomial⟩) (h_a_ZeroPolynomial_init) (h_ti_ZeroPolynomial) (kit_sub h_sb_ZeroPolynomial h_icl_TestError h_ty_TestError) (⟨⟨_, _, _, _, _, _, _, _, _, _, _, _, _, _, _, h_xl_BadInterval, by rfl⟩, h_sa_BadInterval, h_eb_BadInterval, h_ty_BadInterval, h_kc_BadInterval⟩) (⟨h_ga_BadInterval, h_gg_BadInterval, h_eb_BadInterval, h_hd_BadInterval⟩) (PySem.W.exm_ref h_eb_BadInterval h_hd_BadInterval h_ty_BadInterval h_ss_BadInterval) (⟨h_ga_BadInterval, h_gg_BadInterval, h_eb_BadInterval, h_hd_BadInterval, h_ic1_BadInterval, h_eg2, h_eg3, h_ic4_BadInterval⟩) (h_a_BadInterval_init) (h_ti_BadInterval) (kit_sub h_sb_BadInterval h_icl_TestError h_ty_TestError) (⟨⟨_, _, _, _, _, _, _, _, _, _, _, _, _, _, _, h_xl_NoSkip, by rfl⟩, h_sa_NoSkip, h_eb_NoSkip, h_ty_NoSkip, h_kc_NoSkip⟩) (⟨h_ga_NoSkip, h_gg_NoSkip, h_eb_NoSkip, h_hd_NoSkip⟩) (h_nf_NoSkip_index) (PySem.W.exm_ref h_eb_NoSkip h_hd_NoSkip h_ty_NoSkip h_ss_NoSkip) (⟨h_ga_NoSkip, h_gg_NoSkip, h_eb_NoSkip, h_hd_NoSkip, h_ic1_NoSkip, h_eg2, h_eg3, h_ic4_NoSkip⟩) (h_a_NoSkip_init) (h_ti_NoSkip) (kit_sub h_sb_NoSkip h_icl_TestError h_ty_TestError) (⟨⟨_, _, _, _, _, _, _, _, _, _, _, _, _, _, _, h_xl_NotComing, by rfl⟩, h_sa_NotComing, h_eb_NotComing, h_ty_NotComing, h_kc_NotComing⟩) (⟨h_ga_NotComing, h_gg_NotComing, h_eb_NotComing, h_hd_NotComing⟩) (h_nf_NotComing_index) (PySem.W.exm_ref h_eb_NotComing h_hd_NotComing h_ty_NotComing h_ss_NotComing) (⟨h_ga_NotComing, h_gg_NotComing, h_eb_NotComing, h_hd_NotComing, h_ic1_NotComing, h_eg2, h_eg3, h_ic4_NotComing⟩) (h_a_NotComing_init) (h_ti_NotComing) (kit_sub h_sb_NotComing h_icl_TestError h_ty_TestError) (⟨⟨_, _, _, _, _, _, _, _, _, _, _, _, _, _, _, h_xl_NoPupils, by rfl⟩, h_sa_NoPupils, h_eb_NoPupils, h_ty_NoPupils, h_kc_NoPupils⟩) (⟨h_ga_NoPupils, h_gg_NoPupils, h_eb_NoPupils, h_hd_NoPupils⟩) (PySem.W.exm_ref h_eb_NoPupils h_hd_NoPupils h_ty_NoPupils h_ss_NoPupils) (⟨h_ga_NoPupils, h_gg_NoPupils, h_eb_NoPupils, h_hd_NoPupils, h_ic1_NoPupils, h_eg2, h_eg3, h_ic4_NoPupils⟩) (h_a_NoPupils_init) (h_ti_NoPupils) (kit_sub h_sb_NoPupils h_icl_TestError h_ty_TestError) (⟨⟨_, _, _, _, _, _, _, _, _, _, _, _, _, _, _, h_xl_BadLength, by rfl⟩, h_sa_BadLength, h_eb_BadLength, h_ty_BadLength, h_kc_BadLength⟩) (⟨h_ga_BadLength, h_gg_BadLength, h_eb_BadLength, h_hd_BadLength⟩) (h_nf_BadLength_count) (PySem.W.exm_ref h_eb_BadLength h_hd_BadLength h_ty_BadLength h_ss_BadLength) (⟨h_ga_BadLength, h_gg_BadLength, h_eb_BadLength, h_hd_BadLength, h_ic1_BadLength, h_eg2, h_eg3, h_ic4_BadLength⟩) (h_a_BadLength_init) (h_ti_BadLength) (kit_sub h_sb_BadLength h_icl_TestError h_ty_TestError) (⟨⟨_, _, _, _, _, _, _, _, _, _, _, _, _, _, _, h_xl_AlikePupils, by rfl⟩, h_sa_AlikePupils, h_eb_AlikePupils, h_ty_AlikePupils, h_kc_AlikePupils⟩) (⟨h_ga_AlikePupils, h_gg_AlikePupils, h_eb_AlikePupils, h_hd_AlikePupils⟩) (h_nf_AlikePupils_first) (h_nf_AlikePupils_second) (PySem.W.exm_ref h_eb_AlikePupils h_hd_AlikePupils h_ty_AlikePupils h_ss_AlikePupils) (⟨h_ga_AlikePupils, h_gg_AlikePupils, h_eb_AlikePupils, h_hd_AlikePupils, h_ic1_AlikePupils, h_eg2, h_eg3, h_ic4_AlikePupils⟩) (h_a_AlikePupils_init) (h_ti_AlikePupils) (kit_sub h_sb_AlikePupils h_icl_TestError h_ty_TestError) (⟨⟨_, _, _, _, _, _, _, _, _, _, _, _, _, _, _, h_xl_BadLine, by rfl⟩, h_sa_BadLine, h_eb_BadLine, h_ty_BadLine, h_kc_BadLine⟩) (⟨h_ga_BadLine, h_gg_BadLine, h_eb_BadLine, h_hd_BadLine⟩) (h_nf_BadLine_line) (PySem.W.exm_ref h_eb_BadLine h_hd_BadLine h_ty_BadLine h_ss_BadLine) (⟨h_ga_BadLine, h_gg_BadLine, h_eb_BadLine, h_hd_BadLine, h_ic1_BadLine, h_eg2, h_eg3, h_ic4_BadLine⟩) (h_a_BadLine_init) (h_ti_BadLine) (kit_sub h_sb_BadLine h_icl_TestError h_ty_TestError) (⟨⟨_, _, _, _, _, _, _, _, _, _, _, _, _, _, _, h_xl_Ended, by rfl⟩, h_sa_Ended, h_eb_Ended, h_ty_Ended, h_kc_Ended⟩) (⟨h_ga_Ended, h_gg_Ended, h_eb_Ended, h_hd_Ended⟩) (PySem.W.exm_ref h_eb_Ended h_hd_Ended h_ty_Ended h_ss_Ended) (⟨h_ga_Ended, h_gg_Ended, h_eb_Ended, h_hd_Ended, h_ic1_Ended, h_eg2, h_eg3, h_ic4_Ended⟩) (h_a_Ended_init) (h_ti_Ended) (kit_sub h_sb_Ended h_icl_TestError h_ty_TestError) (⟨⟨_, _, _, _, _, _, _, _, _, _, _, _, _, _, _, h_xl_BadDeed, by rfl⟩, h_sa_BadDeed, h_eb_BadDeed, h_ty_BadDeed, h_kc_BadDeed⟩) (⟨h_ga_BadDeed, h_gg_BadDeed, h_eb_BadDeed, h_hd_BadDeed⟩) (h_nf_BadDeed_index) (PySem.W.exm_ref h_eb_BadDeed h_hd_BadDeed h_ty_BadDeed h_ss_BadDeed) (⟨h_ga_BadDeed, h_gg_BadDeed, h_eb_BadDeed, h_hd_BadDeed, h_ic1_BadDeed, h_eg2, h_eg3, h_ic4_BadDeed⟩) (h_a_BadDeed_init) (h_ti_BadDeed) (kit_sub h_sb_BadDeed h_icl_TestError h_ty_TestError) (kit_sub h_ss_BadEnds h_icl_BadEnds h_ty_BadEnds) (kit_sub h_ss_BadNode h_icl_BadNode h_ty_BadNode) (kit_sub h_ss_BadStart h_icl_BadStart h_ty_BadStart) (kit_sub h_ss_TwiceAsked h_icl_TwiceAsked h_ty_TwiceAsked) (kit_sub h_ss_NoNode h_icl_NoNode h_ty_NoNode) (kit_sub h_ss_NoPosition h_icl_NoPosition h_ty_NoPosition) (kit_sub h_ss_BadQuestion h_icl_BadQuestion h_ty_BadQuestion) (kit_sub h_ss_BadMarks h_icl_BadMarks h_ty_BadMarks) (kit_sub h_ss_BadLadder h_icl_BadLadder h_ty_BadLadder) (kit_sub h_ss_BadCount h_icl_BadCount h_ty_BadCount) (kit_sub h_ss_BadRelation h_icl_BadRelation h_ty_BadRelation) (kit_sub h_ss_BadPositions h_icl_BadPositions h_ty_BadPositions) (kit_sub h_ss_NoFinal h_icl_NoFinal h_ty_NoFinal) (kit_sub h_ss_NotReached h_icl_NotReached h_ty_NotReached) (kit_sub h_ss_NoEnd h_icl_NoEnd h_ty_NoEnd) (kit_sub h_ss_ZeroBottom h_icl_ZeroBottom h_ty_ZeroBottom) (kit_sub h_ss_NoChance h_icl_NoChance h_ty_NoChance) (kit_sub h_ss_BadChance h_icl_BadChance h_ty_BadChance) (kit_sub h_ss_ZeroPolynomial h_icl_ZeroPolynomial h_ty_ZeroPolynomial) (kit_sub h_ss_BadInterval h_icl_BadInterval h_ty_BadInterval) (kit_sub h_ss_NoSkip h_icl_NoSkip h_ty_NoSkip) (kit_sub h_ss_NotComing h_icl_NotComing h_ty_NotComing) (kit_sub h_ss_NoPupils h_icl_NoPupils h_ty_NoPupils) (kit_sub h_ss_BadLength h_icl_BadLength h_ty_BadLength) (kit_sub h_ss_AlikePupils h_icl_AlikePupils h_ty_AlikePupils) (kit_sub h_ss_BadLine h_icl_BadLine h_ty_BadLine) (kit_sub h_ss_Ended h_icl_Ended h_ty_Ended) (kit_sub h_ss_BadDeed h_icl_BadDeed h_ty_BadDeed) (kit_refF h_ss_BadEnds h_hks_BadEnds_BadNode h_icl_BadNode h_ty_BadNode) (kit_refF h_ss_BadEnds h_hks_BadEnds_BadStart h_icl_BadStart h_ty_BadStart) (kit_refF h_ss_BadEnds h_hks_BadEnds_TwiceAsked h_icl_TwiceAsked h_ty_TwiceAsked) (kit_refF h_ss_BadEnds h_hks_BadEnds_NoNode h_icl_NoNode h_ty_NoNode) (kit_refF h_ss_BadEnds h_hks_BadEnds_NoPosition h_icl_NoPosition h_ty_NoPosition) (kit_refF h_ss_BadEnds h_hks_BadEnds_BadQuestion h_icl_BadQuestion h_ty_BadQuestion) (kit_refF h_ss_BadEnds h_hks_BadEnds_BadMarks h_icl_BadMarks h_ty_BadMarks) (kit_refF h_ss_BadEnds h_hks_BadEnds_BadLadder h_icl_BadLadder h_ty_BadLadder) (kit_refF h_ss_BadEnds h_hks_BadEnds_BadCount h_icl_BadCount h_ty_BadCount) (kit_refF h_ss_BadEnds h_hks_BadEnds_BadRelation h_icl_BadRelation h_ty_BadRelation) (kit_refF h_ss_BadEnds h_hks_BadEnds_BadPositions h_icl_BadPositions h_ty_BadPositions) (kit_refF h_ss_BadEnds h_hks_BadEnds_NoFinal h_icl_NoFinal h_ty_NoFinal) (kit_refF h_ss_BadEnds h_hks_BadEnds_NotReached h_icl_NotReached h_ty_NotReached) (kit_refF h_ss_BadEnds h_hks_BadEnds_NoEnd h_icl_NoEnd h_ty_NoEnd) (kit_refF h_ss_BadEnds h_hks_BadEnds_ZeroBottom h_icl_ZeroBottom h_ty_ZeroBottom) (kit_refF h_ss_BadEnds h_hks_BadEnds_NoChance h_icl_NoChance h_ty_NoChance) (kit_refF h_ss_BadEnds h_hks_BadEnds_BadChance h_icl_BadChance h_ty_BadChance) (kit_refF h_ss_BadEnds h_hks_BadEnds_ZeroPolynomial h_icl_ZeroPolynomial h_ty_ZeroPolynomial) (kit_refF h_ss_BadEnds h_hks_BadEnds_BadInterval h_icl_BadInterval h_ty_BadInterval) (kit_refF h_ss_BadEnds h_hks_BadEnds_NoSkip h_icl_NoSkip h_ty_NoSkip) (kit_refF h_ss_BadEnds h_hks_BadEnds_NotComing h_icl_NotComing h_ty_NotComing) (kit_refF h_ss_BadEnds h_hks_BadEnds_NoPupils h_icl_NoPupils h_ty_NoPupils) (kit_refF h_ss_BadEnds h_hks_BadEnds_BadLength h_icl_BadLength h_ty_BadLength) (kit_refF h_ss_BadEnds h_hks_BadEnds_AlikePupils h_icl_AlikePupils h_ty_AlikePupils) (kit_refF h_ss_BadEnds h_hks_BadEnds_BadLine h_icl_BadLine h_ty_BadLine) (kit_refF h_ss_BadEnds h_hks_BadEnds_Ended h_icl_Ended h_ty_Ended) (kit_refF h_ss_BadEnds h_hks_BadEnds_BadDeed h_icl_BadDeed h_ty_BadDeed) (kit_refF h_ss_BadNode h_hks_BadNode_BadEnds h_icl_BadEnds h_ty_BadEnds) (kit_refF h_ss_BadNode h_hks_BadNode_BadStart h_icl_BadStart h_ty_BadStart) (kit_refF h_ss_BadNode h_hks_BadNode_TwiceAsked h_icl_TwiceAsked h_ty_TwiceAsked) (kit_refF h_ss_BadNode h_hks_BadNode_NoNode h_icl_NoNode h_ty_NoNode) (kit_refF h_ss_BadNode h_hks_BadNode_NoPosition h_icl_NoPosition h_ty_NoPosition) (kit_refF h_ss_BadNode h_hks_BadNode_BadQuestion h_icl_BadQuestion h_ty_BadQuestion) (kit_refF h_ss_BadNode h_hks_BadNode_BadMarks h_icl_BadMarks h_ty_BadMarks) (kit_refF h_ss_BadNode h_hks_BadNode_BadLadder h_icl_BadLadder h_ty_BadLadder) (kit_refF h_ss_BadNode h_hks_BadNode_BadCount h_icl_BadCount h_ty_BadCount) (kit_refF h_ss_BadNode h_hks_BadNode_BadRelation h_icl_BadRelation h_ty_BadRelation) (kit_refF h_ss_BadNode h_hks_BadNode_BadPositions h_icl_BadPositions h_ty_BadPositions) (kit_refF h_ss_BadNode h_hks_BadNode_NoFinal h_icl_NoFinal h_ty_NoFinal) (kit_refF h_ss_BadNode h_hks_BadNode_NotReached h_icl_NotReached h_ty_NotReached) (kit_refF h_ss_BadNode h_hks_BadNode_NoEnd h_icl_NoEnd h_ty_NoEnd) (kit_refF h_ss_BadNode h_hks_BadNode_ZeroBottom h_icl_ZeroBottom h_ty_ZeroBottom) (kit_refF h_ss_BadNode h_hks_BadNode_NoChance h_icl_NoChance h_ty_NoChance) (kit_refF h_ss_BadNode h_hks_BadNode_BadChance h_icl_BadChance h_ty_BadChance) (kit_refF h_ss_BadNode h_hks_BadNode_ZeroPolynomial h_icl_ZeroPolynomial h_ty_ZeroPolynomial) (kit_refF h_ss_BadNode h_hks_BadNode_BadInterval h_icl_BadInterval h_ty_BadInterval) (kit_refF h_ss_BadNode h_hks_BadNode_NoSkip h_icl_NoSkip h_ty_NoSkip) (kit_refF h_ss_BadNode h_hks_BadNode_NotComing h_icl_NotComing h_ty_NotComing) (kit_refF h_ss_BadNode h_hks_BadNode_NoPupils h_icl_NoPupils h_ty_NoPupils) (kit_refF h_ss_BadNode h_hks_BadNode_BadLength h_icl_BadLength h_ty_BadLength) (kit_refF h_ss_BadNode h_hks_BadNode_AlikePupils h_icl_AlikePupils h_ty_AlikePupils) (kit_refF h_ss_BadNode h_hks_BadNode_BadLine h_icl_BadLine h_ty_BadLine) (kit_refF h_ss_BadNode h_hks_BadNode_Ended h_icl_Ended h_ty_Ended) (kit_refF h_ss_BadNode h_hks_BadNode_BadDeed h_icl_BadDeed h_ty_BadDeed) (kit_refF h_ss_BadStart h_hks_BadStart_BadEnds h_icl_BadEnds h_ty_BadEnds) (kit_refF h_ss_BadStart h_hks_BadStart_BadNode h_icl_BadNode h_ty_BadNode) (kit_refF h_ss_BadStart h_hks_BadStart_TwiceAsked h_icl_TwiceAsked h_ty_TwiceAsked) (kit_refF h_ss_BadStart h_hks_BadStart_NoNode h_icl_NoNode h_ty_NoNode) (kit_refF h_ss_BadStart h_hks_BadStart_NoPosition h_icl_NoPosition h_ty_NoPosition) (kit_refF h_ss_BadStart h_hks_BadStart_BadQuestion h_icl_BadQuestion h_ty_BadQuestion) (kit_refF h_ss_BadStart h_hks_BadStart_BadMarks h_icl_BadMarks h_ty_BadMarks) (kit_refF h_ss_BadStart h_hks_BadStart_BadLadder h_icl_BadLadder h_ty_BadLadder) (kit_refF h_ss_BadStart h_hks_BadStart_BadCount h_icl_BadCount h_ty_BadCount) (kit_refF h_ss_BadStart h_hks_BadStart_BadRelation h_icl_BadRelation h_ty_BadRelation) (kit_refF h_ss_BadStart h_hks_BadStart_BadPositions h_icl_BadPositions h_ty_BadPositions) (kit_refF h_ss_BadStart h_hks_BadStart_NoFinal h_icl_NoFinal h_ty_NoFinal) (kit_refF h_ss_BadStart h_hks_BadStart_NotReached h_icl_NotReached h_ty_NotReached) (kit_refF h_ss_BadStart h_hks_BadStart_NoEnd h_icl_NoEnd h_ty_NoEnd) (kit_refF h_ss_BadStart h_hks_BadStart_ZeroBottom h_icl_ZeroBottom h_ty_ZeroBottom) (kit_refF h_ss_BadStart h_hks_BadStart_NoChance h_icl_NoChance h_ty_NoChance) (kit_refF h_ss_BadStart h_hks_BadStart_BadChance h_icl_BadChance h_ty_BadChance) (kit_refF h_ss_BadStart h_hks_BadStart_ZeroPolynomial h_icl_ZeroPolynomial h_ty_ZeroPolynomial) (kit_refF h_ss_BadStart h_hks_BadStart_BadInterval h_icl_BadInterval h_ty_BadInterval) (kit_refF h_ss_BadStart h_hks_BadStart_NoSkip h_icl_NoSkip h_ty_NoSkip) (kit_refF h_ss_BadStart h_hks_BadStart_NotComing h_icl_NotComing h_ty_NotComing) (kit_refF h_ss_BadStart h_hks_BadStart_NoPupils h_icl_NoPupils h_ty_NoPupils) (kit_refF h_ss_BadStart h_hks_BadStart_BadLength h_icl_BadLength h_ty_BadLength) (kit_refF h_ss_BadStart h_hks_BadStart_AlikePupils h_icl_AlikePupils h_ty_AlikePupils) (kit_refF h_ss_BadStart h_hks_BadStart_BadLine h_icl_BadLine h_ty_BadLine) (kit_refF h_ss_BadStart h_hks_BadStart_Ended h_icl_Ended h_ty_Ended) (kit_refF h_ss_BadStart h_hks_BadStart_BadDeed h_icl_BadDeed h_ty_BadDeed) (kit_refF h_ss_TwiceAsked h_hks_TwiceAsked_BadEnds h_icl_BadEnds h_ty_BadEnds) (kit_refF h_ss_TwiceAsked h_hks_TwiceAsked_BadNode h_icl_BadNode h_ty_BadNode) (kit_refF h_ss_TwiceAsked h_hks_TwiceAsked_BadStart h_icl_BadStart h_ty_BadStart) (kit_refF h_ss_TwiceAsked h_hks_TwiceAsked_NoNode h_icl_NoNode h_ty_NoNode) (kit_refF h_ss_TwiceAsked h_hks_TwiceAsked_NoPosition h_icl_NoPosition h_ty_NoPosition) (kit_refF h_ss_TwiceAsked h_hks_TwiceAsked_BadQuestion h_icl_BadQuestion h_ty_BadQuestion) (kit_refF h_ss_TwiceAsked h_hks_TwiceAsked_BadMarks h_icl_BadMarks h_ty_BadMarks) (kit_refF h_ss_TwiceAsked h_hks_TwiceAsked_BadLadder h_icl_BadLadder h_ty_BadLadder) (kit_refF h_ss_TwiceAsked h_hks_TwiceAsked_BadCount h_icl_BadCount h_ty_BadCount) (kit_refF h_ss_TwiceAsked h_hks_TwiceAsked_BadRelation h_icl_BadRelation h_ty_BadRelation) (kit_refF h_ss_TwiceAsked h_hks_TwiceAsked_BadPositions h_icl_BadPositions h_ty_BadPositions) (kit_refF h_ss_TwiceAsked h_hks_TwiceAsked_NoFinal h_icl_NoFinal h_ty_NoFinal) (kit_refF h_ss_TwiceAsked h_hks_TwiceAsked_NotReached h_icl_NotReached h_ty_NotReached) (kit_refF h_ss_TwiceAsked h_hks_TwiceAsked_NoEnd h_icl_NoEnd h_ty_NoEnd) (kit_refF h_ss_TwiceAsked h_hks_TwiceAsked_ZeroBottom h_icl_ZeroBottom h_ty_ZeroBottom) (kit_refF h_ss_TwiceAsked h_hks_TwiceAsked_NoChance h_icl_NoChance h_ty_NoChance) (kit_refF h_ss_TwiceAsked h_hks_TwiceAsked_BadChance h_icl_BadChance h_ty_BadChance) (kit_refF h_ss_TwiceAsked h_hks_TwiceAsked_ZeroPolynomial h_icl_ZeroPolynomial h_ty_ZeroPolynomial) (kit_refF h_ss_TwiceAsked h_hks_TwiceAsked_BadInterval h_icl_BadInterval h_ty_BadInterval) (kit_refF h_ss_TwiceAsked h_hks_TwiceAsked_NoSkip h_icl_NoSkip h_ty_NoSkip) (kit_refF h_ss_TwiceAsked h_hks_TwiceAsked_NotComing h_icl_NotComing h_ty_NotComing) (kit_refF h_ss_TwiceAsked h_hks_TwiceAsked_NoPupils h_icl_NoPupils h_ty_NoPupils) (kit_refF h_ss_TwiceAsked h_hks_TwiceAsked_BadLength h_icl_BadLength h_ty_BadLength) (kit_refF h_ss_TwiceAsked h_hks_TwiceAsked_AlikePupils h_icl_AlikePupils h_ty_AlikePupils) (kit_refF h_ss_TwiceAsked h_hks_TwiceAsked_BadLine h_icl_BadLine h_ty_BadLine) (kit_refF h_ss_TwiceAsked h_hks_TwiceAsked_Ended h_icl_Ended h_ty_Ended) (kit_refF h_ss_TwiceAsked h_hks_TwiceAsked_BadDeed h_icl_BadDeed h_ty_BadDeed) (kit_refF h_ss_NoNode h_hks_NoNode_BadEnds h_icl_BadEnds h_ty_BadEnds) (kit_refF h_ss_NoNode h_hks_NoNode_BadNode h_icl_BadNode h_ty_BadNode) (kit_refF h_ss_NoNode h_hks_NoNode_BadStart h_icl_BadStart h_ty_BadStart) (kit_refF h_ss_NoNode h_hks_NoNode_TwiceAsked h_icl_TwiceAsked h_ty_TwiceAsked) (kit_refF h_ss_NoNode h_hks_NoNode_NoPosition h_icl_NoPosition h_ty_NoPosition) (kit_refF h_ss_NoNode h_hks_NoNode_BadQuestion h_icl_BadQuestion h_ty_BadQuestion) (kit_refF h_ss_NoNode h_hks_NoNode_BadMarks h_icl_BadMarks h_ty_BadMarks) (kit_refF h_ss_NoNode h_hks_NoNode_BadLadder h_icl_BadLadder h_ty_BadLadder) (kit_refF h_ss_NoNode h_hks_NoNode_BadCount h_icl_BadCount h_ty_BadCount) (kit_refF h_ss_NoNode h_hks_NoNode_BadRelation h_icl_BadRelation h_ty_BadRelation) (kit_refF h_ss_NoNode h_hks_NoNode_BadPositions h_icl_BadPositions h_ty_BadPositions) (kit_refF h_ss_NoNode h_hks_NoNode_NoFinal h_icl_NoFinal h_ty_NoFinal) (kit_refF h_ss_NoNode h_hks_NoNode_NotReached h_icl_NotReached h_ty_NotReached) (kit_refF h_ss_NoNode h_hks_NoNode_NoEnd h_icl_NoEnd h_ty_NoEnd) (kit_refF h_ss_NoNode h_hks_NoNode_ZeroBottom h_icl_ZeroBottom h_ty_ZeroBottom) (kit_refF h_ss_NoNode h_hks_NoNode_NoChance h_icl_NoChance h_ty_NoChance) (kit_refF h_ss_NoNode h_hks_NoNode_BadChance h_icl_BadChance h_ty_BadChance) (kit_refF h_ss_NoNode h_hks_NoNode_ZeroPolynomial h_icl_ZeroPolynomial h_ty_ZeroPolynomial) (kit_refF h_ss_NoNode h_hks_NoNode_BadInterval h_icl_BadInterval h_ty_BadInterval) (kit_refF h_ss_NoNode h_hks_NoNode_NoSkip h_icl_NoSkip h_ty_NoSkip) (kit_refF h_ss_NoNode h_hks_NoNode_NotComing h_icl_NotComing h_ty_NotComing) (kit_refF h_ss_NoNode h_hks_NoNode_NoPupils h_icl_NoPupils h_ty_NoPupils) (kit_refF h_ss_NoNode h_hks_NoNode_BadLength h_icl_BadLength h_ty_BadLength) (kit_refF h_ss_NoNode h_hks_NoNode_AlikePupils h_icl_AlikePupils h_ty_AlikePupils) (kit_refF h_ss_NoNode h_hks_NoNode_BadLine h_icl_BadLine h_ty_BadLine) (kit_refF h_ss_NoNode h_hks_NoNode_Ended h_icl_Ended h_ty_Ended) (kit_refF h_ss_NoNode h_hks_NoNode_BadDeed h_icl_BadDeed h_ty_BadDeed) (kit_refF h_ss_NoPosition h_hks_NoPosition_BadEnds h_icl_BadEnds h_ty_BadEnds) (kit_refF h_ss_NoPosition h_hks_NoPosition_BadNode h_icl_BadNode h_ty_BadNode) (kit_refF h_ss_NoPosition h_hks_NoPosition_BadStart h_icl_BadStart h_ty_BadStart) (kit_refF h_ss_NoPosition h_hks_NoPosition_TwiceAsked h_icl_TwiceAsked h_ty_TwiceAsked) (kit_refF h_ss_NoPosition h_hks_NoPosition_NoNode h_icl_NoNode h_ty_NoNode) (kit_refF h_ss_NoPosition h_hks_NoPosition_BadQuestion h_icl_BadQuestion h_ty_BadQuestion) (kit_refF h_ss_NoPosition h_hks_NoPosition_BadMarks h_icl_BadMarks h_ty_BadMarks) (kit_refF h_ss_NoPosition h_hks_NoPosition_BadLadder h_icl_BadLadder h_ty_BadLadder) (kit_refF h_ss_NoPosition h_hks_NoPosition_BadCount h_icl_BadCount h_ty_BadCount) (kit_refF h_ss_NoPosition h_hks_NoPosition_BadRelation h_icl_BadRelation h_ty_BadRelation) (kit_refF h_ss_NoPosition h_hks_NoPosition_BadPositions h_icl_BadPositions h_ty_BadPositions) (kit_refF h_ss_NoPosition h_hks_NoPosition_NoFinal h_icl_NoFinal h_ty_NoFinal) (kit_refF h_ss_NoPosition h_hks_NoPosition_NotReached h_icl_NotReached h_ty_NotReached) (kit_refF h_ss_NoPosition h_hks_NoPosition_NoEnd h_icl_NoEnd h_ty_NoEnd) (kit_refF h_ss_NoPosition h_hks_NoPosition_ZeroBottom h_icl_ZeroBottom h_ty_ZeroBottom) (kit_refF h_ss_NoPosition h_hks_NoPosition_NoChance h_icl_NoChance h_ty_NoChance) (kit_refF h_ss_NoPosition h_hks_NoPosition_BadChance h_icl_BadChance h_ty_BadChance) (kit_refF h_ss_NoPosition h_hks_NoPosition_ZeroPolynomial h_icl_ZeroPolynomial h_ty_ZeroPolynomial) (kit_refF h_ss_NoPosition h_hks_NoPosition_BadInterval h_icl_BadInterval h_ty_BadInterval) (kit_refF h_ss_NoPosition h_hks_NoPosition_NoSkip h_icl_NoSkip h_ty_NoSkip) (kit_refF h_ss_NoPosition h_hks_NoPosition_NotComing h_icl_NotComing h_ty_NotComing) (kit_refF h_ss_NoPosition h_hks_NoPosition_NoPupils h_icl_NoPupils h_ty_NoPupils) (kit_refF h_ss_NoPosition h_hks_NoPosition_BadLength h_icl_BadLength h_ty_BadLength) (kit_refF h_ss_NoPosition h_hks_NoPosition_AlikePupils h_icl_AlikePupils h_ty_AlikePupils) (kit_refF h_ss_NoPosition h_hks_NoPosition_BadLine h_icl_BadLine h_ty_BadLine) (kit_refF h_ss_NoPosition h_hks_NoPosition_Ended h_icl_Ended h_ty_Ended) (kit_refF h_ss_NoPosition h_hks_NoPosition_BadDeed h_icl_BadDeed h_ty_BadDeed) (kit_refF h_ss_BadQuestion h_hks_BadQuestion_BadEnds h_icl_BadEnds h_ty_BadEnds) (kit_refF h_ss_BadQuestion h_hks_BadQuestion_BadNode h_icl_BadNode h_ty_BadNode) (kit_refF h_ss_BadQuestion h_hks_BadQuestion_BadStart h_icl_BadStart h_ty_BadStart) (kit_refF h_ss_BadQuestion h_hks_BadQuestion_TwiceAsked h_icl_TwiceAsked h_ty_TwiceAsked) (kit_refF h_ss_BadQuestion h_hks_BadQuestion_NoNode h_icl_NoNode h_ty_NoNode) (kit_refF h_ss_BadQuestion h_hks_BadQuestion_NoPosition h_icl_NoPosition h_ty_NoPosition) (kit_refF h_ss_BadQuestion h_hks_BadQuestion_BadMarks h_icl_BadMarks h_ty_BadMarks) (kit_refF h_ss_BadQuestion h_hks_BadQuestion_BadLadder h_icl_BadLadder h_ty_BadLadder) (kit_refF h_ss_BadQuestion h_hks_BadQuestion_BadCount h_icl_BadCount h_ty_BadCount) (kit_refF h_ss_BadQuestion h_hks_BadQuestion_BadRelation h_icl_BadRelation h_ty_BadRelation) (kit_refF h_ss_BadQuestion h_hks_BadQuestion_BadPositions h_icl_BadPositions h_ty_BadPositions) (kit_refF h_ss_BadQuestion h_hks_BadQuestion_NoFinal h_icl_NoFinal h_ty_NoFinal) (kit_refF h_ss_BadQuestion h_hks_BadQuestion_NotReached h_icl_NotReached h_ty_NotReached) (kit_refF h_ss_BadQuestion h_hks_BadQuestion_NoEnd h_icl_NoEnd h_ty_NoEnd) (kit_refF h_ss_BadQuestion h_hks_BadQuestion_ZeroBottom h_icl_ZeroBottom h_ty_ZeroBottom) (kit_refF h_ss_BadQuestion h_hks_BadQuestion_NoChance h_icl_NoChance h_ty_NoChance) (kit_refF h_ss_BadQuestion h_hks_BadQuestion_BadChance h_icl_BadChance h_ty_BadChance) (kit_refF h_ss_BadQuestion h_hks_BadQuestion_ZeroPolynomial h_icl_ZeroPolynomial h_ty_ZeroPolynomial) (kit_refF h_ss_BadQuestion h_hks_BadQuestion_BadInterval h_icl_BadInterval h_ty_BadInterval) (kit_refF h_ss_BadQuestion h_hks_BadQuestion_NoSkip h_icl_NoSkip h_ty_NoSkip) (kit_refF h_ss_BadQuestion h_hks_BadQuestion_NotComing h_icl_NotComing h_ty_NotComing) (kit_refF h_ss_BadQuestion h_hks_BadQuestion_NoPupils h_icl_NoPupils h_ty_NoPupils) (kit_refF h_ss_BadQuestion h_hks_BadQuestion_BadLength h_icl_BadLength h_ty_BadLength) (kit_refF h_ss_BadQuestion h_hks_BadQuestion_AlikePupils h_icl_AlikePupils h_ty_AlikePupils) (kit_refF h_ss_BadQuestion h_hks_BadQuestion_BadLine h_icl_BadLine h_ty_BadLine) (kit_refF h_ss_BadQuestion h_hks_BadQuestion_Ended h_icl_Ended h_ty_Ended) (kit_refF h_ss_BadQuestion h_hks_BadQuestion_BadDeed h_icl_BadDeed h_ty_BadDeed) (kit_refF h_ss_BadMarks h_hks_BadMarks_BadEnds h_icl_BadEnds h_ty_BadEnds) (kit_refF h_ss_BadMarks h_hks_BadMarks_BadNode h_icl_BadNode h_ty_BadNode) (kit_refF h_ss_BadMarks h_hks_BadMarks_BadStart h_icl_BadStart h_ty_BadStart) (kit_refF h_ss_BadMarks h_hks_BadMarks_TwiceAsked h_icl_TwiceAsked h_ty_TwiceAsked) (kit_refF h_ss_BadMarks h_hks_BadMarks_NoNode h_icl_NoNode h_ty_NoNode) (kit_refF h_ss_BadMarks h_hks_BadMarks_NoPosition h_icl_NoPosition h_ty_NoPosition) (kit_refF h_ss_BadMarks h_hks_BadMarks_BadQuestion h_icl_BadQuestion h_ty_BadQuestion) (kit_refF h_ss_BadMarks h_hks_BadMarks_BadLadder h_icl_BadLadder h_ty_BadLadder) (kit_refF h_ss_BadMarks h_hks_BadMarks_BadCount h_icl_BadCount h_ty_BadCount) (kit_refF h_ss_BadMarks h_hks_BadMarks_BadRelation h_icl_BadRelation h_ty_BadRelation) (kit_refF h_ss_BadMarks h_hks_BadMarks_BadPositions h_icl_BadPositions h_ty_BadPositions) (kit_refF h_ss_BadMarks h_hks_BadMarks_NoFinal h_icl_NoFinal h_ty_NoFinal) (kit_refF h_ss_BadMarks h_hks_BadMarks_NotReached h_icl_NotReached h_ty_NotReached) (kit_refF h_ss_BadMarks h_hks_BadMarks_NoEnd h_icl_NoEnd h_ty_NoEnd) (kit_refF h_ss_BadMarks h_hks_BadMarks_ZeroBottom h_icl_ZeroBottom h_ty_ZeroBottom) (kit_refF h_ss_BadMarks h_hks_BadMarks_NoChance h_icl_NoChance h_ty_NoChance) (kit_refF h_ss_BadMarks h_hks_BadMarks_BadChance h_icl_BadChance h_ty_BadChance) (kit_refF h_ss_BadMarks h_hks_BadMarks_ZeroPolynomial h_icl_ZeroPolynomial h_ty_ZeroPolynomial) (kit_refF h_ss_BadMarks h_hks_BadMarks_BadInterval h_icl_BadInterval h_ty_BadInterval) (kit_refF h_ss_BadMarks h_hks_BadMarks_NoSkip h_icl_NoSkip h_ty_NoSkip) (kit_refF h_ss_BadMarks h_hks_BadMarks_NotComing h_icl_NotComing h_ty_NotComing) (kit_refF h_ss_BadMarks h_hks_BadMarks_NoPupils h_icl_NoPupils h_ty_NoPupils) (kit_refF h_ss_BadMarks h_hks_BadMarks_BadLength h_icl_BadLength h_ty_BadLength) (kit_refF h_ss_BadMarks h_hks_BadMarks_AlikePupils h_icl_AlikePupils h_ty_AlikePupils) (kit_refF h_ss_BadMarks h_hks_BadMarks_BadLine h_icl_BadLine h_ty_BadLine) (kit_refF h_ss_BadMarks h_hks_BadMarks_Ended h_icl_Ended h_ty_Ended) (kit_refF h_ss_BadMarks h_hks_BadMarks_BadDeed h_icl_BadDeed h_ty_BadDeed) (kit_refF h_ss_BadLadder h_hks_BadLadder_BadEnds h_icl_BadEnds h_ty_BadEnds) (kit_refF h_ss_BadLadder h_hks_BadLadder_BadNode h_icl_BadNode h_ty_BadNode) (kit_refF h_ss_BadLadder h_hks_BadLadder_BadStart h_icl_BadStart h_ty_BadStart) (kit_refF h_ss_BadLadder h_hks_BadLadder_TwiceAsked h_icl_TwiceAsked h_ty_TwiceAsked) (kit_refF h_ss_BadLadder h_hks_BadLadder_NoNode h_icl_NoNode h_ty_NoNode) (kit_refF h_ss_BadLadder h_hks_BadLadder_NoPosition h_icl_NoPosition h_ty_NoPosition) (kit_refF h_ss_BadLadder h_hks_BadLadder_BadQuestion h_icl_BadQuestion h_ty_BadQuestion) (kit_refF h_ss_BadLadder h_hks_BadLadder_BadMarks h_icl_BadMarks h_ty_BadMarks) (kit_refF h_ss_BadLadder h_hks_BadLadder_BadCount h_icl_BadCount h_ty_BadCount) (kit_refF h_ss_BadLadder h_hks_BadLadder_BadRelation h_icl_BadRelation h_ty_BadRelation) (kit_refF h_ss_BadLadder h_hks_BadLadder_BadPositions h_icl_BadPositions h_ty_BadPositions) (kit_refF h_ss_BadLadder h_hks_BadLadder_NoFinal h_icl_NoFinal h_ty_NoFinal) (kit_refF h_ss_BadLadder h_hks_BadLadder_NotReached h_icl_NotReached h_ty_NotReached) (kit_refF h_ss_BadLadder h_hks_BadLadder_NoEnd h_icl_NoEnd h_ty_NoEnd) (kit_refF h_ss_BadLadder h_hks_BadLadder_ZeroBottom h_icl_ZeroBottom h_ty_ZeroBottom) (kit_refF h_ss_BadLadder h_hks_BadLadder_NoChance h_icl_NoChance h_ty_NoChance) (kit_refF h_ss_BadLadder h_hks_BadLadder_BadChance h_icl_BadChance h_ty_BadChance) (kit_refF h_ss_BadLadder h_hks_BadLadder_ZeroPolynomial h_icl_ZeroPolynomial h_ty_ZeroPolynomial) (kit_refF h_ss_BadLadder h_hks_BadLadder_BadInterval h_icl_BadInterval h_ty_BadInterval) (kit_refF h_ss_BadLadder h_hks_BadLadder_NoSkip h_icl_NoSkip h_ty_NoSkip) (kit_refF h_ss_BadLadder h_hks_BadLadder_NotComing h_icl_NotComing h_ty_NotComing) (kit_refF h_ss_BadLadder h_hks_BadLadder_NoPupils h_icl_NoPupils h_ty_NoPupils) (kit_refF h_ss_BadLadder h_hks_BadLadder_BadLength h_icl_BadLength h_ty_BadLength) (kit_refF h_ss_BadLadder h_hks_BadLadder_AlikePupils h_icl_AlikePupils h_ty_AlikePupils) (kit_refF h_ss_BadLadder h_hks_BadLadder_BadLine h_icl_BadLine h_ty_BadLine) (kit_refF h_ss_BadLadder h_hks_BadLadder_Ended h_icl_Ended h_ty_Ended) (kit_refF h_ss_BadLadder h_hks_BadLadder_BadDeed h_icl_BadDeed h_ty_BadDeed) (kit_refF h_ss_BadCount h_hks_BadCount_BadEnds h_icl_BadEnds h_ty_BadEnds) (kit_refF h_ss_BadCount h_hks_BadCount_BadNode h_icl_BadNode h_ty_BadNode) (kit_refF h_ss_BadCount h_hks_BadCount_BadStart h_icl_BadStart h_ty_BadStart) (kit_refF h_ss_BadCount h_hks_BadCount_TwiceAsked h_icl_TwiceAsked h_ty_TwiceAsked) (kit_refF h_ss_BadCount h_hks_BadCount_NoNode h_icl_NoNode h_ty_NoNode) (kit_refF h_ss_BadCount h_hks_BadCount_NoPosition h_icl_NoPosition h_ty_NoPosition) (kit_refF h_ss_BadCount h_hks_BadCount_BadQuestion h_icl_BadQuestion h_ty_BadQuestion) (kit_refF h_ss_BadCount h_hks_BadCount_BadMarks h_icl_BadMarks h_ty_BadMarks) (kit_refF h_ss_BadCount h_hks_BadCount_BadLadder h_icl_BadLadder h_ty_BadLadder) (kit_refF h_ss_BadCount h_hks_BadCount_BadRelation h_icl_BadRelation h_ty_BadRelation) (kit_refF h_ss_BadCount h_hks_BadCount_BadPositions h_icl_BadPositions h_ty_BadPositions) (kit_refF h_ss_BadCount h_hks_BadCount_NoFinal h_icl_NoFinal h_ty_NoFinal) (kit_refF h_ss_BadCount h_hks_BadCount_NotReached h_icl_NotReached h_ty_NotReached) (kit_refF h_ss_BadCount h_hks_BadCount_NoEnd h_icl_NoEnd h_ty_NoEnd) (kit_refF h_ss_BadCount h_hks_BadCount_ZeroBottom h_icl_ZeroBottom h_ty_ZeroBottom) (kit_refF h_ss_BadCount h_hks_BadCount_NoChance h_icl_NoChance h_ty_NoChance) (kit_refF h_ss_BadCount h_hks_BadCount_BadChance h_icl_BadChance h_ty_BadChance) (kit_refF h_ss_BadCount h_hks_BadCount_ZeroPolynomial h_icl_ZeroPolynomial h_ty_ZeroPolynomial) (kit_refF h_ss_BadCount h_hks_BadCount_BadInterval h_icl_BadInterval h_ty_BadInterval) (kit_refF h_ss_BadCount h_hks_BadCount_NoSkip h_icl_NoSkip h_ty_NoSkip) (kit_refF h_ss_BadCount h_hks_BadCount_NotComing h_icl_NotComing h_ty_NotComing) (kit_refF h_ss_BadCount h_hks_BadCount_NoPupils h_icl_NoPupils h_ty_NoPupils) (kit_refF h_ss_BadCount h_hks_BadCount_BadLength h_icl_BadLength h_ty_BadLength) (kit_refF h_ss_BadCount h_hks_BadCount_AlikePupils h_icl_AlikePupils h_ty_AlikePupils) (kit_refF h_ss_BadCount h_hks_BadCount_BadLine h_icl_BadLine h_ty_BadLine) (kit_refF h_ss_BadCount h_hks_BadCount_Ended h_icl_Ended h_ty_Ended) (kit_refF h_ss_BadCount h_hks_BadCount_BadDeed h_icl_BadDeed h_ty_BadDeed) (kit_refF h_ss_BadRelation h_hks_BadRelation_BadEnds h_icl_BadEnds h_ty_BadEnds) (kit_refF h_ss_BadRelation h_hks_BadRelation_BadNode h_icl_BadNode h_ty_BadNode) (kit_refF h_ss_BadRelation h_hks_BadRelation_BadStart h_icl_BadStart h_ty_BadStart) (kit_refF h_ss_BadRelation h_hks_BadRelation_TwiceAsked h_icl_TwiceAsked h_ty_TwiceAsked) (kit_refF h_ss_BadRelation h_hks_BadRelation_NoNode h_icl_NoNode h_ty_NoNode) (kit_refF h_ss_BadRelation h_hks_BadRelation_NoPosition h_icl_NoPosition h_ty_NoPosition) (kit_refF h_ss_BadRelation h_hks_BadRelation_BadQuestion h_icl_BadQuestion h_ty_BadQuestion) (kit_refF h_ss_BadRelation h_hks_BadRelation_BadMarks h_icl_BadMarks h_ty_BadMarks) (kit_refF h_ss_BadRelation h_hks_BadRelation_BadLadder h_icl_BadLadder h_ty_BadLadder) (kit_refF h_ss_BadRelation h_hks_BadRelation_BadCount h_icl_BadCount h_ty_BadCount) (kit_refF h_ss_BadRelation h_hks_BadRelation_BadPositions h_icl_BadPositions h_ty_BadPositions) (kit_refF h_ss_BadRelation h_hks_BadRelation_NoFinal h_icl_NoFinal h_ty_NoFinal) (kit_refF h_ss_BadRelation h_hks_BadRelation_NotReached h_icl_NotReached h_ty_NotReached) (kit_refF h_ss_BadRelation h_hks_BadRelation_NoEnd h_icl_NoEnd h_ty_NoEnd) (kit_refF h_ss_BadRelation h_hks_BadRelation_ZeroBottom h_icl_ZeroBottom h_ty_ZeroBottom) (kit_refF h_ss_BadRelation h_hks_BadRelation_NoChance h_icl_NoChance h_ty_NoChance) (kit_refF h_ss_BadRelation h_hks_BadRelation_BadChance h_icl_BadChance h_ty_BadChance) (kit_refF h_ss_BadRelation h_hks_BadRelation_ZeroPolynomial h_icl_ZeroPolynomial h_ty_ZeroPolynomial) (kit_refF h_ss_BadRelation h_hks_BadRelation_BadInterval h_icl_BadInterval h_ty_BadInterval) (kit_refF h_ss_BadRelation h_hks_BadRelation_NoSkip h_icl_NoSkip h_ty_NoSkip) (kit_refF h_ss_BadRelation h_hks_BadRelation_NotComing h_icl_NotComing h_ty_NotComing) (kit_refF h_ss_BadRelation h_hks_BadRelation_NoPupils h_icl_NoPupils h_ty_NoPupils) (kit_refF h_ss_BadRelation h_hks_BadRelation_BadLength h_icl_BadLength h_ty_BadLength) (kit_refF h_ss_BadRelation h_hks_BadRelation_AlikePupils h_icl_AlikePupils h_ty_AlikePupils) (kit_refF h_ss_BadRelation h_hks_BadRelation_BadLine h_icl_BadLine h_ty_BadLine) (kit_refF h_ss_BadRelation h_hks_BadRelation_Ended h_icl_Ended h_ty_Ended) (kit_refF h_ss_BadRelation h_hks_BadRelation_BadDeed h_icl_BadDeed h_ty_BadDeed) (kit_refF h_ss_BadPositions h_hks_BadPositions_BadEnds h_icl_BadEnds h_ty_BadEnds) (kit_refF h_ss_BadPositions h_hks_BadPositions_BadNode h_icl_BadNode h_ty_BadNode) (kit_refF h_ss_BadPositions h_hks_BadPositions_BadStart h_icl_BadStart h_ty_BadStart) (kit_refF h_ss_BadPositions h_hks_BadPositions_TwiceAsked h_icl_TwiceAsked h_ty_TwiceAsked) (kit_refF h_ss_BadPositions h_hks_BadPositions_NoNode h_icl_NoNode h_ty_NoNode) (kit_refF h_ss_BadPositions h_hks_BadPositions_NoPosition h_icl_NoPosition h_ty_NoPosition) (kit_refF h_ss_BadPositions h_hks_BadPositions_BadQuestion h_icl_BadQuestion h_ty_BadQuestion) (kit_refF h_ss_BadPositions h_hks_BadPositions_BadMarks h_icl_BadMarks h_ty_BadMarks) (kit_refF h_ss_BadPositions h_hks_BadPositions_BadLadder h_icl_BadLadder h_ty_BadLadder) (kit_refF h_ss_BadPositions h_hks_BadPositions_BadCount h_icl_BadCount h_ty_BadCount) (kit_refF h_ss_BadPositions h_hks_BadPositions_BadRelation h_icl_BadRelation h_ty_BadRelation) (kit_refF h_ss_BadPositions h_hks_BadPositions_NoFinal h_icl_NoFinal h_ty_NoFinal) (kit_refF h_ss_BadPositions h_hks_BadPositions_NotReached h_icl_NotReached h_ty_NotReached) (kit_refF h_ss_BadPositions h_hks_BadPositions_NoEnd h_icl_NoEnd h_ty_NoEnd) (kit_refF h_ss_BadPositions h_hks_BadPositions_ZeroBottom h_icl_ZeroBottom h_ty_ZeroBottom) (kit_refF h_ss_BadPositions h_hks_BadPositions_NoChance h_icl_NoChance h_ty_NoChance) (kit_refF h_ss_BadPositions h_hks_BadPositions_BadChance h_icl_BadChance h_ty_BadChance) (kit_refF h_ss_BadPositions h_hks_BadPositions_ZeroPolynomial h_icl_ZeroPolynomial h_ty_ZeroPolynomial) (kit_refF h_ss_BadPositions h_hks_BadPositions_BadInterval h_icl_BadInterval h_ty_BadInterval) (kit_refF h_ss_BadPositions h_hks_BadPositions_NoSkip h_icl_NoSkip h_ty_NoSkip) (kit_refF h_ss_BadPositions h_hks_BadPositions_NotComing h_icl_NotComing h_ty_NotComing) (kit_refF h_ss_BadPositions h_hks_BadPositions_NoPupils h_icl_NoPupils h_ty_NoPupils) (kit_refF h_ss_BadPositions h_hks_BadPositions_BadLength h_icl_BadLength h_ty_BadLength) (kit_refF h_ss_BadPositions h_hks_BadPositions_AlikePupils h_icl_AlikePupils h_ty_AlikePupils) (kit_refF h_ss_BadPositions h_hks_BadPositions_BadLine h_icl_BadLine h_ty_BadLine) (kit_refF h_ss_BadPositions h_hks_BadPositions_Ended h_icl_Ended h_ty_Ended) (kit_refF h_ss_BadPositions h_hks_BadPositions_BadDeed h_icl_BadDeed h_ty_BadDeed) (kit_refF h_ss_NoFinal h_hks_NoFinal_BadEnds h_icl_BadEnds h_ty_BadEnds) (kit_refF h_ss_NoFinal h_hks_NoFinal_BadNode h_icl_BadNode h_ty_BadNode) (kit_refF h_ss_NoFinal h_hks_NoFinal_BadStart h_icl_BadStart h_ty_BadStart) (kit_refF h_ss_NoFinal h_hks_NoFinal_TwiceAsked h_icl_TwiceAsked h_ty_TwiceAsked) (kit_refF h_ss_NoFinal h_hks_NoFinal_NoNode h_icl_NoNode h_ty_NoNode) (kit_refF h_ss_NoFinal h_hks_NoFinal_NoPosition h_icl_NoPosition h_ty_NoPosition) (kit_refF h_ss_NoFinal h_hks_NoFinal_BadQuestion h_icl_BadQuestion h_ty_BadQuestion) (kit_refF h_ss_NoFinal h_hks_NoFinal_BadMarks h_icl_BadMarks h_ty_BadMarks) (kit_refF h_ss_NoFinal h_hks_NoFinal_BadLadder h_icl_BadLadder h_ty_BadLadder) (kit_refF h_ss_NoFinal h_hks_NoFinal_BadCount h_icl_BadCount h_ty_BadCount) (kit_refF h_ss_NoFinal h_hks_NoFinal_BadRelation h_icl_BadRelation h_ty_BadRelation) (kit_refF h_ss_NoFinal h_hks_NoFinal_BadPositions h_icl_BadPositions h_ty_BadPositions) (kit_refF h_ss_NoFinal h_hks_NoFinal_NotReached h_icl_NotReached h_ty_NotReached) (kit_refF h_ss_NoFinal h_hks_NoFinal_NoEnd h_icl_NoEnd h_ty_NoEnd) (kit_refF h_ss_NoFinal h_hks_NoFinal_ZeroBottom h_icl_ZeroBottom h_ty_ZeroBottom) (kit_refF h_ss_NoFinal h_hks_NoFinal_NoChance h_icl_NoChance h_ty_NoChance) (kit_refF h_ss_NoFinal h_hks_NoFinal_BadChance h_icl_BadChance h_ty_BadChance) (kit_refF h_ss_NoFinal h_hks_NoFinal_ZeroPolynomial h_icl_ZeroPolynomial h_ty_ZeroPolynomial) (kit_refF h_ss_NoFinal h_hks_NoFinal_BadInterval h_icl_BadInterval h_ty_BadInterval) (kit_refF h_ss_NoFinal h_hks_NoFinal_NoSkip h_icl_NoSkip h_ty_NoSkip) (kit_refF h_ss_NoFinal h_hks_NoFinal_NotComing h_icl_NotComing h_ty_NotComing) (kit_refF h_ss_NoFinal h_hks_NoFinal_NoPupils h_icl_NoPupils h_ty_NoPupils) (kit_refF h_ss_NoFinal h_hks_NoFinal_BadLength h_icl_BadLength h_ty_BadLength) (kit_refF h_ss_NoFinal h_hks_NoFinal_AlikePupils h_icl_AlikePupils h_ty_AlikePupils) (kit_refF h_ss_NoFinal h_hks_NoFinal_BadLine h_icl_BadLine h_ty_BadLine) (kit_refF h_ss_NoFinal h_hks_NoFinal_Ended h_icl_Ended h_ty_Ended) (kit_refF h_ss_NoFinal h_hks_NoFinal_BadDeed h_icl_BadDeed h_ty_BadDeed) (kit_refF h_ss_NotReached h_hks_NotReached_BadEnds h_icl_BadEnds h_ty_BadEnds) (kit_refF h_ss_NotReached h_hks_NotReached_BadNode h_icl_BadNode h_ty_BadNode) (kit_refF h_ss_NotReached h_hks_NotReached_BadStart h_icl_BadStart h_ty_BadStart) (kit_refF h_ss_NotReached h_hks_NotReached_TwiceAsked h_icl_TwiceAsked h_ty_TwiceAsked) (kit_refF h_ss_NotReached h_hks_NotReached_NoNode h_icl_NoNode h_ty_NoNode) (kit_refF h_ss_NotReached h_hks_NotReached_NoPosition h_icl_NoPosition h_ty_NoPosition) (kit_refF h_ss_NotReached h_hks_NotReached_BadQuestion h_icl_BadQuestion h_ty_BadQuestion) (kit_refF h_ss_NotReached h_hks_NotReached_BadMarks h_icl_BadMarks h_ty_BadMarks) (kit_refF h_ss_NotReached h_hks_NotReached_BadLadder h_icl_BadLadder h_ty_BadLadder) (kit_refF h_ss_NotReached h_hks_NotReached_BadCount h_icl_BadCount h_ty_BadCount) (kit_refF h_ss_NotReached h_hks_NotReached_BadRelation h_icl_BadRelation h_ty_BadRelation) (kit_refF h_ss_NotReached h_hks_NotReached_BadPositions h_icl_BadPositions h_ty_BadPositions) (kit_refF h_ss_NotReached h_hks_NotReached_NoFinal h_icl_NoFinal h_ty_NoFinal) (kit_refF h_ss_NotReached h_hks_NotReached_NoEnd h_icl_NoEnd h_ty_NoEnd) (kit_refF h_ss_NotReached h_hks_NotReached_ZeroBottom h_icl_ZeroBottom h_ty_ZeroBottom) (kit_refF h_ss_NotReached h_hks_NotReached_NoChance h_icl_NoChance h_ty_NoChance) (kit_refF h_ss_NotReached h_hks_NotReached_BadChance h_icl_BadChance h_ty_BadChance) (kit_refF h_ss_NotReached h_hks_NotReached_ZeroPolynomial h_icl_ZeroPolynomial h_ty_ZeroPolynomial) (kit_refF h_ss_NotReached h_hks_NotReached_BadInterval h_icl_BadInterval h_ty_BadInterval) (kit_refF h_ss_NotReached h_hks_NotReached_NoSkip h_icl_NoSkip h_ty_NoSkip) (kit_refF h_ss_NotReached h_hks_NotReached_NotComing h_icl_NotComing h_ty_NotComing) (kit_refF h_ss_NotReached h_hks_NotReached_NoPupils h_icl_NoPupils h_ty_NoPupils) (kit_refF h_ss_NotReached h_hks_NotReached_BadLength h_icl_BadLength h_ty_BadLength) (kit_refF h_ss_NotReached h_hks_NotReached_AlikePupils h_icl_AlikePupils h_ty_AlikePupils) (kit_refF h_ss_NotReached h_hks_NotReached_BadLine h_icl_BadLine h_ty_BadLine) (kit_refF h_ss_NotReached h_hks_NotReached_Ended h_icl_Ended h_ty_Ended) (kit_refF h_ss_NotReached h_hks_NotReached_BadDeed h_icl_BadDeed h_ty_BadDeed) (kit_refF h_ss_NoEnd h_hks_NoEnd_BadEnds h_icl_BadEnds h_ty_BadEnds) (kit_refF h_ss_NoEnd h_hks_NoEnd_BadNode h_icl_BadNode h_ty_BadNode) (kit_refF h_ss_NoEnd h_hks_NoEnd_BadStart h_icl_BadStart h_ty_BadStart) (kit_refF h_ss_NoEnd h_hks_NoEnd_TwiceAsked h_icl_TwiceAsked h_ty_TwiceAsked) (kit_refF h_ss_NoEnd h_hks_NoEnd_NoNode h_icl_NoNode h_ty_NoNode) (kit_refF h_ss_NoEnd h_hks_NoEnd_NoPosition h_icl_NoPosition h_ty_NoPosition) (kit_refF h_ss_NoEnd h_hks_NoEnd_BadQuestion h_icl_BadQuestion h_ty_BadQuestion) (kit_refF h_ss_NoEnd h_hks_NoEnd_BadMarks h_icl_BadMarks h_ty_BadMarks) (kit_refF h_ss_NoEnd h_hks_NoEnd_BadLadder h_icl_BadLadder h_ty_BadLadder) (kit_refF h_ss_NoEnd h_hks_NoEnd_BadCount h_icl_BadCount h_ty_BadCount) (kit_refF h_ss_NoEnd h_hks_NoEnd_BadRelation h_icl_BadRelation h_ty_BadRelation) (kit_refF h_ss_NoEnd h_hks_NoEnd_BadPositions h_icl_BadPositions h_ty_BadPositions) (kit_refF h_ss_NoEnd h_hks_NoEnd_NoFinal h_icl_NoFinal h_ty_NoFinal) (kit_refF h_ss_NoEnd h_hks_NoEnd_NotReached h_icl_NotReached h_ty_NotReached) (kit_refF h_ss_NoEnd h_hks_NoEnd_ZeroBottom h_icl_ZeroBottom h_ty_ZeroBottom) (kit_refF h_ss_NoEnd h_hks_NoEnd_NoChance h_icl_NoChance h_ty_NoChance) (kit_refF h_ss_NoEnd h_hks_NoEnd_BadChance h_icl_BadChance h_ty_BadChance) (kit_refF h_ss_NoEnd h_hks_NoEnd_ZeroPolynomial h_icl_ZeroPolynomial h_ty_ZeroPolynomial) (kit_refF h_ss_NoEnd h_hks_NoEnd_BadInterval h_icl_BadInterval h_ty_BadInterval) (kit_refF h_ss_NoEnd h_hks_NoEnd_NoSkip h_icl_NoSkip h_ty_NoSkip) (kit_refF h_ss_NoEnd h_hks_NoEnd_NotComing h_icl_NotComing h_ty_NotComing) (kit_refF h_ss_NoEnd h_hks_NoEnd_NoPupils h_icl_NoPupils h_ty_NoPupils) (kit_refF h_ss_NoEnd h_hks_NoEnd_BadLength h_icl_BadLength h_ty_BadLength) (kit_refF h_ss_NoEnd h_hks_NoEnd_AlikePupils h_icl_AlikePupils h_ty_AlikePupils) (kit_refF h_ss_NoEnd h_hks_NoEnd_BadLine h_icl_BadLine h_ty_BadLine) (kit_refF h_ss_NoEnd h_hks_NoEnd_Ended h_icl_Ended h_ty_Ended) (kit_refF h_ss_NoEnd h_hks_NoEnd_BadDeed h_icl_BadDeed h_ty_BadDeed) (kit_refF h_ss_ZeroBottom h_hks_ZeroBottom_BadEnds h_icl_BadEnds h_ty_BadEnds) (kit_refF h_ss_ZeroBottom h_hks_ZeroBottom_BadNode h_icl_BadNode h_ty_BadNode) (kit_refF h_ss_ZeroBottom h_hks_ZeroBottom_BadStart h_icl_BadStart h_ty_BadStart) (kit_refF h_ss_ZeroBottom h_hks_ZeroBottom_TwiceAsked h_icl_TwiceAsked h_ty_TwiceAsked) (kit_refF h_ss_ZeroBottom h_hks_ZeroBottom_NoNode h_icl_NoNode h_ty_NoNode) (kit_refF h_ss_ZeroBottom h_hks_ZeroBottom_NoPosition h_icl_NoPosition h_ty_NoPosition) (kit_refF h_ss_ZeroBottom h_hks_ZeroBottom_BadQuestion h_icl_BadQuestion h_ty_BadQuestion) (kit_refF h_ss_ZeroBottom h_hks_ZeroBottom_BadMarks h_icl_BadMarks h_ty_BadMarks) (kit_refF h_ss_ZeroBottom h_hks_ZeroBottom_BadLadder h_icl_BadLadder h_ty_BadLadder) (kit_refF h_ss_ZeroBottom h_hks_ZeroBottom_BadCount h_icl_BadCount h_ty_BadCount) (kit_refF h_ss_ZeroBottom h_hks_ZeroBottom_BadRelation h_icl_BadRelation h_ty_BadRelation) (kit_refF h_ss_ZeroBottom h_hks_ZeroBottom_BadPositions h_icl_BadPositions h_ty_BadPositions) (kit_refF h_ss_ZeroBottom h_hks_ZeroBottom_NoFinal h_icl_NoFinal h_ty_NoFinal) (kit_refF h_ss_ZeroBottom h_hks_ZeroBottom_NotReached h_icl_NotReached h_ty_NotReached) (kit_refF h_ss_ZeroBottom h_hks_ZeroBottom_NoEnd h_icl_NoEnd h_ty_NoEnd) (kit_refF h_ss_ZeroBottom h_hks_ZeroBottom_NoChance h_icl_NoChance h_ty_NoChance) (kit_refF h_ss_ZeroBottom h_hks_ZeroBottom_BadChance h_icl_BadChance h_ty_BadChance) (kit_refF h_ss_ZeroBottom h_hks_ZeroBottom_ZeroPolynomial h_icl_ZeroPolynomial h_ty_ZeroPolynomial) (kit_refF h_ss_ZeroBottom h_hks_ZeroBottom_BadInterval h_icl_BadInterval h_ty_BadInterval) (kit_refF h_ss_ZeroBottom h_hks_ZeroBottom_NoSkip h_icl_NoSkip h_ty_NoSkip) (kit_refF h_ss_ZeroBottom h_hks_ZeroBottom_NotComing h_icl_NotComing h_ty_NotComing) (kit_refF h_ss_ZeroBottom h_hks_ZeroBottom_NoPupils h_icl_NoPupils h_ty_NoPupils) (kit_refF h_ss_ZeroBottom h_hks_ZeroBottom_BadLength h_icl_BadLength h_ty_BadLength) (kit_refF h_ss_ZeroBottom h_hks_ZeroBottom_AlikePupils h_icl_AlikePupils h_ty_AlikePupils) (kit_refF h_ss_ZeroBottom h_hks_ZeroBottom_BadLine h_icl_BadLine h_ty_BadLine) (kit_refF h_ss_ZeroBottom h_hks_ZeroBottom_Ended h_icl_Ended h_ty_Ended) (kit_refF h_ss_ZeroBottom h_hks_ZeroBottom_BadDeed h_icl_BadDeed h_ty_BadDeed) (kit_refF h_ss_NoChance h_hks_NoChance_BadEnds h_icl_BadEnds h_ty_BadEnds) (kit_refF h_ss_NoChance h_hks_NoChance_BadNode h_icl_BadNode h_ty_BadNode) (kit_refF h_ss_NoChance h_hks_NoChance_BadStart h_icl_BadStart h_ty_BadStart) (kit_refF h_ss_NoChance h_hks_NoChance_TwiceAsked h_icl_TwiceAsked h_ty_TwiceAsked) (kit_refF h_ss_NoChance h_hks_NoChance_NoNode h_icl_NoNode h_ty_NoNode) (kit_refF h_ss_NoChance h_hks_NoChance_NoPosition h_icl_NoPosition h_ty_NoPosition) (kit_refF h_ss_NoChance h_hks_NoChance_BadQuestion h_icl_BadQuestion h_ty_BadQuestion) (kit_refF h_ss_NoChance h_hks_NoChance_BadMarks h_icl_BadMarks h_ty_BadMarks) (kit_refF h_ss_NoChance h_hks_NoChance_BadLadder h_icl_BadLadder h_ty_BadLadder) (kit_refF h_ss_NoChance h_hks_NoChance_BadCount h_icl_BadCount h_ty_BadCount) (kit_refF h_ss_NoChance h_hks_NoChance_BadRelation h_icl_BadRelation h_ty_BadRelation) (kit_refF h_ss_NoChance h_hks_NoChance_BadPositions h_icl_BadPositions h_ty_BadPositions) (kit_refF h_ss_NoChance h_hks_NoChance_NoFinal h_icl_NoFinal h_ty_NoFinal) (kit_refF h_ss_NoChance h_hks_NoChance_NotReached h_icl_NotReached h_ty_NotReached) (kit_refF h_ss_NoChance h_hks_NoChance_NoEnd h_icl_NoEnd h_ty_NoEnd) (kit_refF h_ss_NoChance h_hks_NoChance_ZeroBottom h_icl_ZeroBottom h_ty_ZeroBottom) (kit_refF h_ss_NoChance h_hks_NoChance_BadChance h_icl_BadChance h_ty_BadChance) (kit_refF h_ss_NoChance h_hks_NoChance_ZeroPolynomial h_icl_ZeroPolynomial h_ty_ZeroPolynomial) (kit_refF h_ss_NoChance h_hks_NoChance_BadInterval h_icl_BadInterval h_ty_BadInterval) (kit_refF h_ss_NoChance h_hks_NoChance_NoSkip h_icl_NoSkip h_ty_NoSkip) (kit_refF h_ss_NoChance h_hks_NoChance_NotComing h_icl_NotComing h_ty_NotComing) (kit_refF h_ss_NoChance h_hks_NoChance_NoPupils h_icl_NoPupils h_ty_NoPupils) (kit_refF h_ss_NoChance h_hks_NoChance_BadLength h_icl_BadLength h_ty_BadLength) (kit_refF h_ss_NoChance h_hks_NoChance_AlikePupils h_icl_AlikePupils h_ty_AlikePupils) (kit_refF h_ss_NoChance h_hks_NoChance_BadLine h_icl_BadLine h_ty_BadLine) (kit_refF h_ss_NoChance h_hks_NoChance_Ended h_icl_Ended h_ty_Ended) (kit_refF h_ss_NoChance h_hks_NoChance_BadDeed h_icl_BadDeed h_ty_BadDeed) (kit_refF h_ss_BadChance h_hks_BadChance_BadEnds h_icl_BadEnds h_ty_BadEnds) (kit_refF h_ss_BadChance h_hks_BadChance_BadNode h_icl_BadNode h_ty_BadNode) (kit_refF h_ss_BadChance h_hks_BadChance_BadStart h_icl_BadStart h_ty_BadStart) (kit_refF h_ss_BadChance h_hks_BadChance_TwiceAsked h_icl_TwiceAsked h_ty_TwiceAsked) (kit_refF h_ss_BadChance h_hks_BadChance_NoNode h_icl_NoNode h_ty_NoNode) (kit_refF h_ss_BadChance h_hks_BadChance_NoPosition h_icl_NoPosition h_ty_NoPosition) (kit_refF h_ss_BadChance h_hks_BadChance_BadQuestion h_icl_BadQuestion h_ty_BadQuestion) (kit_refF h_ss_BadChance h_hks_BadChance_BadMarks h_icl_BadMarks h_ty_BadMarks) (kit_refF h_ss_BadChance h_hks_BadChance_BadLadder h_icl_BadLadder h_ty_BadLadder) (kit_refF h_ss_BadChance h_hks_BadChance_BadCount h_icl_BadCount h_ty_BadCount) (kit_refF h_ss_BadChance h_hks_BadChance_BadRelation h_icl_BadRelation h_ty_BadRelation) (kit_refF h_ss_BadChance h_hks_BadChance_BadPositions h_icl_BadPositions h_ty_BadPositions) (kit_refF h_ss_BadChance h_hks_BadChance_NoFinal h_icl_NoFinal h_ty_NoFinal) (kit_refF h_ss_BadChance h_hks_BadChance_NotReached h_icl_NotReached h_ty_NotReached) (kit_refF h_ss_BadChance h_hks_BadChance_NoEnd h_icl_NoEnd h_ty_NoEnd) (kit_refF h_ss_BadChance h_hks_BadChance_ZeroBottom h_icl_ZeroBottom h_ty_ZeroBottom) (kit_refF h_ss_BadChance h_hks_BadChance_NoChance h_icl_NoChance h_ty_NoChance) (kit_refF h_ss_BadChance h_hks_BadChance_ZeroPolynomial h_icl_ZeroPolynomial h_ty_ZeroPolynomial) (kit_refF h_ss_BadChance h_hks_BadChance_BadInterval h_icl_BadInterval h_ty_BadInterval) (kit_refF h_ss_BadChance h_hks_BadChance_NoSkip h_icl_NoSkip h_ty_NoSkip) (kit_refF h_ss_BadChance h_hks_BadChance_NotComing h_icl_NotComing h_ty_NotComing) (kit_refF h_ss_BadChance h_hks_BadChance_NoPupils h_icl_NoPupils h_ty_NoPupils) (kit_refF h_ss_BadChance h_hks_BadChance_BadLength h_icl_BadLength h_ty_BadLength) (kit_refF h_ss_BadChance h_hks_BadChance_AlikePupils h_icl_AlikePupils h_ty_AlikePupils) (kit_refF h_ss_BadChance h_hks_BadChance_BadLine h_icl_BadLine h_ty_BadLine) (kit_refF h_ss_BadChance h_hks_BadChance_Ended h_icl_Ended h_ty_Ended) (kit_refF h_ss_BadChance h_hks_BadChance_BadDeed h_icl_BadDeed h_ty_BadDeed) (kit_refF h_ss_ZeroPolynomial h_hks_ZeroPolynomial_BadEnds h_icl_BadEnds h_ty_BadEnds) (kit_refF h_ss_ZeroPolynomial h_hks_ZeroPolynomial_BadNode h_icl_BadNode h_ty_BadNode) (kit_refF h_ss_ZeroPolynomial h_hks_ZeroPolynomial_BadStart h_icl_BadStart h_ty_BadStart) (kit_refF h_ss_ZeroPolynomial h_hks_ZeroPolynomial_TwiceAsked h_icl_TwiceAsked h_ty_TwiceAsked) (kit_refF h_ss_ZeroPolynomial h_hks_ZeroPolynomial_NoNode h_icl_NoNode h_ty_NoNode) (kit_refF h_ss_ZeroPolynomial h_hks_ZeroPolynomial_NoPosition h_icl_NoPosition h_ty_NoPosition) (kit_refF h_ss_ZeroPolynomial h_hks_ZeroPolynomial_BadQuestion h_icl_BadQuestion h_ty_BadQuestion) (kit_refF h_ss_ZeroPolynomial h_hks_ZeroPolynomial_BadMarks h_icl_BadMarks h_ty_BadMarks) (kit_refF h_ss_ZeroPolynomial h_hks_ZeroPolynomial_BadLadder h_icl_BadLadder h_ty_BadLadder) (kit_refF h_ss_ZeroPolynomial h_hks_ZeroPolynomial_BadCount h_icl_BadCount h_ty_BadCount) (kit_refF h_ss_ZeroPolynomial h_hks_ZeroPolynomial_BadRelation h_icl_BadRelation h_ty_BadRelation) (kit_refF h_ss_ZeroPolynomial h_hks_ZeroPolynomial_BadPositions h_icl_BadPositions h_ty_BadPositions) (kit_refF h_ss_ZeroPolynomial h_hks_ZeroPolynomial_NoFinal h_icl_NoFinal h_ty_NoFinal) (kit_refF h_ss_ZeroPolynomial h_hks_ZeroPolynomial_NotReached h_icl_NotReached h_ty_NotReached) (kit_refF h_ss_ZeroPolynomial h_hks_ZeroPolynomial_NoEnd h_icl_NoEnd h_ty_NoEnd) (kit_refF h_ss_ZeroPolynomial h_hks_ZeroPolynomial_ZeroBottom h_icl_ZeroBottom h_ty_ZeroBottom) (kit_refF h_ss_ZeroPolynomial h_hks_ZeroPolynomial_NoChance h_icl_NoChance h_ty_NoChance) (kit_refF h_ss_ZeroPolynomial h_hks_ZeroPolynomial_BadChance h_icl_BadChance h_ty_BadChance) (kit_refF h_ss_ZeroPolynomial h_hks_ZeroPolynomial_BadInterval h_icl_BadInterval h_ty_BadInterval) (kit_refF h_ss_ZeroPolynomial h_hks_ZeroPolynomial_NoSkip h_icl_NoSkip h_ty_NoSkip) (kit_refF h_ss_ZeroPolynomial h_hks_ZeroPolynomial_NotComing h_icl_NotComing h_ty_NotComing) (kit_refF h_ss_ZeroPolynomial h_hks_ZeroPolynomial_NoPupils h_icl_NoPupils h_ty_NoPupils) (kit_refF h_ss_ZeroPolynomial h_hks_ZeroPolynomial_BadLength h_icl_BadLength h_ty_BadLength) (kit_refF h_ss_ZeroPolynomial h_hks_ZeroPolynomial_AlikePupils h_icl_AlikePupils h_ty_AlikePupils) (kit_refF h_ss_ZeroPolynomial h_hks_ZeroPolynomial_BadLine h_icl_BadLine h_ty_BadLine) (kit_refF h_ss_ZeroPolynomial h_hks_ZeroPolynomial_Ended h_icl_Ended h_ty_Ended) (kit_refF h_ss_ZeroPolynomial h_hks_ZeroPolynomial_BadDeed h_icl_BadDeed h_ty_BadDeed) (kit_refF h_ss_BadInterval h_hks_BadInterval_BadEnds h_icl_BadEnds h_ty_BadEnds) (kit_refF h_ss_BadInterval h_hks_BadInterval_BadNode h_icl_BadNode h_ty_BadNode) (kit_refF h_ss_BadInterval h_hks_BadInterval_BadStart h_icl_BadStart h_ty_BadStart) (kit_refF h_ss_BadInterval h_hks_BadInterval_TwiceAsked h_icl_TwiceAsked h_ty_TwiceAsked) (kit_refF h_ss_BadInterval h_hks_BadInterval_NoNode h_icl_NoNode h_ty_NoNode) (kit_refF h_ss_BadInterval h_hks_BadInterval_NoPosition h_icl_NoPosition h_ty_NoPosition) (kit_refF h_ss_BadInterval h_hks_BadInterval_BadQuestion h_icl_BadQuestion h_ty_BadQuestion) (kit_refF h_ss_BadInterval h_hks_BadInterval_BadMarks h_icl_BadMarks h_ty_BadMarks) (kit_refF h_ss_BadInterval h_hks_BadInterval_BadLadder h_icl_BadLadder h_ty_BadLadder) (kit_refF h_ss_BadInterval h_hks_BadInterval_BadCount h_icl_BadCount h_ty_BadCount) (kit_refF h_ss_BadInterval h_hks_BadInterval_BadRelation h_icl_BadRelation h_ty_BadRelation) (kit_refF h_ss_BadInterval h_hks_BadInterval_BadPositions h_icl_BadPositions h_ty_BadPositions) (kit_refF h_ss_BadInterval h_hks_BadInterval_NoFinal h_icl_NoFinal h_ty_NoFinal) (kit_refF h_ss_BadInterval h_hks_BadInterval_NotReached h_icl_NotReached h_ty_NotReached) (kit_refF h_ss_BadInterval h_hks_BadInterval_NoEnd h_icl_NoEnd h_ty_NoEnd) (kit_refF h_ss_BadInterval h_hks_BadInterval_ZeroBottom h_icl_ZeroBottom h_ty_ZeroBottom) (kit_refF h_ss_BadInterval h_hks_BadInterval_NoChance h_icl_NoChance h_ty_NoChance) (kit_refF h_ss_BadInterval h_hks_BadInterval_BadChance h_icl_BadChance h_ty_BadChance) (kit_refF h_ss_BadInterval h_hks_BadInterval_ZeroPolynomial h_icl_ZeroPolynomial h_ty_ZeroPolynomial) (kit_refF h_ss_BadInterval h_hks_BadInterval_NoSkip h_icl_NoSkip h_ty_NoSkip) (kit_refF h_ss_BadInterval h_hks_BadInterval_NotComing h_icl_NotComing h_ty_NotComing) (kit_refF h_ss_BadInterval h_hks_BadInterval_NoPupils h_icl_NoPupils h_ty_NoPupils) (kit_refF h_ss_BadInterval h_hks_BadInterval_BadLength h_icl_BadLength h_ty_BadLength) (kit_refF h_ss_BadInterval h_hks_BadInterval_AlikePupils h_icl_AlikePupils h_ty_AlikePupils) (kit_refF h_ss_BadInterval h_hks_BadInterval_BadLine h_icl_BadLine h_ty_BadLine) (kit_refF h_ss_BadInterval h_hks_BadInterval_Ended h_icl_Ended h_ty_Ended) (kit_refF h_ss_BadInterval h_hks_BadInterval_BadDeed h_icl_BadDeed h_ty_BadDeed) (kit_refF h_ss_NoSkip h_hks_NoSkip_BadEnds h_icl_BadEnds h_ty_BadEnds) (kit_refF h_ss_NoSkip h_hks_NoSkip_BadNode h_icl_BadNode h_ty_BadNode) (kit_refF h_ss_NoSkip h_hks_NoSkip_BadStart h_icl_BadStart h_ty_BadStart) (kit_refF h_ss_NoSkip h_hks_NoSkip_TwiceAsked h_icl_TwiceAsked h_ty_TwiceAsked) (kit_refF h_ss_NoSkip h_hks_NoSkip_NoNode h_icl_NoNode h_ty_NoNode) (kit_refF h_ss_NoSkip h_hks_NoSkip_NoPosition h_icl_NoPosition h_ty_NoPosition) (kit_refF h_ss_NoSkip h_hks_NoSkip_BadQuestion h_icl_BadQuestion h_ty_BadQuestion) (kit_refF h_ss_NoSkip h_hks_NoSkip_BadMarks h_icl_BadMarks h_ty_BadMarks) (kit_refF h_ss_NoSkip h_hks_NoSkip_BadLadder h_icl_BadLadder h_ty_BadLadder) (kit_refF h_ss_NoSkip h_hks_NoSkip_BadCount h_icl_BadCount h_ty_BadCount) (kit_refF h_ss_NoSkip h_hks_NoSkip_BadRelation h_icl_BadRelation h_ty_BadRelation) (kit_refF h_ss_NoSkip h_hks_NoSkip_BadPositions h_icl_BadPositions h_ty_BadPositions) (kit_refF h_ss_NoSkip h_hks_NoSkip_NoFinal h_icl_NoFinal h_ty_NoFinal) (kit_refF h_ss_NoSkip h_hks_NoSkip_NotReached h_icl_NotReached h_ty_NotReached) (kit_refF h_ss_NoSkip h_hks_NoSkip_NoEnd h_icl_NoEnd h_ty_NoEnd) (kit_refF h_ss_NoSkip h_hks_NoSkip_ZeroBottom h_icl_ZeroBottom h_ty_ZeroBottom) (kit_refF h_ss_NoSkip h_hks_NoSkip_NoChance h_icl_NoChance h_ty_NoChance) (kit_refF h_ss_NoSkip h_hks_NoSkip_BadChance h_icl_BadChance h_ty_BadChance) (kit_refF h_ss_NoSkip h_hks_NoSkip_ZeroPolynomial h_icl_ZeroPolynomial h_ty_ZeroPolynomial) (kit_refF h_ss_NoSkip h_hks_NoSkip_BadInterval h_icl_BadInterval h_ty_BadInterval) (kit_refF h_ss_NoSkip h_hks_NoSkip_NotComing h_icl_NotComing h_ty_NotComing) (kit_refF h_ss_NoSkip h_hks_NoSkip_NoPupils h_icl_NoPupils h_ty_NoPupils) (kit_refF h_ss_NoSkip h_hks_NoSkip_BadLength h_icl_BadLength h_ty_BadLength) (kit_refF h_ss_NoSkip h_hks_NoSkip_AlikePupils h_icl_AlikePupils h_ty_AlikePupils) (kit_refF h_ss_NoSkip h_hks_NoSkip_BadLine h_icl_BadLine h_ty_BadLine) (kit_refF h_ss_NoSkip h_hks_NoSkip_Ended h_icl_Ended h_ty_Ended) (kit_refF h_ss_NoSkip h_hks_NoSkip_BadDeed h_icl_BadDeed h_ty_BadDeed) (kit_refF h_ss_NotComing h_hks_NotComing_BadEnds h_icl_BadEnds h_ty_BadEnds) (kit_refF h_ss_NotComing h_hks_NotComing_BadNode h_icl_BadNode h_ty_BadNode) (kit_refF h_ss_NotComing h_hks_NotComing_BadStart h_icl_BadStart h_ty_BadStart) (kit_refF h_ss_NotComing h_hks_NotComing_TwiceAsked h_icl_TwiceAsked h_ty_TwiceAsked) (kit_refF h_ss_NotComing h_hks_NotComing_NoNode h_icl_NoNode h_ty_NoNode) (kit_refF h_ss_NotComing h_hks_NotComing_NoPosition h_icl_NoPosition h_ty_NoPosition) (kit_refF h_ss_NotComing h_hks_NotComing_BadQuestion h_icl_BadQuestion h_ty_BadQuestion) (kit_refF h_ss_NotComing h_hks_NotComing_BadMarks h_icl_BadMarks h_ty_BadMarks) (kit_refF h_ss_NotComing h_hks_NotComing_BadLadder h_icl_BadLadder h_ty_BadLadder) (kit_refF h_ss_NotComing h_hks_NotComing_BadCount h_icl_BadCount h_ty_BadCount) (kit_refF h_ss_NotComing h_hks_NotComing_BadRelation h_icl_BadRelation h_ty_BadRelation) (kit_refF h_ss_NotComing h_hks_NotComing_BadPositions h_icl_BadPositions h_ty_BadPositions) (kit_refF h_ss_NotComing h_hks_NotComing_NoFinal h_icl_NoFinal h_ty_NoFinal) (kit_refF h_ss_NotComing h_hks_NotComing_NotReached h_icl_NotReached h_ty_NotReached) (kit_refF h_ss_NotComing h_hks_NotComing_NoEnd h_icl_NoEnd h_ty_NoEnd) (kit_refF h_ss_NotComing h_hks_NotComing_ZeroBottom h_icl_ZeroBottom h_ty_ZeroBottom) (kit_refF h_ss_NotComing h_hks_NotComing_NoChance h_icl_NoChance h_ty_NoChance) (kit_refF h_ss_NotComing h_hks_NotComing_BadChance h_icl_BadChance h_ty_BadChance) (kit_refF h_ss_NotComing h_hks_NotComing_ZeroPolynomial h_icl_ZeroPolynomial h_ty_ZeroPolynomial) (kit_refF h_ss_NotComing h_hks_NotComing_BadInterval h_icl_BadInterval h_ty_BadInterval) (kit_refF h_ss_NotComing h_hks_NotComing_NoSkip h_icl_NoSkip h_ty_NoSkip) (kit_refF h_ss_NotComing h_hks_NotComing_NoPupils h_icl_NoPupils h_ty_NoPupils) (kit_refF h_ss_NotComing h_hks_NotComing_BadLength h_icl_BadLength h_ty_BadLength) (kit_refF h_ss_NotComing h_hks_NotComing_AlikePupils h_icl_AlikePupils h_ty_AlikePupils) (kit_refF h_ss_NotComing h_hks_NotComing_BadLine h_icl_BadLine h_ty_BadLine) (kit_refF h_ss_NotComing h_hks_NotComing_Ended h_icl_Ended h_ty_Ended) (kit_refF h_ss_NotComing h_hks_NotComing_BadDeed h_icl_BadDeed h_ty_BadDeed) (kit_refF h_ss_NoPupils h_hks_NoPupils_BadEnds h_icl_BadEnds h_ty_BadEnds) (kit_refF h_ss_NoPupils h_hks_NoPupils_BadNode h_icl_BadNode h_ty_BadNode) (kit_refF h_ss_NoPupils h_hks_NoPupils_BadStart h_icl_BadStart h_ty_BadStart) (kit_refF h_ss_NoPupils h_hks_NoPupils_TwiceAsked h_icl_TwiceAsked h_ty_TwiceAsked) (kit_refF h_ss_NoPupils h_hks_NoPupils_NoNode h_icl_NoNode h_ty_NoNode) (kit_refF h_ss_NoPupils h_hks_NoPupils_NoPosition h_icl_NoPosition h_ty_NoPosition) (kit_refF h_ss_NoPupils h_hks_NoPupils_BadQuestion h_icl_BadQuestion h_ty_BadQuestion) (kit_refF h_ss_NoPupils h_hks_NoPupils_BadMarks h_icl_BadMarks h_ty_BadMarks) (kit_refF h_ss_NoPupils h_hks_NoPupils_BadLadder h_icl_BadLadder h_ty_BadLadder) (kit_refF h_ss_NoPupils h_hks_NoPupils_BadCount h_icl_BadCount h_ty_BadCount) (kit_refF h_ss_NoPupils h_hks_NoPupils_BadRelation h_icl_BadRelation h_ty_BadRelation) (kit_refF h_ss_NoPupils h_hks_NoPupils_BadPositions h_icl_BadPositions h_ty_BadPositions) (kit_refF h_ss_NoPupils h_hks_NoPupils_NoFinal h_icl_NoFinal h_ty_NoFinal) (kit_refF h_ss_NoPupils h_hks_NoPupils_NotReached h_icl_NotReached h_ty_NotReached) (kit_refF h_ss_NoPupils h_hks_NoPupils_NoEnd h_icl_NoEnd h_ty_NoEnd) (kit_refF h_ss_NoPupils h_hks_NoPupils_ZeroBottom h_icl_ZeroBottom h_ty_ZeroBottom) (kit_refF h_ss_NoPupils h_hks_NoPupils_NoChance h_icl_NoChance h_ty_NoChance) (kit_refF h_ss_NoPupils h_hks_NoPupils_BadChance h_icl_BadChance h_ty_BadChance) (kit_refF h_ss_NoPupils h_hks_NoPupils_ZeroPolynomial h_icl_ZeroPolynomial h_ty_ZeroPolynomial) (kit_refF h_ss_NoPupils h_hks_NoPupils_BadInterval h_icl_BadInterval h_ty_BadInterval) (kit_refF h_ss_NoPupils h_hks_NoPupils_NoSkip h_icl_NoSkip h_ty_NoSkip) (kit_refF h_ss_NoPupils h_hks_NoPupils_NotComing h_icl_NotComing h_ty_NotComing) (kit_refF h_ss_NoPupils h_hks_NoPupils_BadLength h_icl_BadLength h_ty_BadLength) (kit_refF h_ss_NoPupils h_hks_NoPupils_AlikePupils h_icl_AlikePupils h_ty_AlikePupils) (kit_refF h_ss_NoPupils h_hks_NoPupils_BadLine h_icl_BadLine h_ty_BadLine) (kit_refF h_ss_NoPupils h_hks_NoPupils_Ended h_icl_Ended h_ty_Ended) (kit_refF h_ss_NoPupils h_hks_NoPupils_BadDeed h_icl_BadDeed h_ty_BadDeed) (kit_refF h_ss_BadLength h_hks_BadLength_BadEnds h_icl_BadEnds h_ty_BadEnds) (kit_refF h_ss_BadLength h_hks_BadLength_BadNode h_icl_BadNode h_ty_BadNode) (kit_refF h_ss_BadLength h_hks_BadLength_BadStart h_icl_BadStart h_ty_BadStart) (kit_refF h_ss_BadLength h_hks_BadLength_TwiceAsked h_icl_TwiceAsked h_ty_TwiceAsked) (kit_refF h_ss_BadLength h_hks_BadLength_NoNode h_icl_NoNode h_ty_NoNode) (kit_refF h_ss_BadLength h_hks_BadLength_NoPosition h_icl_NoPosition h_ty_NoPosition) (kit_refF h_ss_BadLength h_hks_BadLength_BadQuestion h_icl_BadQuestion h_ty_BadQuestion) (kit_refF h_ss_BadLength h_hks_BadLength_BadMarks h_icl_BadMarks h_ty_BadMarks) (kit_refF h_ss_BadLength h_hks_BadLength_BadLadder h_icl_BadLadder h_ty_BadLadder) (kit_refF h_ss_BadLength h_hks_BadLength_BadCount h_icl_BadCount h_ty_BadCount) (kit_refF h_ss_BadLength h_hks_BadLength_BadRelation h_icl_BadRelation h_ty_BadRelation) (kit_refF h_ss_BadLength h_hks_BadLength_BadPositions h_icl_BadPositions h_ty_BadPositions) (kit_refF h_ss_BadLength h_hks_BadLength_NoFinal h_icl_NoFinal h_ty_NoFinal) (kit_refF h_ss_BadLength h_hks_BadLength_NotReached h_icl_NotReached h_ty_NotReached) (kit_refF h_ss_BadLength h_hks_BadLength_NoEnd h_icl_NoEnd h_ty_NoEnd) (kit_refF h_ss_BadLength h_hks_BadLength_ZeroBottom h_icl_ZeroBottom h_ty_ZeroBottom) (kit_refF h_ss_BadLength h_hks_BadLength_NoChance h_icl_NoChance h_ty_NoChance) (kit_refF h_ss_BadLength h_hks_BadLength_BadChance h_icl_BadChance h_ty_BadChance) (kit_refF h_ss_BadLength h_hks_BadLength_ZeroPolynomial h_icl_ZeroPolynomial h_ty_ZeroPolynomial) (kit_refF h_ss_BadLength h_hks_BadLength_BadInterval h_icl_BadInterval h_ty_BadInterval) (kit_refF h_ss_BadLength h_hks_BadLength_NoSkip h_icl_NoSkip h_ty_NoSkip) (kit_refF h_ss_BadLength h_hks_BadLength_NotComing h_icl_NotComing h_ty_NotComing) (kit_refF h_ss_BadLength h_hks_BadLength_NoPupils h_icl_NoPupils h_ty_NoPupils) (kit_refF h_ss_BadLength h_hks_BadLength_AlikePupils h_icl_AlikePupils h_ty_AlikePupils) (kit_refF h_ss_BadLength h_hks_BadLength_BadLine h_icl_BadLine h_ty_BadLine) (kit_refF h_ss_BadLength h_hks_BadLength_Ended h_icl_Ended h_ty_Ended) (kit_refF h_ss_BadLength h_hks_BadLength_BadDeed h_icl_BadDeed h_ty_BadDeed) (kit_refF h_ss_AlikePupils h_hks_AlikePupils_BadEnds h_icl_BadEnds h_ty_BadEnds) (kit_refF h_ss_AlikePupils h_hks_AlikePupils_BadNode h_icl_BadNode h_ty_BadNode) (kit_refF h_ss_AlikePupils h_hks_AlikePupils_BadStart h_icl_BadStart h_ty_BadStart) (kit_refF h_ss_AlikePupils h_hks_AlikePupils_TwiceAsked h_icl_TwiceAsked h_ty_TwiceAsked) (kit_refF h_ss_AlikePupils h_hks_AlikePupils_NoNode h_icl_NoNode h_ty_NoNode) (kit_refF h_ss_AlikePupils h_hks_AlikePupils_NoPosition h_icl_NoPosition h_ty_NoPosition) (kit_refF h_ss_AlikePupils h_hks_AlikePupils_BadQuestion h_icl_BadQuestion h_ty_BadQuestion) (kit_refF h_ss_AlikePupils h_hks_AlikePupils_BadMarks h_icl_BadMarks h_ty_BadMarks) (kit_refF h_ss_AlikePupils h_hks_AlikePupils_BadLadder h_icl_BadLadder h_ty_BadLadder) (kit_refF h_ss_AlikePupils h_hks_AlikePupils_BadCount h_icl_BadCount h_ty_BadCount) (kit_refF h_ss_AlikePupils h_hks_AlikePupils_BadRelation h_icl_BadRelation h_ty_BadRelation) (kit_refF h_ss_AlikePupils h_hks_AlikePupils_BadPositions h_icl_BadPositions h_ty_BadPositions) (kit_refF h_ss_AlikePupils h_hks_AlikePupils_NoFinal h_icl_NoFinal h_ty_NoFinal) (kit_refF h_ss_AlikePupils h_hks_AlikePupils_NotReached h_icl_NotReached h_ty_NotReached) (kit_refF h_ss_AlikePupils h_hks_AlikePupils_NoEnd h_icl_NoEnd h_ty_NoEnd) (kit_refF h_ss_AlikePupils h_hks_AlikePupils_ZeroBottom h_icl_ZeroBottom h_ty_ZeroBottom) (kit_refF h_ss_AlikePupils h_hks_AlikePupils_NoChance h_icl_NoChance h_ty_NoChance) (kit_refF h_ss_AlikePupils h_hks_AlikePupils_BadChance h_icl_BadChance h_ty_BadChance) (kit_refF h_ss_AlikePupils h_hks_AlikePupils_ZeroPolynomial h_icl_ZeroPolynomial h_ty_ZeroPolynomial) (kit_refF h_ss_AlikePupils h_hks_AlikePupils_BadInterval h_icl_BadInterval h_ty_BadInterval) (kit_refF h_ss_AlikePupils h_hks_AlikePupils_NoSkip h_icl_NoSkip h_ty_NoSkip) (kit_refF h_ss_AlikePupils h_hks_AlikePupils_NotComing h_icl_NotComing h_ty_NotComing) (kit_refF h_ss_AlikePupils h_hks_AlikePupils_NoPupils h_icl_NoPupils h_ty_NoPupils) (kit_refF h_ss_AlikePupils h_hks_AlikePupils_BadLength h_icl_BadLength h_ty_BadLength) (kit_refF h_ss_AlikePupils h_hks_AlikePupils_BadLine h_icl_BadLine h_ty_BadLine) (kit_refF h_ss_AlikePupils h_hks_AlikePupils_Ended h_icl_Ended h_ty_Ended) (kit_refF h_ss_AlikePupils h_hks_AlikePupils_BadDeed h_icl_BadDeed h_ty_BadDeed) (kit_refF h_ss_BadLine h_hks_BadLine_BadEnds h_icl_BadEnds h_ty_BadEnds) (kit_refF h_ss_BadLine h_hks_BadLine_BadNode h_icl_BadNode h_ty_BadNode) (kit_refF h_ss_BadLine h_hks_BadLine_BadStart h_icl_BadStart h_ty_BadStart) (kit_refF h_ss_BadLine h_hks_BadLine_TwiceAsked h_icl_TwiceAsked h_ty_TwiceAsked) (kit_refF h_ss_BadLine h_hks_BadLine_NoNode h_icl_NoNode h_ty_NoNode) (kit_refF h_ss_BadLine h_hks_BadLine_NoPosition h_icl_NoPosition h_ty_NoPosition) (kit_refF h_ss_BadLine h_hks_BadLine_BadQuestion h_icl_BadQuestion h_ty_BadQuestion) (kit_refF h_ss_BadLine h_hks_BadLine_BadMarks h_icl_BadMarks h_ty_BadMarks) (kit_refF h_ss_BadLine h_hks_BadLine_BadLadder h_icl_BadLadder h_ty_BadLadder) (kit_refF h_ss_BadLine h_hks_BadLine_BadCount h_icl_BadCount h_ty_BadCount) (kit_refF h_ss_BadLine h_hks_BadLine_BadRelation h_icl_BadRelation h_ty_BadRelation) (kit_refF h_ss_BadLine h_hks_BadLine_BadPositions h_icl_BadPositions h_ty_BadPositions) (kit_refF h_ss_BadLine h_hks_BadLine_NoFinal h_icl_NoFinal h_ty_NoFinal) (kit_refF h_ss_BadLine h_hks_BadLine_NotReached h_icl_NotReached h_ty_NotReached) (kit_refF h_ss_BadLine h_hks_BadLine_NoEnd h_icl_NoEnd h_ty_NoEnd) (kit_refF h_ss_BadLine h_hks_BadLine_ZeroBottom h_icl_ZeroBottom h_ty_ZeroBottom) (kit_refF h_ss_BadLine h_hks_BadLine_NoChance h_icl_NoChance h_ty_NoChance) (kit_refF h_ss_BadLine h_hks_BadLine_BadChance h_icl_BadChance h_ty_BadChance) (kit_refF h_ss_BadLine h_hks_BadLine_ZeroPolynomial h_icl_ZeroPolynomial h_ty_ZeroPolynomial) (kit_refF h_ss_BadLine h_hks_BadLine_BadInterval h_icl_BadInterval h_ty_BadInterval) (kit_refF h_ss_BadLine h_hks_BadLine_NoSkip h_icl_NoSkip h_ty_NoSkip) (kit_refF h_ss_BadLine h_hks_BadLine_NotComing h_icl_NotComing h_ty_NotComing) (kit_refF h_ss_BadLine h_hks_BadLine_NoPupils h_icl_NoPupils h_ty_NoPupils) (kit_refF h_ss_BadLine h_hks_BadLine_BadLength h_icl_BadLength h_ty_BadLength) (kit_refF h_ss_BadLine h_hks_BadLine_AlikePupils h_icl_AlikePupils h_ty_AlikePupils) (kit_refF h_ss_BadLine h_hks_BadLine_Ended h_icl_Ended h_ty_Ended) (kit_refF h_ss_BadLine h_hks_BadLine_BadDeed h_icl_BadDeed h_ty_BadDeed) (kit_refF h_ss_Ended h_hks_Ended_BadEnds h_icl_BadEnds h_ty_BadEnds) (kit_refF h_ss_Ended h_hks_Ended_BadNode h_icl_BadNode h_ty_BadNode) (kit_refF h_ss_Ended h_hks_Ended_BadStart h_icl_BadStart h_ty_BadStart) (kit_refF h_ss_Ended h_hks_Ended_TwiceAsked h_icl_TwiceAsked h_ty_TwiceAsked) (kit_refF h_ss_Ended h_hks_Ended_NoNode h_icl_NoNode h_ty_NoNode) (kit_refF h_ss_Ended h_hks_Ended_NoPosition h_icl_NoPosition h_ty_NoPosition) (kit_refF h_ss_Ended h_hks_Ended_BadQuestion h_icl_BadQuestion h_ty_BadQuestion) (kit_refF h_ss_Ended h_hks_Ended_BadMarks h_icl_BadMarks h_ty_BadMarks) (kit_refF h_ss_Ended h_hks_Ended_BadLadder h_icl_BadLadder h_ty_BadLadder) (kit_refF h_ss_Ended h_hks_Ended_BadCount h_icl_BadCount h_ty_BadCount) (kit_refF h_ss_Ended h_hks_Ended_BadRelation h_icl_BadRelation h_ty_BadRelation) (kit_refF h_ss_Ended h_hks_Ended_BadPositions h_icl_BadPositions h_ty_BadPositions) (kit_refF h_ss_Ended h_hks_Ended_NoFinal h_icl_NoFinal h_ty_NoFinal) (kit_refF h_ss_Ended h_hks_Ended_NotReached h_icl_NotReached h_ty_NotReached) (kit_refF h_ss_Ended h_hks_Ended_NoEnd h_icl_NoEnd h_ty_NoEnd) (kit_refF h_ss_Ended h_hks_Ended_ZeroBottom h_icl_ZeroBottom h_ty_ZeroBottom) (kit_refF h_ss_Ended h_hks_Ended_NoChance h_icl_NoChance h_ty_NoChance) (kit_refF h_ss_Ended h_hks_Ended_BadChance h_icl_BadChance h_ty_BadChance) (kit_refF h_ss_Ended h_hks_Ended_ZeroPolynomial h_icl_ZeroPolynomial h_ty_ZeroPolynomial) (kit_refF h_ss_Ended h_hks_Ended_BadInterval h_icl_BadInterval h_ty_BadInterval) (kit_refF h_ss_Ended h_hks_Ended_NoSkip h_icl_NoSkip h_ty_NoSkip) (kit_refF h_ss_Ended h_hks_Ended_NotComing h_icl_NotComing h_ty_NotComing) (kit_refF h_ss_Ended h_hks_Ended_NoPupils h_icl_NoPupils h_ty_NoPupils) (kit_refF h_ss_Ended h_hks_Ended_BadLength h_icl_BadLength h_ty_BadLength) (kit_refF h_ss_Ended h_hks_Ended_AlikePupils h_icl_AlikePupils h_ty_AlikePupils) (kit_refF h_ss_Ended h_hks_Ended_BadLine h_icl_BadLine h_ty_BadLine) (kit_refF h_ss_Ended h_hks_Ended_BadDeed h_icl_BadDeed h_ty_BadDeed) (kit_refF h_ss_BadDeed h_hks_BadDeed_BadEnds h_icl_BadEnds h_ty_BadEnds) (kit_refF h_ss_BadDeed h_hks_BadDeed_BadNode h_icl_BadNode h_ty_BadNode) (kit_refF h_ss_BadDeed h_hks_BadDeed_BadStart h_icl_BadStart h_ty_BadStart) (kit_refF h_ss_BadDeed h_hks_BadDeed_TwiceAsked h_icl_TwiceAsked h_ty_TwiceAsked) (kit_refF h_ss_BadDeed h_hks_BadDeed_NoNode h_icl_NoNode h_ty_NoNode) (kit_refF h_ss_BadDeed h_hks_BadDeed_NoPosition h_icl_NoPosition h_ty_NoPosition) (kit_refF h_ss_BadDeed h_hks_BadDeed_BadQuestion h_icl_BadQuestion h_ty_BadQuestion) (kit_refF h_ss_BadDeed h_hks_BadDeed_BadMarks h_icl_BadMarks h_ty_BadMarks) (kit_refF h_ss_BadDeed h_hks_BadDeed_BadLadder h_icl_BadLadder h_ty_BadLadder) (kit_refF h_ss_BadDeed h_hks_BadDeed_BadCount h_icl_BadCount h_ty_BadCount) (kit_refF h_ss_BadDeed h_hks_BadDeed_BadRelation h_icl_BadRelation h_ty_BadRelation) (kit_refF h_ss_BadDeed h_hks_BadDeed_BadPositions h_icl_BadPositions h_ty_BadPositions) (kit_refF h_ss_BadDeed h_hks_BadDeed_NoFinal h_icl_NoFinal h_ty_NoFinal) (kit_refF h_ss_BadDeed h_hks_BadDeed_NotReached h_icl_NotReached h_ty_NotReached) (kit_refF h_ss_BadDeed h_hks_BadDeed_NoEnd h_icl_NoEnd h_ty_NoEnd) (kit_refF h_ss_BadDeed h_hks_BadDeed_ZeroBottom h_icl_ZeroBottom h_ty_ZeroBottom) (kit_refF h_ss_BadDeed h_hks_BadDeed_NoChance h_icl_NoChance h_ty_NoChance) (kit_refF h_ss_BadDeed h_hks_BadDeed_BadChance h_icl_BadChance h_ty_BadChance) (kit_refF h_ss_BadDeed h_hks_BadDeed_ZeroPolynomial h_icl_ZeroPolynomial h_ty_ZeroPolynomial) (kit_refF h_ss_BadDeed h_hks_BadDeed_BadInterval h_icl_BadInterval h_ty_BadInterval) (kit_refF h_ss_BadDeed h_hks_BadDeed_NoSkip h_icl_NoSkip h_ty_NoSkip) (kit_refF h_ss_BadDeed h_hks_BadDeed_NotComing h_icl_NotComing h_ty_NotComing) (kit_refF h_ss_BadDeed h_hks_BadDeed_NoPupils h_icl_NoPupils h_ty_NoPupils) (kit_refF h_ss_BadDeed h_hks_BadDeed_BadLength h_icl_BadLength h_ty_BadLength) (kit_refF h_ss_BadDeed h_hks_BadDeed_AlikePupils h_icl_AlikePupils h_ty_AlikePupils) (kit_refF h_ss_BadDeed h_hks_BadDeed_BadLine h_icl_BadLine h_ty_BadLine) (kit_refF h_ss_BadDeed h_hks_BadDeed_Ended h_icl_Ended h_ty_Ended) (kit_tyR h_hks_BadEnds_ValueError (by decide +kernel)) (kit_tyR h_hks_BadNode_ValueError (by decide +kernel)) (kit_tyR h_hks_BadStart_ValueError (by decide +kernel)) (kit_tyR h_hks_TwiceAsked_ValueError (by decide +kernel)) (kit_tyR h_hks_NoNode_ValueError (by decide +kernel)) (kit_tyR h_hks_NoPosition_ValueError (by decide +kernel)) (kit_tyR h_hks_BadQuestion_ValueError (by decide +kernel)) (kit_tyR h_hks_BadMarks_ValueError (by decide +kernel)) (kit_tyR h_hks_BadLadder_ValueError (by decide +kernel)) (kit_tyR h_hks_BadCount_ValueError (by decide +kernel)) (kit_tyR h_hks_BadRelation_ValueError (by decide +kernel)) (kit_tyR h_hks_BadPositions_ValueError (by decide +kernel)) (kit_tyR h_hks_NoFinal_ValueError (by decide +kernel)) (kit_tyR h_hks_NotReached_ValueError (by decide +kernel)) (kit_tyR h_hks_NoEnd_ValueError (by decide +kernel)) (kit_tyR h_hks_ZeroBottom_ValueError (by decide +kernel)) (kit_tyR h_hks_NoChance_ValueError (by decide +kernel)) (kit_tyR h_hks_BadChance_ValueError (by decide +kernel)) (kit_tyR h_hks_ZeroPolynomial_ValueError (by decide +kernel)) (kit_tyR h_hks_BadInterval_ValueError (by decide +kernel)) (kit_tyR h_hks_NoSkip_ValueError (by decide +kernel)) (kit_tyR h_hks_NotComing_ValueError (by decide +kernel)) (kit_tyR h_hks_NoPupils_ValueError (by decide +kernel)) (kit_tyR h_hks_BadLength_ValueError (by decide +kernel)) (kit_tyR h_hks_AlikePupils_ValueError (by decide +kernel)) (kit_tyR h_hks_BadLine_ValueError (by decide +kernel)) (kit_tyR h_hks_Ended_ValueError (by decide +kernel)) (kit_tyR h_hks_BadDeed_ValueError (by decide +kernel)) (fun_mk h_l_BadEnds_init h_c_BadEnds_init h_k_BadEnds_init) ((fun_mk (st := s_BadEnds_init) h_l_BadEnds_init h_c_BadEnds_init h_k_BadEnds_init).binds (ps := P_BadEnds_init) fun _ _ _ _ _ _ us hl => match us, hl with | [_, _], _ => rfl) (h_k_BadEnds_init) (h_i_BadEnds_init) (fun_mk h_l_BadNode_init h_c_BadNode_init h_k_BadNode_init) ((fun_mk (st := s_BadNode_init) h_l_BadNode_init h_c_BadNode_init h_k_BadNode_init).binds (ps := P_BadNode_init) fun _ _ _ _ _ _ us hl => match us, hl with | [_, _], _ => rfl) (h_k_BadNode_init) (h_i_BadNode_init) (fun_mk h_l_BadStart_init h_c_BadStart_init h_k_BadStart_init) ((fun_mk (st := s_BadStart_init) h_l_BadStart_init h_c_BadStart_init h_k_BadStart_init).binds (ps := P_BadStart_init) fun _ _ _ _ _ _ us hl => match us, hl with | [_, _], _ => rfl) (h_k_BadStart_init) (h_i_BadStart_init) (fun_mk h_l_TwiceAsked_init h_c_TwiceAsked_init h_k_TwiceAsked_init) ((fun_mk (st := s_TwiceAsked_init) h_l_TwiceAsked_init h_c_TwiceAsked_init h_k_TwiceAsked_init).binds (ps := P_TwiceAsked_init) fun _ _ _ _ _ _ us hl => match us, hl with | [_, _], _ => rfl) (h_k_TwiceAsked_init) (h_i_TwiceAsked_init) (fun_mk h_l_NoNode_init h_c_NoNode_init h_k_NoNode_init) ((fun_mk (st := s_NoNode_init) h_l_NoNode_init h_c_NoNode_init h_k_NoNode_init).binds (ps := P_NoNode_init) fun _ _ _ _ _ _ us hl => match us, hl with | [_, _], _ => rfl) (h_k_NoNode_init) (h_i_NoNode_init) (fun_mk h_l_NoPosition_init h_c_NoPosition_init h_k_NoPosition_init) ((fun_mk (st := s_NoPosition_init) h_l_NoPosition_init h_c_NoPosition_init h_k_NoPosition_init).binds (ps := P_NoPosition_init) fun _ _ _ _ _ _ us hl => match us, hl with | [_, _], _ => rfl) (h_k_NoPosition_init) (h_i_NoPosition_init) (fun_mk h_l_BadQuestion_init h_c_BadQuestion_init h_k_BadQuestion_init) ((fun_mk (st := s_BadQuestion_init) h_l_BadQuestion_init h_c_BadQuestion_init h_k_BadQuestion_init).binds (ps := P_BadQuestion_init) fun _ _ _ _ _ _ us hl => match us, hl with | [_, _], _ => rfl) (h_k_BadQuestion_init) (h_i_BadQuestion_init) (fun_mk h_l_BadMarks_init h_c_BadMarks_init h_k_BadMarks_init) ((fun_mk (st := s_BadMarks_init) h_l_BadMarks_init h_c_BadMarks_init h_k_BadMarks_init).binds (ps := P_BadMarks_init) fun _ _ _ _ _ _ us hl => match us, hl with | [_, _], _ => rfl) (h_k_BadMarks_init) (h_i_BadMarks_init) (fun_mk h_l_BadLadder_init h_c_BadLadder_init h_k_BadLadder_init) ((fun_mk (st := s_BadLadder_init) h_l_BadLadder_init h_c_BadLadder_init h_k_BadLadder_init).binds (ps := P_BadLadder_init) fun _ _ _ _ _ _ us hl => match us, hl with | [_, _], _ => rfl) (h_k_BadLadder_init) (h_i_BadLadder_init) (fun_mk h_l_BadCount_init h_c_BadCount_init h_k_BadCount_init) ((fun_mk (st := s_BadCount_init) h_l_BadCount_init h_c_BadCount_init h_k_BadCount_init).binds (ps := P_BadCount_init) fun _ _ _ _ _ _ us hl => match us, hl with | [_, _], _ => rfl) (h_k_BadCount_init) (h_i_BadCount_init) (fun_mk h_l_BadRelation_init h_c_BadRelation_init h_k_BadRelation_init) ((fun_mk (st := s_BadRelation_init) h_l_BadRelation_init h_c_BadRelation_init h_k_BadRelation_init).binds (ps := P_BadRelation_init) fun _ _ _ _ _ _ us hl => match us, hl with | [_, _], _ => rfl) (h_k_BadRelation_init) (h_i_BadRelation_init) (fun_mk h_l_BadPositions_init h_c_BadPositions_init h_k_BadPositions_init) ((fun_mk (st := s_BadPositions_init) h_l_BadPositions_init h_c_BadPositions_init h_k_BadPositions_init).binds (ps := P_BadPositions_init) fun _ _ _ _ _ _ us hl => match us, hl with | [_, _], _ => rfl) (h_k_BadPositions_init) (h_i_BadPositions_init) (fun_mk h_l_NoFinal_init h_c_NoFinal_init h_k_NoFinal_init) ((fun_mk (st := s_NoFinal_init) h_l_NoFinal_init h_c_NoFinal_init h_k_NoFinal_init).binds (ps := P_NoFinal_init) fun _ _ _ _ _ _ us hl => match us, hl with | [_, _], _ => rfl) (h_k_NoFinal_init) (h_i_NoFinal_init) (fun_mk h_l_NotReached_init h_c_NotReached_init h_k_NotReached_init) ((fun_mk (st := s_NotReached_init) h_l_NotReached_init h_c_NotReached_init h_k_NotReached_init).binds (ps := P_NotReached_init) fun _ _ _ _ _ _ us hl => match us, hl with | [_, _], _ => rfl) (h_k_NotReached_init) (h_i_NotReached_init) (fun_mk h_l_NoEnd_init h_c_NoEnd_init h_k_NoEnd_init) ((fun_mk (st := s_NoEnd_init) h_l_NoEnd_init h_c_NoEnd_init h_k_NoEnd_init).binds (ps := P_NoEnd_init) fun _ _ _ _ _ _ us hl => match us, hl with | [_, _], _ => rfl) (h_k_NoEnd_init) (h_i_NoEnd_init) (fun_mk h_l_ZeroBottom_init h_c_ZeroBottom_init h_k_ZeroBottom_init) ((fun_mk (st := s_ZeroBottom_init) h_l_ZeroBottom_init h_c_ZeroBottom_init h_k_ZeroBottom_init).binds (ps := P_ZeroBottom_init) fun _ _ _ _ _ _ us hl => match us, hl with | [_], _ => rfl) (h_k_ZeroBottom_init) (h_i_ZeroBottom_init) (fun_mk h_l_NoChance_init h_c_NoChance_init h_k_NoChance_init) ((fun_mk (st := s_NoChance_init) h_l_NoChance_init h_c_NoChance_init h_k_NoChance_init).binds (ps := P_NoChance_init) fun _ _ _ _ _ _ us hl => match us, hl with | [_, _], _ => rfl) (h_k_NoChance_init) (h_i_NoChance_init) (fun_mk h_l_BadChance_init h_c_BadChance_init h_k_BadChance_init) ((fun_mk (st := s_BadChance_init) h_l_BadChance_init h_c_BadChance_init h_k_BadChance_init).binds (ps := P_BadChance_init) fun _ _ _ _ _ _ us hl => match us, hl with | [_, _], _ => rfl) (h_k_BadChance_init) (h_i_BadChance_init) (fun_mk h_l_ZeroPolynomial_init h_c_ZeroPolynomial_init h_k_ZeroPolynomial_init) ((fun_mk (st := s_ZeroPolynomial_init) h_l_ZeroPolynomial_init h_c_ZeroPolynomial_init h_k_ZeroPolynomial_init).binds (ps := P_ZeroPolynomial_init) fun _ _ _ _ _ _ us hl => match us, hl with | [_], _ => rfl) (h_k_ZeroPolynomial_init) (h_i_ZeroPolynomial_init) (fun_mk h_l_BadInterval_init h_c_BadInterval_init h_k_BadInterval_init) ((fun_mk (st := s_BadInterval_init) h_l_BadInterval_init h_c_BadInterval_init h_k_BadInterval_init).binds (ps := P_BadInterval_init) fun _ _ _ _ _ _ us hl => match us, hl with | [_], _ => rfl) (h_k_BadInterval_init) (h_i_BadInterval_init) (fun_mk h_l_NoSkip_init h_c_NoSkip_init h_k_NoSkip_init) ((fun_mk (st := s_NoSkip_init) h_l_NoSkip_init h_c_NoSkip_init h_k_NoSkip_init).binds (ps := P_NoSkip_init) fun _ _ _ _ _ _ us hl => match us, hl with | [_, _], _ => rfl) (h_k_NoSkip_init) (h_i_NoSkip_init) (fun_mk h_l_NotComing_init h_c_NotComing_init h_k_NotComing_init) ((fun_mk (st := s_NotComing_init) h_l_NotComing_init h_c_NotComing_init h_k_NotComing_init).binds (ps := P_NotComing_init) fun _ _ _ _ _ _ us hl => match us, hl with | [_, _], _ => rfl) (h_k_NotComing_init) (h_i_NotComing_init) (fun_mk h_l_NoPupils_init h_c_NoPupils_init h_k_NoPupils_init) ((fun_mk (st := s_NoPupils_init) h_l_NoPupils_init h_c_NoPupils_init h_k_NoPupils_init).binds (ps := P_NoPupils_init) fun _ _ _ _ _ _ us hl => match us, hl with | [_], _ => rfl) (h_k_NoPupils_init) (h_i_NoPupils_init) (fun_mk h_l_BadLength_init h_c_BadLength_init h_k_BadLength_init) ((fun_mk (st := s_BadLength_init) h_l_BadLength_init h_c_BadLength_init h_k_BadLength_init).binds (ps := P_BadLength_init) fun _ _ _ _ _ _ us hl => match us, hl with | [_, _], _ => rfl) (h_k_BadLength_init) (h_i_BadLength_init) (fun_mk h_l_AlikePupils_init h_c_AlikePupils_init h_k_AlikePupils_init) ((fun_mk (st := s_AlikePupils_init) h_l_AlikePupils_init h_c_AlikePupils_init h_k_AlikePupils_init).binds (ps := P_AlikePupils_init) fun _ _ _ _ _ _ us hl => match us, hl with | [_, _, _], _ => rfl) (h_k_AlikePupils_init) (h_i_AlikePupils_init) (fun_mk h_l_BadLine_init h_c_BadLine_init h_k_BadLine_init) ((fun_mk (st := s_BadLine_init) h_l_BadLine_init h_c_BadLine_init h_k_BadLine_init).binds (ps := P_BadLine_init) fun _ _ _ _ _ _ us hl => match us, hl with | [_, _], _ => rfl) (h_k_BadLine_init) (h_i_BadLine_init) (fun_mk h_l_Ended_init h_c_Ended_init h_k_Ended_init) ((fun_mk (st := s_Ended_init) h_l_Ended_init h_c_Ended_init h_k_Ended_init).binds (ps := P_Ended_init) fun _ _ _ _ _ _ us hl => match us, hl with | [_], _ => rfl) (h_k_Ended_init) (h_i_Ended_init) (fun_mk h_l_BadDeed_init h_c_BadDeed_init h_k_BadDeed_init) ((fun_mk (st := s_BadDeed_init) h_l_BadDeed_init h_c_BadDeed_init h_k_BadDeed_init).binds (ps := P_BadDeed_init) fun _ _ _ _ _ _ us hl => match us, hl with | [_, _], _ => rfl) (h_k_BadDeed_init) (h_i_BadDeed_init) (fun_mk h_l_l_pool h_c_l_pool h_k_l_pool) ((fun_mk (st := s_l_pool) h_l_l_pool h_c_l_pool h_k_l_pool).binds (ps := P_l_pool) fun _ _ _ _ _ _ us hl => match us, hl with | [_], _ => rfl) (h_k_l_pool) (PySem.W.mg_of X G h_a_l_pool) (fun_mk h_l_l_draw h_c_l_draw h_k_l_draw) ((fun_mk (st := s_l_draw) h_l_l_draw h_c_l_draw h_k_l_draw).binds (ps := P_l_draw) fun _ _ _ _ _ _ us hl => match us, hl with | [_, _], _ => rfl) (h_k_l_draw) (PySem.W.mg_of X G h_a_l_draw) (fun_mk h_l_l_first h_c_l_first h_k_l_first) ((fun_mk (st := s_l_first) h_l_l_first h_c_l_first h_k_l_first).binds (ps := P_l_first) fun _ _ _ _ _ _ us hl => match us, hl with | [_, _, _, _], _ => rfl) (h_k_l_first) (PySem.W.mg_of X G h_a_l_first) (fun_mk h_l_l_second h_c_l_second h_k_l_second) ((fun_mk (st := s_l_second) h_l_l_second h_c_l_second h_k_l_second).binds (ps := P_l_second) fun _ _ _ _ _ _ us hl => match us, hl with | [_, _, _, _], _ => rfl) (h_k_l_second) (PySem.W.mg_of X G h_a_l_second) (fun_mk h_l_l_third h_c_l_third h_k_l_third) ((fun_mk (st := s_l_third) h_l_l_third h_c_l_third h_k_l_third).binds (ps := P_l_third) fun _ _ _ _ _ _ us hl => match us, hl with | [_, _, _, _], _ => rfl) (h_k_l_third) (PySem.W.mg_of X G h_a_l_third) (fun_mk h_l_l_made h_c_l_made h_k_l_made) ((fun_mk (st := s_l_made) h_l_l_made h_c_l_made h_k_l_made).binds (ps := P_l_made) fun _ _ _ _ _ _ us hl => match us, hl with | [_, _, _, _], _ => rfl) (h_k_l_made) (PySem.W.mg_of X G h_a_l_made) (fun_mk h_l_l_kinds h_c_l_kinds h_k_l_kinds) ((fun_mk (st := s_l_kinds) h_l_l_kinds h_c_l_kinds h_k_l_kinds).binds (ps := P_l_kinds) fun _ _ _ _ _ _ us hl => match us, hl with | [_], _ => rfl) (h_k_l_kinds) (PySem.W.mg_of X G h_a_l_kinds) (fun_mk h_l_law h_c_law h_k_law) ((fun_mk (st := s_law) h_l_law h_c_law h_k_law).binds (ps := P_law) fun _ _ _ _ _ _ us hl => match us, hl with | [_], _ => rfl) (h_k_law) (PySem.W.mg_of X G h_a_law) (PySem.W.mg_none_of X G h_z_ValueError) (PySem.W.mg_none_of X G h_z_abs) (PySem.W.mg_none_of X G h_z_int) (PySem.W.mg_none_of X G h_z_isinstance) (PySem.W.mg_none_of X G h_z_len) (PySem.W.mg_none_of X G h_z_list) (PySem.W.mg_none_of X G h_z_range) (PySem.W.mg_none_of X G h_z_tuple)
  exact ⟨_, fun s v => .of_eq rfl, fun base _ _ => ok_law T⟩
theorem walk {l : PySem.W.OpenLaw} {q : Program} {loose : List Str} {XP : (Str → Option Value) → Heap → Prop} {YP : World → Heap → Prop} {d : DefRec} {K : Params → PySem.W.Frag} (hn : l.most = some 63) (hdf : d.params.defaults = [])
    (hY : ∀ (w : World) (h : Heap), YP w h → (K w.params).In h)
    (F : ∀ (w : World) (mg : Str → Option Value) (fa : Addr) (h : Heap), (K w.params).In h → h.Ns mainGlobals mg → mg d.name = some (.ref fa) →
      ∃ fd : FuncData, (∀ (s : Shared) (u : Value), BindsTo s fd ⟨[u], []⟩ [("_law_script", u)]) ∧ ∀ base : Heap, (K w.params).In base → base.Ns mainGlobals mg → FnOk l.prog w (K w.params) mg base CX0 6 fa fd ["_law_script"] (sp_law (K w.params))) :
    PySem.W.WalkO q loose XP YP l.row.toRowW d [] (fun f vs => PySem.call f vs) :=
  L2.walk_of (n := 63) (k := 6) (x := "_law_script") (CX := fun _ => CX0) (sp := fun w => sp_law (K w.params)) hn (by decide) hdf ⟨rfl, by decide, by decide⟩ hY F (fun _ _ a ns hl hO hS => ⟨a, ns, rfl, scr_of hO hS, hl, fun _ => rfl⟩) fun _ _ _ _ _ z => z
end K84
open PySem PySem.W PyProof.Rows in
set_option maxRecDepth 100000 in
set_option maxHeartbeats 0 in
theorem PySem.Challenge.cw_steppedtests_k84_each_error_holds : PySem.Challenge.rw_steppedtests_k84_each_error.Holds := by
  refine K84H.hd ?_
  k_fill
  refine K84.walk (l := PySem.Challenge.rw_steppedtests_k84_each_error) rfl rfl (fun w h Y => PySem.W.kIn_of Y) ?F
  case F =>
    intro w mg fa h KX G hmg
    refine' K84.all_mk KX G hmg ?h_g_TestError ?h_g_BadEnds ?h_g_BadNode ?h_g_BadStart ?h_g_TwiceAsked ?h_g_NoNode ?h_g_NoPosition ?h_g_BadQuestion ?h_g_BadMarks ?h_g_BadLadder ?h_g_BadCount ?h_g_BadRelation ?h_g_BadPositions ?h_g_NoFinal ?h_g_NotReached ?h_g_NoEnd ?h_g_ZeroBottom ?h_g_NoChance ?h_g_BadChance ?h_g_ZeroPolynomial ?h_g_BadInterval ?h_g_NoSkip ?h_g_NotComing ?h_g_NoPupils ?h_g_BadLength ?h_g_AlikePupils ?h_g_BadLine ?h_g_Ended ?h_g_BadDeed ?h_bga_TestError ?h_ty_TestError ?h_brd_TestError ?h_bfi_TestError ?h_xl_BadEnds ?h_sa_BadEnds ?h_eb_BadEnds ?h_ty_BadEnds ?h_kc_BadEnds ?h_ga_BadEnds ?h_gg_BadEnds ?h_hd_BadEnds ?h_ss_BadEnds ?h_ic1_BadEnds ?h_eg2 ?h_eg3 ?h_ic4_BadEnds ?h_nf_BadEnds_count ?h_sb_BadEnds ?h_icl_TestError ?h_xl_BadNode ?h_sa_BadNode ?h_eb_BadNode ?h_ty_BadNode ?h_kc_BadNode ?h_ga_BadNode ?h_gg_BadNode ?h_hd_BadNode ?h_ss_BadNode ?h_ic1_BadNode ?h_ic4_BadNode ?h_nf_BadNode_index ?h_sb_BadNode ?h_xl_BadStart ?h_sa_BadStart ?h_eb_BadStart ?h_ty_BadStart ?h_kc_BadStart ?h_ga_BadStart ?h_gg_BadStart ?h_hd_BadStart ?h_ss_BadStart ?h_ic1_BadStart ?h_ic4_BadStart ?h_nf_BadStart_place ?h_sb_BadStart ?h_xl_TwiceAsked ?h_sa_TwiceAsked ?h_eb_TwiceAsked ?h_ty_TwiceAsked ?h_kc_TwiceAsked ?h_ga_TwiceAsked ?h_gg_TwiceAsked ?h_hd_TwiceAsked ?h_ss_TwiceAsked ?h_ic1_TwiceAsked ?h_ic4_TwiceAsked ?h_nf_TwiceAsked_index ?h_sb_TwiceAsked ?h_xl_NoNode ?h_sa_NoNode ?h_eb_NoNode ?h_ty_NoNode ?h_kc_NoNode ?h_ga_NoNode ?h_gg_NoNode ?h_hd_NoNode ?h_ss_NoNode ?h_ic1_NoNode ?h_ic4_NoNode ?h_nf_NoNode_index ?h_sb_NoNode ?h_xl_NoPosition ?h_sa_NoPosition ?h_eb_NoPosition ?h_ty_NoPosition ?h_kc_NoPosition ?h_ga_NoPosition ?h_gg_NoPosition ?h_hd_NoPosition ?h_ss_NoPosition ?h_ic1_NoPosition ?h_ic4_NoPosition ?h_nf_NoPosition_place ?h_sb_NoPosition ?h_xl_BadQuestion ?h_sa_BadQuestion ?h_eb_BadQuestion ?h_ty_BadQuestion ?h_kc_BadQuestion ?h_ga_BadQuestion ?h_gg_BadQuestion ?h_hd_BadQuestion ?h_ss_BadQuestion ?h_ic1_BadQuestion ?h_ic4_BadQuestion ?h_nf_BadQuestion_number ?h_sb_BadQuestion ?h_xl_BadMarks ?h_sa_BadMarks ?h_eb_BadMarks ?h_ty_BadMarks ?h_kc_BadMarks ?h_ga_BadMarks ?h_gg_BadMarks ?h_hd_BadMarks ?h_ss_BadMarks ?h_ic1_BadMarks ?h_ic4_BadMarks ?h_nf_BadMarks_count ?h_sb_BadMarks ?h_xl_BadLadder ?h_sa_BadLadder ?h_eb_BadLadder ?h_ty_BadLadder ?h_kc_BadLadder ?h_ga_BadLadder ?h_gg_BadLadder ?h_hd_BadLadder ?h_ss_BadLadder ?h_ic1_BadLadder ?h_ic4_BadLadder ?h_nf_BadLadder_word ?h_sb_BadLadder ?h_xl_BadCount ?h_sa_BadCount ?h_eb_BadCount ?h_ty_BadCount ?h_kc_BadCount ?h_ga_BadCount ?h_gg_BadCount ?h_hd_BadCount ?h_ss_BadCount ?h_ic1_BadCount ?h_ic4_BadCount ?h_nf_BadCount_count ?h_sb_BadCount ?h_xl_BadRelation ?h_sa_BadRelation ?h_eb_BadRelation ?h_ty_BadRelation ?h_kc_BadRelation ?h_ga_BadRelation ?h_gg_BadRelation ?h_hd_BadRelation ?h_ss_BadRelation ?h_ic1_BadRelation ?h_ic4_BadRelation ?h_nf_BadRelation_word ?h_sb_BadRelation ?h_xl_BadPositions ?h_sa_BadPositions ?h_eb_BadPositions ?h_ty_BadPositions ?h_kc_BadPositions ?h_ga_BadPositions ?h_gg_BadPositions ?h_hd_BadPositions ?h_ss_BadPositions ?h_ic1_BadPositions ?h_ic4_BadPositions ?h_nf_BadPositions_index ?h_sb_BadPositions ?h_xl_NoFinal ?h_sa_NoFinal ?h_eb_NoFinal ?h_ty_NoFinal ?h_kc_NoFinal ?h_ga_NoFinal ?h_gg_NoFinal ?h_hd_NoFinal ?h_ss_NoFinal ?h_ic1_NoFinal ?h_ic4_NoFinal ?h_nf_NoFinal_ends ?h_sb_NoFinal ?h_xl_NotReached ?h_sa_NotReached ?h_eb_NotReached ?h_ty_NotReached ?h_kc_NotReached ?h_ga_NotReached ?h_gg_NotReached ?h_hd_NotReached ?h_ss_NotReached ?h_ic1_NotReached ?h_ic4_NotReached ?h_nf_NotReached_index ?h_sb_NotReached ?h_xl_NoEnd ?h_sa_NoEnd ?h_eb_NoEnd ?h_ty_NoEnd ?h_kc_NoEnd ?h_ga_NoEnd ?h_gg_NoEnd ?h_hd_NoEnd ?h_ss_NoEnd ?h_ic1_NoEnd ?h_ic4_NoEnd ?h_nf_NoEnd_number ?h_sb_NoEnd ?h_xl_ZeroBottom ?h_sa_ZeroBottom ?h_eb_ZeroBottom ?h_ty_ZeroBottom ?h_kc_ZeroBottom ?h_ga_ZeroBottom ?h_gg_ZeroBottom ?h_hd_ZeroBottom ?h_ss_ZeroBottom ?h_ic1_ZeroBottom ?h_ic4_ZeroBottom ?h_sb_ZeroBottom ?h_xl_NoChance ?h_sa_NoChance ?h_eb_NoChance ?h_ty_NoChance ?h_kc_NoChance ?h_ga_NoChance ?h_gg_NoChance ?h_hd_NoChance ?h_ss_NoChance ?h_ic1_NoChance ?h_ic4_NoChance ?h_nf_NoChance_number ?h_sb_NoChance ?h_xl_BadChance ?h_sa_BadChance ?h_eb_BadChance ?h_ty_BadChance ?h_kc_BadChance ?h_ga_BadChance ?h_gg_BadChance ?h_hd_BadChance ?h_ss_BadChance ?h_ic1_BadChance ?h_ic4_BadChance ?h_nf_BadChance_number ?h_sb_BadChance ?h_xl_ZeroPolynomial ?h_sa_ZeroPolynomial ?h_eb_ZeroPolynomial ?h_ty_ZeroPolynomial ?h_kc_ZeroPolynomial ?h_ga_ZeroPolynomial ?h_gg_ZeroPolynomial ?h_hd_ZeroPolynomial ?h_ss_ZeroPolynomial ?h_ic1_ZeroPolynomial ?h_ic4_ZeroPolynomial ?h_sb_ZeroPolynomial ?h_xl_BadInterval ?h_sa_BadInterval ?h_eb_BadInterval ?h_ty_BadInterval ?h_kc_BadInterval ?h_ga_BadInterval ?h_gg_BadInterval ?h_hd_BadInterval ?h_ss_BadInterval ?h_ic1_BadInterval ?h_ic4_BadInterval ?h_sb_BadInterval ?h_xl_NoSkip ?h_sa_NoSkip ?h_eb_NoSkip ?h_ty_NoSkip ?h_kc_NoSkip ?h_ga_NoSkip ?h_gg_NoSkip ?h_hd_NoSkip ?h_ss_NoSkip ?h_ic1_NoSkip ?h_ic4_NoSkip ?h_nf_NoSkip_index ?h_sb_NoSkip ?h_xl_NotComing ?h_sa_NotComing ?h_eb_NotComing ?h_ty_NotComing ?h_kc_NotComing ?h_ga_NotComing ?h_gg_NotComing ?h_hd_NotComing ?h_ss_NotComing ?h_ic1_NotComing ?h_ic4_NotComing ?h_nf_NotComing_index ?h_sb_NotComing ?h_xl_NoPupils ?h_sa_NoPupils ?h_eb_NoPupils ?h_ty_NoPupils ?h_kc_NoPupils ?h_ga_NoPupils ?h_gg_NoPupils ?h_hd_NoPupils ?h_ss_NoPupils ?h_ic1_NoPupils ?h_ic4_NoPupils ?h_sb_NoPupils ?h_xl_BadLength ?h_sa_BadLength ?h_eb_BadLength ?h_ty_BadLength ?h_kc_BadLength ?h_ga_BadLength ?h_gg_BadLength ?h_hd_BadLength ?h_ss_BadLength ?h_ic1_BadLength ?h_ic4_BadLength ?h_nf_BadLength_count ?h_sb_BadLength ?h_xl_AlikePupils ?h_sa_AlikePupils ?h_eb_AlikePupils ?h_ty_AlikePupils ?h_kc_AlikePupils ?h_ga_AlikePupils ?h_gg_AlikePupils ?h_hd_AlikePupils ?h_ss_AlikePupils ?h_ic1_AlikePupils ?h_ic4_AlikePupils ?h_nf_AlikePupils_first ?h_nf_AlikePupils_second ?h_sb_AlikePupils ?h_xl_BadLine ?h_sa_BadLine ?h_eb_BadLine ?h_ty_BadLine ?h_kc_BadLine ?h_ga_BadLine ?h_gg_BadLine ?h_hd_BadLine ?h_ss_BadLine ?h_ic1_BadLine ?h_ic4_BadLine ?h_nf_BadLine_line ?h_sb_BadLine ?h_xl_Ended ?h_sa_Ended ?h_eb_Ended ?h_ty_Ended ?h_kc_Ended ?h_ga_Ended ?h_gg_Ended ?h_hd_Ended ?h_ss_Ended ?h_ic1_Ended ?h_ic4_Ended ?h_sb_Ended ?h_xl_BadDeed ?h_sa_BadDeed ?h_eb_BadDeed ?h_ty_BadDeed ?h_kc_BadDeed ?h_ga_BadDeed ?h_gg_BadDeed ?h_hd_BadDeed ?h_ss_BadDeed ?h_ic1_BadDeed ?h_ic4_BadDeed ?h_nf_BadDeed_index ?h_sb_BadDeed ?h_icl_BadEnds ?h_icl_BadNode ?h_icl_BadStart ?h_icl_TwiceAsked ?h_icl_NoNode ?h_icl_NoPosition ?h_icl_BadQuestion ?h_icl_BadMarks ?h_icl_BadLadder ?h_icl_BadCount ?h_icl_BadRelation ?h_icl_BadPositions ?h_icl_NoFinal ?h_icl_NotReached ?h_icl_NoEnd ?h_icl_ZeroBottom ?h_icl_NoChance ?h_icl_BadChance ?h_icl_ZeroPolynomial ?h_icl_BadInterval ?h_icl_NoSkip ?h_icl_NotComing ?h_icl_NoPupils ?h_icl_BadLength ?h_icl_AlikePupils ?h_icl_BadLine ?h_icl_Ended ?h_icl_BadDeed ?h_hks_BadEnds_BadNode ?h_hks_BadEnds_BadStart ?h_hks_BadEnds_TwiceAsked ?h_hks_BadEnds_NoNode ?h_hks_BadEnds_NoPosition ?h_hks_BadEnds_BadQuestion ?h_hks_BadEnds_BadMarks ?h_hks_BadEnds_BadLadder ?h_hks_BadEnds_BadCount ?h_hks_BadEnds_BadRelation ?h_hks_BadEnds_BadPositions ?h_hks_BadEnds_NoFinal ?h_hks_BadEnds_NotReached ?h_hks_BadEnds_NoEnd ?h_hks_BadEnds_ZeroBottom ?h_hks_BadEnds_NoChance ?h_hks_BadEnds_BadChance ?h_hks_BadEnds_ZeroPolynomial ?h_hks_BadEnds_BadInterval ?h_hks_BadEnds_NoSkip ?h_hks_BadEnds_NotComing ?h_hks_BadEnds_NoPupils ?h_hks_BadEnds_BadLength ?h_hks_BadEnds_AlikePupils ?h_hks_BadEnds_BadLine ?h_hks_BadEnds_Ended ?h_hks_BadEnds_BadDeed ?h_hks_BadNode_BadEnds ?h_hks_BadNode_BadStart ?h_hks_BadNode_TwiceAsked ?h_hks_BadNode_NoNode ?h_hks_BadNode_NoPosition ?h_hks_BadNode_BadQuestion ?h_hks_BadNode_BadMarks ?h_hks_BadNode_BadLadder ?h_hks_BadNode_BadCount ?h_hks_BadNode_BadRelation ?h_hks_BadNode_BadPositions ?h_hks_BadNode_NoFinal ?h_hks_BadNode_NotReached ?h_hks_BadNode_NoEnd ?h_hks_BadNode_ZeroBottom ?h_hks_BadNode_NoChance ?h_hks_BadNode_BadChance ?h_hks_BadNode_ZeroPolynomial ?h_hks_BadNode_BadInterval ?h_hks_BadNode_NoSkip ?h_hks_BadNode_NotComing ?h_hks_BadNode_NoPupils ?h_hks_BadNode_BadLength ?h_hks_BadNode_AlikePupils ?h_hks_BadNode_BadLine ?h_hks_BadNode_Ended ?h_hks_BadNode_BadDeed ?h_hks_BadStart_BadEnds ?h_hks_BadStart_BadNode ?h_hks_BadStart_TwiceAsked ?h_hks_BadStart_NoNode ?h_hks_BadStart_NoPosition ?h_hks_BadStart_BadQuestion ?h_hks_BadStart_BadMarks ?h_hks_BadStart_BadLadder ?h_hks_BadStart_BadCount ?h_hks_BadStart_BadRelation ?h_hks_BadStart_BadPositions ?h_hks_BadStart_NoFinal ?h_hks_BadStart_NotReached ?h_hks_BadStart_NoEnd ?h_hks_BadStart_ZeroBottom ?h_hks_BadStart_NoChance ?h_hks_BadStart_BadChance ?h_hks_BadStart_ZeroPolynomial ?h_hks_BadStart_BadInterval ?h_hks_BadStart_NoSkip ?h_hks_BadStart_NotComing ?h_hks_BadStart_NoPupils ?h_hks_BadStart_BadLength ?h_hks_BadStart_AlikePupils ?h_hks_BadStart_BadLine ?h_hks_BadStart_Ended ?h_hks_BadStart_BadDeed ?h_hks_TwiceAsked_BadEnds ?h_hks_TwiceAsked_BadNode ?h_hks_TwiceAsked_BadStart ?h_hks_TwiceAsked_NoNode ?h_hks_TwiceAsked_NoPosition ?h_hks_TwiceAsked_BadQuestion ?h_hks_TwiceAsked_BadMarks ?h_hks_TwiceAsked_BadLadder ?h_hks_TwiceAsked_BadCount ?h_hks_TwiceAsked_BadRelation ?h_hks_TwiceAsked_BadPositions ?h_hks_TwiceAsked_NoFinal ?h_hks_TwiceAsked_NotReached ?h_hks_TwiceAsked_NoEnd ?h_hks_TwiceAsked_ZeroBottom ?h_hks_TwiceAsked_NoChance ?h_hks_TwiceAsked_BadChance ?h_hks_TwiceAsked_ZeroPolynomial ?h_hks_TwiceAsked_BadInterval ?h_hks_TwiceAsked_NoSkip ?h_hks_TwiceAsked_NotComing ?h_hks_TwiceAsked_NoPupils ?h_hks_TwiceAsked_BadLength ?h_hks_TwiceAsked_AlikePupils ?h_hks_TwiceAsked_BadLine ?h_hks_TwiceAsked_Ended ?h_hks_TwiceAsked_BadDeed ?h_hks_NoNode_BadEnds ?h_hks_NoNode_BadNode ?h_hks_NoNode_BadStart ?h_hks_NoNode_TwiceAsked ?h_hks_NoNode_NoPosition ?h_hks_NoNode_BadQuestion ?h_hks_NoNode_BadMarks ?h_hks_NoNode_BadLadder ?h_hks_NoNode_BadCount ?h_hks_NoNode_BadRelation ?h_hks_NoNode_BadPositions ?h_hks_NoNode_NoFinal ?h_hks_NoNode_NotReached ?h_hks_NoNode_NoEnd ?h_hks_NoNode_ZeroBottom ?h_hks_NoNode_NoChance ?h_hks_NoNode_BadChance ?h_hks_NoNode_ZeroPolynomial ?h_hks_NoNode_BadInterval ?h_hks_NoNode_NoSkip ?h_hks_NoNode_NotComing ?h_hks_NoNode_NoPupils ?h_hks_NoNode_BadLength ?h_hks_NoNode_AlikePupils ?h_hks_NoNode_BadLine ?h_hks_NoNode_Ended ?h_hks_NoNode_BadDeed ?h_hks_NoPosition_BadEnds ?h_hks_NoPosition_BadNode ?h_hks_NoPosition_BadStart ?h_hks_NoPosition_TwiceAsked ?h_hks_NoPosition_NoNode ?h_hks_NoPosition_BadQuestion ?h_hks_NoPosition_BadMarks ?h_hks_NoPosition_BadLadder ?h_hks_NoPosition_BadCount ?h_hks_NoPosition_BadRelation ?h_hks_NoPosition_BadPositions ?h_hks_NoPosition_NoFinal ?h_hks_NoPosition_NotReached ?h_hks_NoPosition_NoEnd ?h_hks_NoPosition_ZeroBottom ?h_hks_NoPosition_NoChance ?h_hks_NoPosition_BadChance ?h_hks_NoPosition_ZeroPolynomial ?h_hks_NoPosition_BadInterval ?h_hks_NoPosition_NoSkip ?h_hks_NoPosition_NotComing ?h_hks_NoPosition_NoPupils ?h_hks_NoPosition_BadLength ?h_hks_NoPosition_AlikePupils ?h_hks_NoPosition_BadLine ?h_hks_NoPosition_Ended ?h_hks_NoPosition_BadDeed ?h_hks_BadQuestion_BadEnds ?h_hks_BadQuestion_BadNode ?h_hks_BadQuestion_BadStart ?h_hks_BadQuestion_TwiceAsked ?h_hks_BadQuestion_NoNode ?h_hks_BadQuestion_NoPosition ?h_hks_BadQuestion_BadMarks ?h_hks_BadQuestion_BadLadder ?h_hks_BadQuestion_BadCount ?h_hks_BadQuestion_BadRelation ?h_hks_BadQuestion_BadPositions ?h_hks_BadQuestion_NoFinal ?h_hks_BadQuestion_NotReached ?h_hks_BadQuestion_NoEnd ?h_hks_BadQuestion_ZeroBottom ?h_hks_BadQuestion_NoChance ?h_hks_BadQuestion_BadChance ?h_hks_BadQuestion_ZeroPolynomial ?h_hks_BadQuestion_BadInterval ?h_hks_BadQuestion_NoSkip ?h_hks_BadQuestion_NotComing ?h_hks_BadQuestion_NoPupils ?h_hks_BadQuestion_BadLength ?h_hks_BadQuestion_AlikePupils ?h_hks_BadQuestion_BadLine ?h_hks_BadQuestion_Ended ?h_hks_BadQuestion_BadDeed ?h_hks_BadMarks_BadEnds ?h_hks_BadMarks_BadNode ?h_hks_BadMarks_BadStart ?h_hks_BadMarks_TwiceAsked ?h_hks_BadMarks_NoNode ?h_hks_BadMarks_NoPosition ?h_hks_BadMarks_BadQuestion ?h_hks_BadMarks_BadLadder ?h_hks_BadMarks_BadCount ?h_hks_BadMarks_BadRelation ?h_hks_BadMarks_BadPositions ?h_hks_BadMarks_NoFinal ?h_hks_BadMarks_NotReached ?h_hks_BadMarks_NoEnd ?h_hks_BadMarks_ZeroBottom ?h_hks_BadMarks_NoChance ?h_hks_BadMarks_BadChance ?h_hks_BadMarks_ZeroPolynomial ?h_hks_BadMarks_BadInterval ?h_hks_BadMarks_NoSkip ?h_hks_BadMarks_NotComing ?h_hks_BadMarks_NoPupils ?h_hks_BadMarks_BadLength ?h_hks_BadMarks_AlikePupils ?h_hks_BadMarks_BadLine ?h_hks_BadMarks_Ended ?h_hks_BadMarks_BadDeed ?h_hks_BadLadder_BadEnds ?h_hks_BadLadder_BadNode ?h_hks_BadLadder_BadStart ?h_hks_BadLadder_TwiceAsked ?h_hks_BadLadder_NoNode ?h_hks_BadLadder_NoPosition ?h_hks_BadLadder_BadQuestion ?h_hks_BadLadder_BadMarks ?h_hks_BadLadder_BadCount ?h_hks_BadLadder_BadRelation ?h_hks_BadLadder_BadPositions ?h_hks_BadLadder_NoFinal ?h_hks_BadLadder_NotReached ?h_hks_BadLadder_NoEnd ?h_hks_BadLadder_ZeroBottom ?h_hks_BadLadder_NoChance ?h_hks_BadLadder_BadChance ?h_hks_BadLadder_ZeroPolynomial ?h_hks_BadLadder_BadInterval ?h_hks_BadLadder_NoSkip ?h_hks_BadLadder_NotComing ?h_hks_BadLadder_NoPupils ?h_hks_BadLadder_BadLength ?h_hks_BadLadder_AlikePupils ?h_hks_BadLadder_BadLine ?h_hks_BadLadder_Ended ?h_hks_BadLadder_BadDeed ?h_hks_BadCount_BadEnds ?h_hks_BadCount_BadNode ?h_hks_BadCount_BadStart ?h_hks_BadCount_TwiceAsked ?h_hks_BadCount_NoNode ?h_hks_BadCount_NoPosition ?h_hks_BadCount_BadQuestion ?h_hks_BadCount_BadMarks ?h_hks_BadCount_BadLadder ?h_hks_BadCount_BadRelation ?h_hks_BadCount_BadPositions ?h_hks_BadCount_NoFinal ?h_hks_BadCount_NotReached ?h_hks_BadCount_NoEnd ?h_hks_BadCount_ZeroBottom ?h_hks_BadCount_NoChance ?h_hks_BadCount_BadChance ?h_hks_BadCount_ZeroPolynomial ?h_hks_BadCount_BadInterval ?h_hks_BadCount_NoSkip ?h_hks_BadCount_NotComing ?h_hks_BadCount_NoPupils ?h_hks_BadCount_BadLength ?h_hks_BadCount_AlikePupils ?h_hks_BadCount_BadLine ?h_hks_BadCount_Ended ?h_hks_BadCount_BadDeed ?h_hks_BadRelation_BadEnds ?h_hks_BadRelation_BadNode ?h_hks_BadRelation_BadStart ?h_hks_BadRelation_TwiceAsked ?h_hks_BadRelation_NoNode ?h_hks_BadRelation_NoPosition ?h_hks_BadRelation_BadQuestion ?h_hks_BadRelation_BadMarks ?h_hks_BadRelation_BadLadder ?h_hks_BadRelation_BadCount ?h_hks_BadRelation_BadPositions ?h_hks_BadRelation_NoFinal ?h_hks_BadRelation_NotReached ?h_hks_BadRelation_NoEnd ?h_hks_BadRelation_ZeroBottom ?h_hks_BadRelation_NoChance ?h_hks_BadRelation_BadChance ?h_hks_BadRelation_ZeroPolynomial ?h_hks_BadRelation_BadInterval ?h_hks_BadRelation_NoSkip ?h_hks_BadRelation_NotComing ?h_hks_BadRelation_NoPupils ?h_hks_BadRelation_BadLength ?h_hks_BadRelation_AlikePupils ?h_hks_BadRelation_BadLine ?h_hks_BadRelation_Ended ?h_hks_BadRelation_BadDeed ?h_hks_BadPositions_BadEnds ?h_hks_BadPositions_BadNode ?h_hks_BadPositions_BadStart ?h_hks_BadPositions_TwiceAsked ?h_hks_BadPositions_NoNode ?h_hks_BadPositions_NoPosition ?h_hks_BadPositions_BadQuestion ?h_hks_BadPositions_BadMarks ?h_hks_BadPositions_BadLadder ?h_hks_BadPositions_BadCount ?h_hks_BadPositions_BadRelation ?h_hks_BadPositions_NoFinal ?h_hks_BadPositions_NotReached ?h_hks_BadPositions_NoEnd ?h_hks_BadPositions_ZeroBottom ?h_hks_BadPositions_NoChance ?h_hks_BadPositions_BadChance ?h_hks_BadPositions_ZeroPolynomial ?h_hks_BadPositions_BadInterval ?h_hks_BadPositions_NoSkip ?h_hks_BadPositions_NotComing ?h_hks_BadPositions_NoPupils ?h_hks_BadPositions_BadLength ?h_hks_BadPositions_AlikePupils ?h_hks_BadPositions_BadLine ?h_hks_BadPositions_Ended ?h_hks_BadPositions_BadDeed ?h_hks_NoFinal_BadEnds ?h_hks_NoFinal_BadNode ?h_hks_NoFinal_BadStart ?h_hks_NoFinal_TwiceAsked ?h_hks_NoFinal_NoNode ?h_hks_NoFinal_NoPosition ?h_hks_NoFinal_BadQuestion ?h_hks_NoFinal_BadMarks ?h_hks_NoFinal_BadLadder ?h_hks_NoFinal_BadCount ?h_hks_NoFinal_BadRelation ?h_hks_NoFinal_BadPositions ?h_hks_NoFinal_NotReached ?h_hks_NoFinal_NoEnd ?h_hks_NoFinal_ZeroBottom ?h_hks_NoFinal_NoChance ?h_hks_NoFinal_BadChance ?h_hks_NoFinal_ZeroPolynomial ?h_hks_NoFinal_BadInterval ?h_hks_NoFinal_NoSkip ?h_hks_NoFinal_NotComing ?h_hks_NoFinal_NoPupils ?h_hks_NoFinal_BadLength ?h_hks_NoFinal_AlikePupils ?h_hks_NoFinal_BadLine ?h_hks_NoFinal_Ended ?h_hks_NoFinal_BadDeed ?h_hks_NotReached_BadEnds ?h_hks_NotReached_BadNode ?h_hks_NotReached_BadStart ?h_hks_NotReached_TwiceAsked ?h_hks_NotReached_NoNode ?h_hks_NotReached_NoPosition ?h_hks_NotReached_BadQuestion ?h_hks_NotReached_BadMarks ?h_hks_NotReached_BadLadder ?h_hks_NotReached_BadCount ?h_hks_NotReached_BadRelation ?h_hks_NotReached_BadPositions ?h_hks_NotReached_NoFinal ?h_hks_NotReached_NoEnd ?h_hks_NotReached_ZeroBottom ?h_hks_NotReached_NoChance ?h_hks_NotReached_BadChance ?h_hks_NotReached_ZeroPolynomial ?h_hks_NotReached_BadInterval ?h_hks_NotReached_NoSkip ?h_hks_NotReached_NotComing ?h_hks_NotReached_NoPupils ?h_hks_NotReached_BadLength ?h_hks_NotReached_AlikePupils ?h_hks_NotReached_BadLine ?h_hks_NotReached_Ended ?h_hks_NotReached_BadDeed ?h_hks_NoEnd_BadEnds ?h_hks_NoEnd_BadNode ?h_hks_NoEnd_BadStart ?h_hks_NoEnd_TwiceAsked ?h_hks_NoEnd_NoNode ?h_hks_NoEnd_NoPosition ?h_hks_NoEnd_BadQuestion ?h_hks_NoEnd_BadMarks ?h_hks_NoEnd_BadLadder ?h_hks_NoEnd_BadCount ?h_hks_NoEnd_BadRelation ?h_hks_NoEnd_BadPositions ?h_hks_NoEnd_NoFinal ?h_hks_NoEnd_NotReached ?h_hks_NoEnd_ZeroBottom ?h_hks_NoEnd_NoChance ?h_hks_NoEnd_BadChance ?h_hks_NoEnd_ZeroPolynomial ?h_hks_NoEnd_BadInterval ?h_hks_NoEnd_NoSkip ?h_hks_NoEnd_NotComing ?h_hks_NoEnd_NoPupils ?h_hks_NoEnd_BadLength ?h_hks_NoEnd_AlikePupils ?h_hks_NoEnd_BadLine ?h_hks_NoEnd_Ended ?h_hks_NoEnd_BadDeed ?h_hks_ZeroBottom_BadEnds ?h_hks_ZeroBottom_BadNode ?h_hks_ZeroBottom_BadStart ?h_hks_ZeroBottom_TwiceAsked ?h_hks_ZeroBottom_NoNode ?h_hks_ZeroBottom_NoPosition ?h_hks_ZeroBottom_BadQuestion ?h_hks_ZeroBottom_BadMarks ?h_hks_ZeroBottom_BadLadder ?h_hks_ZeroBottom_BadCount ?h_hks_ZeroBottom_BadRelation ?h_hks_ZeroBottom_BadPositions ?h_hks_ZeroBottom_NoFinal ?h_hks_ZeroBottom_NotReached ?h_hks_ZeroBottom_NoEnd ?h_hks_ZeroBottom_NoChance ?h_hks_ZeroBottom_BadChance ?h_hks_ZeroBottom_ZeroPolynomial ?h_hks_ZeroBottom_BadInterval ?h_hks_ZeroBottom_NoSkip ?h_hks_ZeroBottom_NotComing ?h_hks_ZeroBottom_NoPupils ?h_hks_ZeroBottom_BadLength ?h_hks_ZeroBottom_AlikePupils ?h_hks_ZeroBottom_BadLine ?h_hks_ZeroBottom_Ended ?h_hks_ZeroBottom_BadDeed ?h_hks_NoChance_BadEnds ?h_hks_NoChance_BadNode ?h_hks_NoChance_BadStart ?h_hks_NoChance_TwiceAsked ?h_hks_NoChance_NoNode ?h_hks_NoChance_NoPosition ?h_hks_NoChance_BadQuestion ?h_hks_NoChance_BadMarks ?h_hks_NoChance_BadLadder ?h_hks_NoChance_BadCount ?h_hks_NoChance_BadRelation ?h_hks_NoChance_BadPositions ?h_hks_NoChance_NoFinal ?h_hks_NoChance_NotReached ?h_hks_NoChance_NoEnd ?h_hks_NoChance_ZeroBottom ?h_hks_NoChance_BadChance ?h_hks_NoChance_ZeroPolynomial ?h_hks_NoChance_BadInterval ?h_hks_NoChance_NoSkip ?h_hks_NoChance_NotComing ?h_hks_NoChance_NoPupils ?h_hks_NoChance_BadLength ?h_hks_NoChance_AlikePupils ?h_hks_NoChance_BadLine ?h_hks_NoChance_Ended ?h_hks_NoChance_BadDeed ?h_hks_BadChance_BadEnds ?h_hks_BadChance_BadNode ?h_hks_BadChance_BadStart ?h_hks_BadChance_TwiceAsked ?h_hks_BadChance_NoNode ?h_hks_BadChance_NoPosition ?h_hks_BadChance_BadQuestion ?h_hks_BadChance_BadMarks ?h_hks_BadChance_BadLadder ?h_hks_BadChance_BadCount ?h_hks_BadChance_BadRelation ?h_hks_BadChance_BadPositions ?h_hks_BadChance_NoFinal ?h_hks_BadChance_NotReached ?h_hks_BadChance_NoEnd ?h_hks_BadChance_ZeroBottom ?h_hks_BadChance_NoChance ?h_hks_BadChance_ZeroPolynomial ?h_hks_BadChance_BadInterval ?h_hks_BadChance_NoSkip ?h_hks_BadChance_NotComing ?h_hks_BadChance_NoPupils ?h_hks_BadChance_BadLength ?h_hks_BadChance_AlikePupils ?h_hks_BadChance_BadLine ?h_hks_BadChance_Ended ?h_hks_BadChance_BadDeed ?h_hks_ZeroPolynomial_BadEnds ?h_hks_ZeroPolynomial_BadNode ?h_hks_ZeroPolynomial_BadStart ?h_hks_ZeroPolynomial_TwiceAsked ?h_hks_ZeroPolynomial_NoNode ?h_hks_ZeroPolynomial_NoPosition ?h_hks_ZeroPolynomial_BadQuestion ?h_hks_ZeroPolynomial_BadMarks ?h_hks_ZeroPolynomial_BadLadder ?h_hks_ZeroPolynomial_BadCount ?h_hks_ZeroPolynomial_BadRelation ?h_hks_ZeroPolynomial_BadPositions ?h_hks_ZeroPolynomial_NoFinal ?h_hks_ZeroPolynomial_NotReached ?h_hks_ZeroPolynomial_NoEnd ?h_hks_ZeroPolynomial_ZeroBottom ?h_hks_ZeroPolynomial_NoChance ?h_hks_ZeroPolynomial_BadChance ?h_hks_ZeroPolynomial_BadInterval ?h_hks_ZeroPolynomial_NoSkip ?h_hks_ZeroPolynomial_NotComing ?h_hks_ZeroPolynomial_NoPupils ?h_hks_ZeroPolynomial_BadLength ?h_hks_ZeroPolynomial_AlikePupils ?h_hks_ZeroPolynomial_BadLine ?h_hks_ZeroPolynomial_Ended ?h_hks_ZeroPolynomial_BadDeed ?h_hks_BadInterval_BadEnds ?h_hks_BadInterval_BadNode ?h_hks_BadInterval_BadStart ?h_hks_BadInterval_TwiceAsked ?h_hks_BadInterval_NoNode ?h_hks_BadInterval_NoPosition ?h_hks_BadInterval_BadQuestion ?h_hks_BadInterval_BadMarks ?h_hks_BadInterval_BadLadder ?h_hks_BadInterval_BadCount ?h_hks_BadInterval_BadRelation ?h_hks_BadInterval_BadPositions ?h_hks_BadInterval_NoFinal ?h_hks_BadInterval_NotReached ?h_hks_BadInterval_NoEnd ?h_hks_BadInterval_ZeroBottom ?h_hks_BadInterval_NoChance ?h_hks_BadInterval_BadChance ?h_hks_BadInterval_ZeroPolynomial ?h_hks_BadInterval_NoSkip ?h_hks_BadInterval_NotComing ?h_hks_BadInterval_NoPupils ?h_hks_BadInterval_BadLength ?h_hks_BadInterval_AlikePupils ?h_hks_BadInterval_BadLine ?h_hks_BadInterval_Ended ?h_hks_BadInterval_BadDeed ?h_hks_NoSkip_BadEnds ?h_hks_NoSkip_BadNode ?h_hks_NoSkip_BadStart ?h_hks_NoSkip_TwiceAsked ?h_hks_NoSkip_NoNode ?h_hks_NoSkip_NoPosition ?h_hks_NoSkip_BadQuestion ?h_hks_NoSkip_BadMarks ?h_hks_NoSkip_BadLadder ?h_hks_NoSkip_BadCount ?h_hks_NoSkip_BadRelation ?h_hks_NoSkip_BadPositions ?h_hks_NoSkip_NoFinal ?h_hks_NoSkip_NotReached ?h_hks_NoSkip_NoEnd ?h_hks_NoSkip_ZeroBottom ?h_hks_NoSkip_NoChance ?h_hks_NoSkip_BadChance ?h_hks_NoSkip_ZeroPolynomial ?h_hks_NoSkip_BadInterval ?h_hks_NoSkip_NotComing ?h_hks_NoSkip_NoPupils ?h_hks_NoSkip_BadLength ?h_hks_NoSkip_AlikePupils ?h_hks_NoSkip_BadLine ?h_hks_NoSkip_Ended ?h_hks_NoSkip_BadDeed ?h_hks_NotComing_BadEnds ?h_hks_NotComing_BadNode ?h_hks_NotComing_BadStart ?h_hks_NotComing_TwiceAsked ?h_hks_NotComing_NoNode ?h_hks_NotComing_NoPosition ?h_hks_NotComing_BadQuestion ?h_hks_NotComing_BadMarks ?h_hks_NotComing_BadLadder ?h_hks_NotComing_BadCount ?h_hks_NotComing_BadRelation ?h_hks_NotComing_BadPositions ?h_hks_NotComing_NoFinal ?h_hks_NotComing_NotReached ?h_hks_NotComing_NoEnd ?h_hks_NotComing_ZeroBottom ?h_hks_NotComing_NoChance ?h_hks_NotComing_BadChance ?h_hks_NotComing_ZeroPolynomial ?h_hks_NotComing_BadInterval ?h_hks_NotComing_NoSkip ?h_hks_NotComing_NoPupils ?h_hks_NotComing_BadLength ?h_hks_NotComing_AlikePupils ?h_hks_NotComing_BadLine ?h_hks_NotComing_Ended ?h_hks_NotComing_BadDeed ?h_hks_NoPupils_BadEnds ?h_hks_NoPupils_BadNode ?h_hks_NoPupils_BadStart ?h_hks_NoPupils_TwiceAsked ?h_hks_NoPupils_NoNode ?h_hks_NoPupils_NoPosition ?h_hks_NoPupils_BadQuestion ?h_hks_NoPupils_BadMarks ?h_hks_NoPupils_BadLadder ?h_hks_NoPupils_BadCount ?h_hks_NoPupils_BadRelation ?h_hks_NoPupils_BadPositions ?h_hks_NoPupils_NoFinal ?h_hks_NoPupils_NotReached ?h_hks_NoPupils_NoEnd ?h_hks_NoPupils_ZeroBottom ?h_hks_NoPupils_NoChance ?h_hks_NoPupils_BadChance ?h_hks_NoPupils_ZeroPolynomial ?h_hks_NoPupils_BadInterval ?h_hks_NoPupils_NoSkip ?h_hks_NoPupils_NotComing ?h_hks_NoPupils_BadLength ?h_hks_NoPupils_AlikePupils ?h_hks_NoPupils_BadLine ?h_hks_NoPupils_Ended ?h_hks_NoPupils_BadDeed ?h_hks_BadLength_BadEnds ?h_hks_BadLength_BadNode ?h_hks_BadLength_BadStart ?h_hks_BadLength_TwiceAsked ?h_hks_BadLength_NoNode ?h_hks_BadLength_NoPosition ?h_hks_BadLength_BadQuestion ?h_hks_BadLength_BadMarks ?h_hks_BadLength_BadLadder ?h_hks_BadLength_BadCount ?h_hks_BadLength_BadRelation ?h_hks_BadLength_BadPositions ?h_hks_BadLength_NoFinal ?h_hks_BadLength_NotReached ?h_hks_BadLength_NoEnd ?h_hks_BadLength_ZeroBottom ?h_hks_BadLength_NoChance ?h_hks_BadLength_BadChance ?h_hks_BadLength_ZeroPolynomial ?h_hks_BadLength_BadInterval ?h_hks_BadLength_NoSkip ?h_hks_BadLength_NotComing ?h_hks_BadLength_NoPupils ?h_hks_BadLength_AlikePupils ?h_hks_BadLength_BadLine ?h_hks_BadLength_Ended ?h_hks_BadLength_BadDeed ?h_hks_AlikePupils_BadEnds ?h_hks_AlikePupils_BadNode ?h_hks_AlikePupils_BadStart ?h_hks_AlikePupils_TwiceAsked ?h_hks_AlikePupils_NoNode ?h_hks_AlikePupils_NoPosition ?h_hks_AlikePupils_BadQuestion ?h_hks_AlikePupils_BadMarks ?h_hks_AlikePupils_BadLadder ?h_hks_AlikePupils_BadCount ?h_hks_AlikePupils_BadRelation ?h_hks_AlikePupils_BadPositions ?h_hks_AlikePupils_NoFinal ?h_hks_AlikePupils_NotReached ?h_hks_AlikePupils_NoEnd ?h_hks_AlikePupils_ZeroBottom ?h_hks_AlikePupils_NoChance ?h_hks_AlikePupils_BadChance ?h_hks_AlikePupils_ZeroPolynomial ?h_hks_AlikePupils_BadInterval ?h_hks_AlikePupils_NoSkip ?h_hks_AlikePupils_NotComing ?h_hks_AlikePupils_NoPupils ?h_hks_AlikePupils_BadLength ?h_hks_AlikePupils_BadLine ?h_hks_AlikePupils_Ended ?h_hks_AlikePupils_BadDeed ?h_hks_BadLine_BadEnds ?h_hks_BadLine_BadNode ?h_hks_BadLine_BadStart ?h_hks_BadLine_TwiceAsked ?h_hks_BadLine_NoNode ?h_hks_BadLine_NoPosition ?h_hks_BadLine_BadQuestion ?h_hks_BadLine_BadMarks ?h_hks_BadLine_BadLadder ?h_hks_BadLine_BadCount ?h_hks_BadLine_BadRelation ?h_hks_BadLine_BadPositions ?h_hks_BadLine_NoFinal ?h_hks_BadLine_NotReached ?h_hks_BadLine_NoEnd ?h_hks_BadLine_ZeroBottom ?h_hks_BadLine_NoChance ?h_hks_BadLine_BadChance ?h_hks_BadLine_ZeroPolynomial ?h_hks_BadLine_BadInterval ?h_hks_BadLine_NoSkip ?h_hks_BadLine_NotComing ?h_hks_BadLine_NoPupils ?h_hks_BadLine_BadLength ?h_hks_BadLine_AlikePupils ?h_hks_BadLine_Ended ?h_hks_BadLine_BadDeed ?h_hks_Ended_BadEnds ?h_hks_Ended_BadNode ?h_hks_Ended_BadStart ?h_hks_Ended_TwiceAsked ?h_hks_Ended_NoNode ?h_hks_Ended_NoPosition ?h_hks_Ended_BadQuestion ?h_hks_Ended_BadMarks ?h_hks_Ended_BadLadder ?h_hks_Ended_BadCount ?h_hks_Ended_BadRelation ?h_hks_Ended_BadPositions ?h_hks_Ended_NoFinal ?h_hks_Ended_NotReached ?h_hks_Ended_NoEnd ?h_hks_Ended_ZeroBottom ?h_hks_Ended_NoChance ?h_hks_Ended_BadChance ?h_hks_Ended_ZeroPolynomial ?h_hks_Ended_BadInterval ?h_hks_Ended_NoSkip ?h_hks_Ended_NotComing ?h_hks_Ended_NoPupils ?h_hks_Ended_BadLength ?h_hks_Ended_AlikePupils ?h_hks_Ended_BadLine ?h_hks_Ended_BadDeed ?h_hks_BadDeed_BadEnds ?h_hks_BadDeed_BadNode ?h_hks_BadDeed_BadStart ?h_hks_BadDeed_TwiceAsked ?h_hks_BadDeed_NoNode ?h_hks_BadDeed_NoPosition ?h_hks_BadDeed_BadQuestion ?h_hks_BadDeed_BadMarks ?h_hks_BadDeed_BadLadder ?h_hks_BadDeed_BadCount ?h_hks_BadDeed_BadRelation ?h_hks_BadDeed_BadPositions ?h_hks_BadDeed_NoFinal ?h_hks_BadDeed_NotReached ?h_hks_BadDeed_NoEnd ?h_hks_BadDeed_ZeroBottom ?h_hks_BadDeed_NoChance ?h_hks_BadDeed_BadChance ?h_hks_BadDeed_ZeroPolynomial ?h_hks_BadDeed_BadInterval ?h_hks_BadDeed_NoSkip ?h_hks_BadDeed_NotComing ?h_hks_BadDeed_NoPupils ?h_hks_BadDeed_BadLength ?h_hks_BadDeed_AlikePupils ?h_hks_BadDeed_BadLine ?h_hks_BadDeed_Ended ?h_hks_BadEnds_ValueError ?h_hks_BadNode_ValueError ?h_hks_BadStart_ValueError ?h_hks_TwiceAsked_ValueError ?h_hks_NoNode_ValueError ?h_hks_NoPosition_ValueError ?h_hks_BadQuestion_ValueError ?h_hks_BadMarks_ValueError ?h_hks_BadLadder_ValueError ?h_hks_BadCount_ValueError ?h_hks_BadRelation_ValueError ?h_hks_BadPositions_ValueError ?h_hks_NoFinal_ValueError ?h_hks_NotReached_ValueError ?h_hks_NoEnd_ValueError ?h_hks_ZeroBottom_ValueError ?h_hks_NoChance_ValueError ?h_hks_BadChance_ValueError ?h_hks_ZeroPolynomial_ValueError ?h_hks_BadInterval_ValueError ?h_hks_NoSkip_ValueError ?h_hks_NotComing_ValueError ?h_hks_NoPupils_ValueError ?h_hks_BadLength_ValueError ?h_hks_AlikePupils_ValueError ?h_hks_BadLine_ValueError ?h_hks_Ended_ValueError ?h_hks_BadDeed_ValueError ?h_a_BadEnds_init ?h_i_BadEnds_init ?h_l_BadEnds_init ?h_c_BadEnds_init ?h_k_BadEnds_init ?h_a_BadNode_init ?h_i_BadNode_init ?h_l_BadNode_init ?h_c_BadNode_init ?h_k_BadNode_init ?h_a_BadStart_init ?h_i_BadStart_init ?h_l_BadStart_init ?h_c_BadStart_init ?h_k_BadStart_init ?h_a_TwiceAsked_init ?h_i_TwiceAsked_init ?h_l_TwiceAsked_init ?h_c_TwiceAsked_init ?h_k_TwiceAsked_init ?h_a_NoNode_init ?h_i_NoNode_init ?h_l_NoNode_init ?h_c_NoNode_init ?h_k_NoNode_init ?h_a_NoPosition_init ?h_i_NoPosition_init ?h_l_NoPosition_init ?h_c_NoPosition_init ?h_k_NoPosition_init ?h_a_BadQuestion_init ?h_i_BadQuestion_init ?h_l_BadQuestion_init ?h_c_BadQuestion_init ?h_k_BadQuestion_init ?h_a_BadMarks_init ?h_i_BadMarks_init ?h_l_BadMarks_init ?h_c_BadMarks_init ?h_k_BadMarks_init ?h_a_BadLadder_init ?h_i_BadLadder_init ?h_l_BadLadder_init ?h_c_BadLadder_init ?h_k_BadLadder_init ?h_a_BadCount_init ?h_i_BadCount_init ?h_l_BadCount_init ?h_c_BadCount_init ?h_k_BadCount_init ?h_a_BadRelation_init ?h_i_BadRelation_init ?h_l_BadRelation_init ?h_c_BadRelation_init ?h_k_BadRelation_init ?h_a_BadPositions_init ?h_i_BadPositions_init ?h_l_BadPositions_init ?h_c_BadPositions_init ?h_k_BadPositions_init ?h_a_NoFinal_init ?h_i_NoFinal_init ?h_l_NoFinal_init ?h_c_NoFinal_init ?h_k_NoFinal_init ?h_a_NotReached_init ?h_i_NotReached_init ?h_l_NotReached_init ?h_c_NotReached_init ?h_k_NotReached_init ?h_a_NoEnd_init ?h_i_NoEnd_init ?h_l_NoEnd_init ?h_c_NoEnd_init ?h_k_NoEnd_init ?h_a_ZeroBottom_init ?h_i_ZeroBottom_init ?h_l_ZeroBottom_init ?h_c_ZeroBottom_init ?h_k_ZeroBottom_init ?h_a_NoChance_init ?h_i_NoChance_init ?h_l_NoChance_init ?h_c_NoChance_init ?h_k_NoChance_init ?h_a_BadChance_init ?h_i_BadChance_init ?h_l_BadChance_init ?h_c_BadChance_init ?h_k_BadChance_init ?h_a_ZeroPolynomial_init ?h_i_ZeroPolynomial_init ?h_l_ZeroPolynomial_init ?h_c_ZeroPolynomial_init ?h_k_ZeroPolynomial_init ?h_a_BadInterval_init ?h_i_BadInterval_init ?h_l_BadInterval_init ?h_c_BadInterval_init ?h_k_BadInterval_init ?h_a_NoSkip_init ?h_i_NoSkip_init ?h_l_NoSkip_init ?h_c_NoSkip_init ?h_k_NoSkip_init ?h_a_NotComing_init ?h_i_NotComing_init ?h_l_NotComing_init ?h_c_NotComing_init ?h_k_NotComing_init ?h_a_NoPupils_init ?h_i_NoPupils_init ?h_l_NoPupils_init ?h_c_NoPupils_init ?h_k_NoPupils_init ?h_a_BadLength_init ?h_i_BadLength_init ?h_l_BadLength_init ?h_c_BadLength_init ?h_k_BadLength_init ?h_a_AlikePupils_init ?h_i_AlikePupils_init ?h_l_AlikePupils_init ?h_c_AlikePupils_init ?h_k_AlikePupils_init ?h_a_BadLine_init ?h_i_BadLine_init ?h_l_BadLine_init ?h_c_BadLine_init ?h_k_BadLine_init ?h_a_Ended_init ?h_i_Ended_init ?h_l_Ended_init ?h_c_Ended_init ?h_k_Ended_init ?h_a_BadDeed_init ?h_i_BadDeed_init ?h_l_BadDeed_init ?h_c_BadDeed_init ?h_k_BadDeed_init ?h_a_l_pool ?h_l_l_pool ?h_c_l_pool ?h_k_l_pool ?h_a_l_draw ?h_l_l_draw ?h_c_l_draw ?h_k_l_draw ?h_a_l_first ?h_l_l_first ?h_c_l_first ?h_k_l_first ?h_a_l_second ?h_l_l_second ?h_c_l_second ?h_k_l_second ?h_a_l_third ?h_l_l_third ?h_c_l_third ?h_k_l_third ?h_a_l_made ?h_l_l_made ?h_c_l_made ?h_k_l_made ?h_a_l_kinds ?h_l_l_kinds ?h_c_l_kinds ?h_k_l_kinds ?h_a_law ?h_l_law ?h_c_law ?h_k_law ?h_ti_BadEnds ?h_ti_BadNode ?h_ti_BadStart ?h_ti_TwiceAsked ?h_ti_NoNode ?h_ti_NoPosition ?h_ti_BadQuestion ?h_ti_BadMarks ?h_ti_BadLadder ?h_ti_BadCount ?h_ti_BadRelation ?h_ti_BadPositions ?h_ti_NoFinal ?h_ti_NotReached ?h_ti_NoEnd ?h_ti_ZeroBottom ?h_ti_NoChance ?h_ti_BadChance ?h_ti_ZeroPolynomial ?h_ti_BadInterval ?h_ti_NoSkip ?h_ti_NotComing ?h_ti_NoPupils ?h_ti_BadLength ?h_ti_AlikePupils ?h_ti_BadLine ?h_ti_Ended ?h_ti_BadDeed ?h_z_ValueError ?h_z_abs ?h_z_int ?h_z_isinstance ?h_z_len ?h_z_list ?h_z_range ?h_z_tuple
    (case h_g_TestError => k_is)
    (case h_g_BadEnds => k_is)
    (case h_g_BadNode => k_is)
    (case h_g_BadStart => k_is)
    (case h_g_TwiceAsked => k_is)
    (case h_g_NoNode => k_is)
    (case h_g_NoPosition => k_is)
    (case h_g_BadQuestion => k_is)
    (case h_g_BadMarks => k_is)
    (case h_g_BadLadder => k_is)
    (case h_g_BadCount => k_is)
    (case h_g_BadRelation => k_is)
    (case h_g_BadPositions => k_is)
    (case h_g_NoFinal => k_is)
    (case h_g_NotReached => k_is)
    (case h_g_NoEnd => k_is)
    (case h_g_ZeroBottom => k_is)
    (case h_g_NoChance => k_is)
    (case h_g_BadChance => k_is)
    (case h_g_ZeroPolynomial => k_is)
    (case h_g_BadInterval => k_is)
    (case h_g_NoSkip => k_is)
    (case h_g_NotComing => k_is)
    (case h_g_NoPupils => k_is)
    (case h_g_BadLength => k_is)
    (case h_g_AlikePupils => k_is)
    (case h_g_BadLine => k_is)
    (case h_g_Ended => k_is)
    (case h_g_BadDeed => k_is)
    (case h_bga_TestError => k_is)
    (case h_ty_TestError => k_is)
    (case h_brd_TestError => k_is)
    (case h_bfi_TestError => k_is)
    (case h_xl_BadEnds => k_is)
    (case h_sa_BadEnds => k_is)
    (case h_eb_BadEnds => k_is)
    (case h_ty_BadEnds => k_is)
    (case h_kc_BadEnds => k_is)
    (case h_ga_BadEnds => k_is)
    (case h_gg_BadEnds => k_is)
    (case h_hd_BadEnds => k_is)
    (case h_ss_BadEnds => first | rfl | k_is)
    (case h_ic1_BadEnds => k_is)
    (case h_eg2 => k_is)
    (case h_eg3 => k_is)
    (case h_ic4_BadEnds => k_is)
    (case h_nf_BadEnds_count => k_is)
    (case h_sb_BadEnds => k_is)
    (case h_icl_TestError => k_is)
    (case h_xl_BadNode => k_is)
    (case h_sa_BadNode => k_is)
    (case h_eb_BadNode => k_is)
    (case h_ty_BadNode => k_is)
    (case h_kc_BadNode => k_is)
    (case h_ga_BadNode => k_is)
    (case h_gg_BadNode => k_is)
    (case h_hd_BadNode => k_is)
    (case h_ss_BadNode => first | rfl | k_is)
    (case h_ic1_BadNode => k_is)
    (case h_ic4_BadNode => k_is)
    (case h_nf_BadNode_index => k_is)
    (case h_sb_BadNode => k_is)
    (case h_xl_BadStart => k_is)
    (case h_sa_BadStart => k_is)
    (case h_eb_BadStart => k_is)
    (case h_ty_BadStart => k_is)
    (case h_kc_BadStart => k_is)
    (case h_ga_BadStart => k_is)
    (case h_gg_BadStart => k_is)
    (case h_hd_BadStart => k_is)
    (case h_ss_BadStart => first | rfl | k_is)
    (case h_ic1_BadStart => k_is)
    (case h_ic4_BadStart => k_is)
    (case h_nf_BadStart_place => k_is)
    (case h_sb_BadStart => k_is)
    (case h_xl_TwiceAsked => k_is)
    (case h_sa_TwiceAsked => k_is)
    (case h_eb_TwiceAsked => k_is)
    (case h_ty_TwiceAsked => k_is)
    (case h_kc_TwiceAsked => k_is)
    (case h_ga_TwiceAsked => k_is)
    (case h_gg_TwiceAsked => k_is)
    (case h_hd_TwiceAsked => k_is)
    (case h_ss_TwiceAsked => first | rfl | k_is)
    (case h_ic1_TwiceAsked => k_is)
    (case h_ic4_TwiceAsked => k_is)
    (case h_nf_TwiceAsked_index => k_is)
    (case h_sb_TwiceAsked => k_is)
    (case h_xl_NoNode => k_is)
    (case h_sa_NoNode => k_is)
    (case h_eb_NoNode => k_is)
    (case h_ty_NoNode => k_is)
    (case h_kc_NoNode => k_is)
    (case h_ga_NoNode => k_is)
    (case h_gg_NoNode => k_is)
    (case h_hd_NoNode => k_is)
    (case h_ss_NoNode => first | rfl | k_is)
    (case h_ic1_NoNode => k_is)
    (case h_ic4_NoNode => k_is)
    (case h_nf_NoNode_index => k_is)
    (case h_sb_NoNode => k_is)
    (case h_xl_NoPosition => k_is)
    (case h_sa_NoPosition => k_is)
    (case h_eb_NoPosition => k_is)
    (case h_ty_NoPosition => k_is)
    (case h_kc_NoPosition => k_is)
    (case h_ga_NoPosition => k_is)
    (case h_gg_NoPosition => k_is)
    (case h_hd_NoPosition => k_is)
    (case h_ss_NoPosition => first | rfl | k_is)
    (case h_ic1_NoPosition => k_is)
    (case h_ic4_NoPosition => k_is)
    (case h_nf_NoPosition_place => k_is)
    (case h_sb_NoPosition => k_is)
    (case h_xl_BadQuestion => k_is)
    (case h_sa_BadQuestion => k_is)
    (case h_eb_BadQuestion => k_is)
    (case h_ty_BadQuestion => k_is)
    (case h_kc_BadQuestion => k_is)
    (case h_ga_BadQuestion => k_is)
    (case h_gg_BadQuestion => k_is)
    (case h_hd_BadQuestion => k_is)
    (case h_ss_BadQuestion => first | rfl | k_is)
    (case h_ic1_BadQuestion => k_is)
    (case h_ic4_BadQuestion => k_is)
    (case h_nf_BadQuestion_number => k_is)
    (case h_sb_BadQuestion => k_is)
    (case h_xl_BadMarks => k_is)
    (case h_sa_BadMarks => k_is)
    (case h_eb_BadMarks => k_is)
    (case h_ty_BadMarks => k_is)
    (case h_kc_BadMarks => k_is)
    (case h_ga_BadMarks => k_is)
    (case h_gg_BadMarks => k_is)
    (case h_hd_BadMarks => k_is)
    (case h_ss_BadMarks => first | rfl | k_is)
    (case h_ic1_BadMarks => k_is)
    (case h_ic4_BadMarks => k_is)
    (case h_nf_BadMarks_count => k_is)
    (case h_sb_BadMarks => k_is)
    (case h_xl_BadLadder => k_is)
    (case h_sa_BadLadder => k_is)
    (case h_eb_BadLadder => k_is)
    (case h_ty_BadLadder => k_is)
    (case h_kc_BadLadder => k_is)
    (case h_ga_BadLadder => k_is)
    (case h_gg_BadLadder => k_is)
    (case h_hd_BadLadder => k_is)
    (case h_ss_BadLadder => first | rfl | k_is)
    (case h_ic1_BadLadder => k_is)
    (case h_ic4_BadLadder => k_is)
    (case h_nf_BadLadder_word => k_is)
    (case h_sb_BadLadder => k_is)
    (case h_xl_BadCount => k_is)
    (case h_sa_BadCount => k_is)
    (case h_eb_BadCount => k_is)
    (case h_ty_BadCount => k_is)
    (case h_kc_BadCount => k_is)
    (case h_ga_BadCount => k_is)
    (case h_gg_BadCount => k_is)
    (case h_hd_BadCount => k_is)
    (case h_ss_BadCount => first | rfl | k_is)
    (case h_ic1_BadCount => k_is)
    (case h_ic4_BadCount => k_is)
    (case h_nf_BadCount_count => k_is)
    (case h_sb_BadCount => k_is)
    (case h_xl_BadRelation => k_is)
    (case h_sa_BadRelation => k_is)
    (case h_eb_BadRelation => k_is)
    (case h_ty_BadRelation => k_is)
    (case h_kc_BadRelation => k_is)
    (case h_ga_BadRelation => k_is)
    (case h_gg_BadRelation => k_is)
    (case h_hd_BadRelation => k_is)
    (case h_ss_BadRelation => first | rfl | k_is)
    (case h_ic1_BadRelation => k_is)
    (case h_ic4_BadRelation => k_is)
    (case h_nf_BadRelation_word => k_is)
    (case h_sb_BadRelation => k_is)
    (case h_xl_BadPositions => k_is)
    (case h_sa_BadPositions => k_is)
    (case h_eb_BadPositions => k_is)
    (case h_ty_BadPositions => k_is)
    (case h_kc_BadPositions => k_is)
    (case h_ga_BadPositions => k_is)
    (case h_gg_BadPositions => k_is)
    (case h_hd_BadPositions => k_is)
    (case h_ss_BadPositions => first | rfl | k_is)
    (case h_ic1_BadPositions => k_is)
    (case h_ic4_BadPositions => k_is)
    (case h_nf_BadPositions_index => k_is)
    (case h_sb_BadPositions => k_is)
    (case h_xl_NoFinal => k_is)
    (case h_sa_NoFinal => k_is)
    (case h_eb_NoFinal => k_is)
    (case h_ty_NoFinal => k_is)
    (case h_kc_NoFinal => k_is)
    (case h_ga_NoFinal => k_is)
    (case h_gg_NoFinal => k_is)
    (case h_hd_NoFinal => k_is)
    (case h_ss_NoFinal => first | rfl | k_is)
    (case h_ic1_NoFinal => k_is)
    (case h_ic4_NoFinal => k_is)
    (case h_nf_NoFinal_ends => k_is)
    (case h_sb_NoFinal => k_is)
    (case h_xl_NotReached => k_is)
    (case h_sa_NotReached => k_is)
    (case h_eb_NotReached => k_is)
    (case h_ty_NotReached => k_is)
    (case h_kc_NotReached => k_is)
    (case h_ga_NotReached => k_is)
    (case h_gg_NotReached => k_is)
    (case h_hd_NotReached => k_is)
    (case h_ss_NotReached => first | rfl | k_is)
    (case h_ic1_NotReached => k_is)
    (case h_ic4_NotReached => k_is)
    (case h_nf_NotReached_index => k_is)
    (case h_sb_NotReached => k_is)
    (case h_xl_NoEnd => k_is)
    (case h_sa_NoEnd => k_is)
    (case h_eb_NoEnd => k_is)
    (case h_ty_NoEnd => k_is)
    (case h_kc_NoEnd => k_is)
    (case h_ga_NoEnd => k_is)
    (case h_gg_NoEnd => k_is)
    (case h_hd_NoEnd => k_is)
    (case h_ss_NoEnd => first | rfl | k_is)
    (case h_ic1_NoEnd => k_is)
    (case h_ic4_NoEnd => k_is)
    (case h_nf_NoEnd_number => k_is)
    (case h_sb_NoEnd => k_is)
    (case h_xl_ZeroBottom => k_is)
    (case h_sa_ZeroBottom => k_is)
    (case h_eb_ZeroBottom => k_is)
    (case h_ty_ZeroBottom => k_is)
    (case h_kc_ZeroBottom => k_is)
    (case h_ga_ZeroBottom => k_is)
    (case h_gg_ZeroBottom => k_is)
    (case h_hd_ZeroBottom => k_is)
    (case h_ss_ZeroBottom => first | rfl | k_is)
    (case h_ic1_ZeroBottom => k_is)
    (case h_ic4_ZeroBottom => k_is)
    (case h_sb_ZeroBottom => k_is)
    (case h_xl_NoChance => k_is)
    (case h_sa_NoChance => k_is)
    (case h_eb_NoChance => k_is)
    (case h_ty_NoChance => k_is)
    (case h_kc_NoChance => k_is)
    (case h_ga_NoChance => k_is)
    (case h_gg_NoChance => k_is)
    (case h_hd_NoChance => k_is)
    (case h_ss_NoChance => first | rfl | k_is)
    (case h_ic1_NoChance => k_is)
    (case h_ic4_NoChance => k_is)
    (case h_nf_NoChance_number => k_is)
    (case h_sb_NoChance => k_is)
    (case h_xl_BadChance => k_is)
    (case h_sa_BadChance => k_is)
    (case h_eb_BadChance => k_is)
    (case h_ty_BadChance => k_is)
    (case h_kc_BadChance => k_is)
    (case h_ga_BadChance => k_is)
    (case h_gg_BadChance => k_is)
    (case h_hd_BadChance => k_is)
    (case h_ss_BadChance => first | rfl | k_is)
    (case h_ic1_BadChance => k_is)
    (case h_ic4_BadChance => k_is)
    (case h_nf_BadChance_number => k_is)
    (case h_sb_BadChance => k_is)
    (case h_xl_ZeroPolynomial => k_is)
    (case h_sa_ZeroPolynomial => k_is)
    (case h_eb_ZeroPolynomial => k_is)
    (case h_ty_ZeroPolynomial => k_is)
    (case h_kc_ZeroPolynomial => k_is)
    (case h_ga_ZeroPolynomial => k_is)
    (case h_gg_ZeroPolynomial => k_is)
    (case h_hd_ZeroPolynomial => k_is)
    (case h_ss_ZeroPolynomial => first | rfl | k_is)
    (case h_ic1_ZeroPolynomial => k_is)
    (case h_ic4_ZeroPolynomial => k_is)
    (case h_sb_ZeroPolynomial => k_is)
    (case h_xl_BadInterval => k_is)
    (case h_sa_BadInterval => k_is)
    (case h_eb_BadInterval => k_is)
    (case h_ty_BadInterval => k_is)
    (case h_kc_BadInterval => k_is)
    (case h_ga_BadInterval => k_is)
    (case h_gg_BadInterval => k_is)
    (case h_hd_BadInterval => k_is)
    (case h_ss_BadInterval => first | rfl | k_is)
    (case h_ic1_BadInterval => k_is)
    (case h_ic4_BadInterval => k_is)
    (case h_sb_BadInterval => k_is)
    (case h_xl_NoSkip => k_is)
    (case h_sa_NoSkip => k_is)
    (case h_eb_NoSkip => k_is)
    (case h_ty_NoSkip => k_is)
    (case h_kc_NoSkip => k_is)
    (case h_ga_NoSkip => k_is)
    (case h_gg_NoSkip => k_is)
    (case h_hd_NoSkip => k_is)
    (case h_ss_NoSkip => first | rfl | k_is)
    (case h_ic1_NoSkip => k_is)
    (case h_ic4_NoSkip => k_is)
    (case h_nf_NoSkip_index => k_is)
    (case h_sb_NoSkip => k_is)
    (case h_xl_NotComing => k_is)
    (case h_sa_NotComing => k_is)
    (case h_eb_NotComing => k_is)
    (case h_ty_NotComing => k_is)
    (case h_kc_NotComing => k_is)
    (case h_ga_NotComing => k_is)
    (case h_gg_NotComing => k_is)
    (case h_hd_NotComing => k_is)
    (case h_ss_NotComing => first | rfl | k_is)
    (case h_ic1_NotComing => k_is)
    (case h_ic4_NotComing => k_is)
    (case h_nf_NotComing_index => k_is)
    (case h_sb_NotComing => k_is)
    (case h_xl_NoPupils => k_is)
    (case h_sa_NoPupils => k_is)
    (case h_eb_NoPupils => k_is)
    (case h_ty_NoPupils => k_is)
    (case h_kc_NoPupils => k_is)
    (case h_ga_NoPupils => k_is)
    (case h_gg_NoPupils => k_is)
    (case h_hd_NoPupils => k_is)
    (case h_ss_NoPupils => first | rfl | k_is)
    (case h_ic1_NoPupils => k_is)
    (case h_ic4_NoPupils => k_is)
    (case h_sb_NoPupils => k_is)
    (case h_xl_BadLength => k_is)
    (case h_sa_BadLength => k_is)
    (case h_eb_BadLength => k_is)
    (case h_ty_BadLength => k_is)
    (case h_kc_BadLength => k_is)
    (case h_ga_BadLength => k_is)
    (case h_gg_BadLength => k_is)
    (case h_hd_BadLength => k_is)
    (case h_ss_BadLength => first | rfl | k_is)
    (case h_ic1_BadLength => k_is)
    (case h_ic4_BadLength => k_is)
    (case h_nf_BadLength_count => k_is)
    (case h_sb_BadLength => k_is)
    (case h_xl_AlikePupils => k_is)
    (case h_sa_AlikePupils => k_is)
    (case h_eb_AlikePupils => k_is)
    (case h_ty_AlikePupils => k_is)
    (case h_kc_AlikePupils => k_is)
    (case h_ga_AlikePupils => k_is)
    (case h_gg_AlikePupils => k_is)
    (case h_hd_AlikePupils => k_is)
    (case h_ss_AlikePupils => first | rfl | k_is)
    (case h_ic1_AlikePupils => k_is)
    (case h_ic4_AlikePupils => k_is)
    (case h_nf_AlikePupils_first => k_is)
    (case h_nf_AlikePupils_second => k_is)
    (case h_sb_AlikePupils => k_is)
    (case h_xl_BadLine => k_is)
    (case h_sa_BadLine => k_is)
    (case h_eb_BadLine => k_is)
    (case h_ty_BadLine => k_is)
    (case h_kc_BadLine => k_is)
    (case h_ga_BadLine => k_is)
    (case h_gg_BadLine => k_is)
    (case h_hd_BadLine => k_is)
    (case h_ss_BadLine => first | rfl | k_is)
    (case h_ic1_BadLine => k_is)
    (case h_ic4_BadLine => k_is)
    (case h_nf_BadLine_line => k_is)
    (case h_sb_BadLine => k_is)
    (case h_xl_Ended => k_is)
    (case h_sa_Ended => k_is)
    (case h_eb_Ended => k_is)
    (case h_ty_Ended => k_is)
    (case h_kc_Ended => k_is)
    (case h_ga_Ended => k_is)
    (case h_gg_Ended => k_is)
    (case h_hd_Ended => k_is)
    (case h_ss_Ended => first | rfl | k_is)
    (case h_ic1_Ended => k_is)
    (case h_ic4_Ended => k_is)
    (case h_sb_Ended => k_is)
    (case h_xl_BadDeed => k_is)
    (case h_sa_BadDeed => k_is)
    (case h_eb_BadDeed => k_is)
    (case h_ty_BadDeed => k_is)
    (case h_kc_BadDeed => k_is)
    (case h_ga_BadDeed => k_is)
    (case h_gg_BadDeed => k_is)
    (case h_hd_BadDeed => k_is)
    (case h_ss_BadDeed => first | rfl | k_is)
    (case h_ic1_BadDeed => k_is)
    (case h_ic4_BadDeed => k_is)
    (case h_nf_BadDeed_index => k_is)
    (case h_sb_BadDeed => k_is)
    (case h_icl_BadEnds => k_is)
    (case h_icl_BadNode => k_is)
    (case h_icl_BadStart => k_is)
    (case h_icl_TwiceAsked => k_is)
    (case h_icl_NoNode => k_is)
    (case h_icl_NoPosition => k_is)
    (case h_icl_BadQuestion => k_is)
    (case h_icl_BadMarks => k_is)
    (case h_icl_BadLadder => k_is)
    (case h_icl_BadCount => k_is)
    (case h_icl_BadRelation => k_is)
    (case h_icl_BadPositions => k_is)
    (case h_icl_NoFinal => k_is)
    (case h_icl_NotReached => k_is)
    (case h_icl_NoEnd => k_is)
    (case h_icl_ZeroBottom => k_is)
    (case h_icl_NoChance => k_is)
    (case h_icl_BadChance => k_is)
    (case h_icl_ZeroPolynomial => k_is)
    (case h_icl_BadInterval => k_is)
    (case h_icl_NoSkip => k_is)
    (case h_icl_NotComing => k_is)
    (case h_icl_NoPupils => k_is)
    (case h_icl_BadLength => k_is)
    (case h_icl_AlikePupils => k_is)
    (case h_icl_BadLine => k_is)
    (case h_icl_Ended => k_is)
    (case h_icl_BadDeed => k_is)
    (case h_hks_BadEnds_BadNode => k_is)
    (case h_hks_BadEnds_BadStart => k_is)
    (case h_hks_BadEnds_TwiceAsked => k_is)
    (case h_hks_BadEnds_NoNode => k_is)
    (case h_hks_BadEnds_NoPosition => k_is)
    (case h_hks_BadEnds_BadQuestion => k_is)
    (case h_hks_BadEnds_BadMarks => k_is)
    (case h_hks_BadEnds_BadLadder => k_is)
    (case h_hks_BadEnds_BadCount => k_is)
    (case h_hks_BadEnds_BadRelation => k_is)
    (case h_hks_BadEnds_BadPositions => k_is)
    (case h_hks_BadEnds_NoFinal => k_is)
    (case h_hks_BadEnds_NotReached => k_is)
    (case h_hks_BadEnds_NoEnd => k_is)
    (case h_hks_BadEnds_ZeroBottom => k_is)
    (case h_hks_BadEnds_NoChance => k_is)
    (case h_hks_BadEnds_BadChance => k_is)
    (case h_hks_BadEnds_ZeroPolynomial => k_is)
    (case h_hks_BadEnds_BadInterval => k_is)
    (case h_hks_BadEnds_NoSkip => k_is)
    (case h_hks_BadEnds_NotComing => k_is)
    (case h_hks_BadEnds_NoPupils => k_is)
    (case h_hks_BadEnds_BadLength => k_is)
    (case h_hks_BadEnds_AlikePupils => k_is)
    (case h_hks_BadEnds_BadLine => k_is)
    (case h_hks_BadEnds_Ended => k_is)
    (case h_hks_BadEnds_BadDeed => k_is)
    (case h_hks_BadNode_BadEnds => k_is)
    (case h_hks_BadNode_BadStart => k_is)
    (case h_hks_BadNode_TwiceAsked => k_is)
    (case h_hks_BadNode_NoNode => k_is)
    (case h_hks_BadNode_NoPosition => k_is)
    (case h_hks_BadNode_BadQuestion => k_is)
    (case h_hks_BadNode_BadMarks => k_is)
    (case h_hks_BadNode_BadLadder => k_is)
    (case h_hks_BadNode_BadCount => k_is)
    (case h_hks_BadNode_BadRelation => k_is)
    (case h_hks_BadNode_BadPositions => k_is)
    (case h_hks_BadNode_NoFinal => k_is)
    (case h_hks_BadNode_NotReached => k_is)
    (case h_hks_BadNode_NoEnd => k_is)
    (case h_hks_BadNode_ZeroBottom => k_is)
    (case h_hks_BadNode_NoChance => k_is)
    (case h_hks_BadNode_BadChance => k_is)
    (case h_hks_BadNode_ZeroPolynomial => k_is)
    (case h_hks_BadNode_BadInterval => k_is)
    (case h_hks_BadNode_NoSkip => k_is)
    (case h_hks_BadNode_NotComing => k_is)
    (case h_hks_BadNode_NoPupils => k_is)
    (case h_hks_BadNode_BadLength => k_is)
    (case h_hks_BadNode_AlikePupils => k_is)
    (case h_hks_BadNode_BadLine => k_is)
    (case h_hks_BadNode_Ended => k_is)
    (case h_hks_BadNode_BadDeed => k_is)
    (case h_hks_BadStart_BadEnds => k_is)
    (case h_hks_BadStart_BadNode => k_is)
    (case h_hks_BadStart_TwiceAsked => k_is)
    (case h_hks_BadStart_NoNode => k_is)
    (case h_hks_BadStart_NoPosition => k_is)
    (case h_hks_BadStart_BadQuestion => k_is)
    (case h_hks_BadStart_BadMarks => k_is)
    (case h_hks_BadStart_BadLadder => k_is)
    (case h_hks_BadStart_BadCount => k_is)
    (case h_hks_BadStart_BadRelation => k_is)
    (case h_hks_BadStart_BadPositions => k_is)
    (case h_hks_BadStart_NoFinal => k_is)
    (case h_hks_BadStart_NotReached => k_is)
    (case h_hks_BadStart_NoEnd => k_is)
    (case h_hks_BadStart_ZeroBottom => k_is)
    (case h_hks_BadStart_NoChance => k_is)
    (case h_hks_BadStart_BadChance => k_is)
    (case h_hks_BadStart_ZeroPolynomial => k_is)
    (case h_hks_BadStart_BadInterval => k_is)
    (case h_hks_BadStart_NoSkip => k_is)
    (case h_hks_BadStart_NotComing => k_is)
    (case h_hks_BadStart_NoPupils => k_is)
    (case h_hks_BadStart_BadLength => k_is)
    (case h_hks_BadStart_AlikePupils => k_is)
    (case h_hks_BadStart_BadLine => k_is)
    (case h_hks_BadStart_Ended => k_is)
    (case h_hks_BadStart_BadDeed => k_is)
    (case h_hks_TwiceAsked_BadEnds => k_is)
    (case h_hks_TwiceAsked_BadNode => k_is)
    (case h_hks_TwiceAsked_BadStart => k_is)
    (case h_hks_TwiceAsked_NoNode => k_is)
    (case h_hks_TwiceAsked_NoPosition => k_is)
    (case h_hks_TwiceAsked_BadQuestion => k_is)
    (case h_hks_TwiceAsked_BadMarks => k_is)
    (case h_hks_TwiceAsked_BadLadder => k_is)
    (case h_hks_TwiceAsked_BadCount => k_is)
    (case h_hks_TwiceAsked_BadRelation => k_is)
    (case h_hks_TwiceAsked_BadPositions => k_is)
    (case h_hks_TwiceAsked_NoFinal => k_is)
    (case h_hks_TwiceAsked_NotReached => k_is)
    (case h_hks_TwiceAsked_NoEnd => k_is)
    (case h_hks_TwiceAsked_ZeroBottom => k_is)
    (case h_hks_TwiceAsked_NoChance => k_is)
    (case h_hks_TwiceAsked_BadChance => k_is)
    (case h_hks_TwiceAsked_ZeroPolynomial => k_is)
    (case h_hks_TwiceAsked_BadInterval => k_is)
    (case h_hks_TwiceAsked_NoSkip => k_is)
    (case h_hks_TwiceAsked_NotComing => k_is)
    (case h_hks_TwiceAsked_NoPupils => k_is)
    (case h_hks_TwiceAsked_BadLength => k_is)
    (case h_hks_TwiceAsked_AlikePupils => k_is)
    (case h_hks_TwiceAsked_BadLine => k_is)
    (case h_hks_TwiceAsked_Ended => k_is)
    (case h_hks_TwiceAsked_BadDeed => k_is)
    (case h_hks_NoNode_BadEnds => k_is)
    (case h_hks_NoNode_BadNode => k_is)
    (case h_hks_NoNode_BadStart => k_is)
    (case h_hks_NoNode_TwiceAsked => k_is)
    (case h_hks_NoNode_NoPosition => k_is)
    (case h_hks_NoNode_BadQuestion => k_is)
    (case h_hks_NoNode_BadMarks => k_is)
    (case h_hks_NoNode_BadLadder => k_is)
    (case h_hks_NoNode_BadCount => k_is)
    (case h_hks_NoNode_BadRelation => k_is)
    (case h_hks_NoNode_BadPositions => k_is)
    (case h_hks_NoNode_NoFinal => k_is)
    (case h_hks_NoNode_NotReached => k_is)
    (case h_hks_NoNode_NoEnd => k_is)
    (case h_hks_NoNode_ZeroBottom => k_is)
    (case h_hks_NoNode_NoChance => k_is)
    (case h_hks_NoNode_BadChance => k_is)
    (case h_hks_NoNode_ZeroPolynomial => k_is)
    (case h_hks_NoNode_BadInterval => k_is)
    (case h_hks_NoNode_NoSkip => k_is)
    (case h_hks_NoNode_NotComing => k_is)
    (case h_hks_NoNode_NoPupils => k_is)
    (case h_hks_NoNode_BadLength => k_is)
    (case h_hks_NoNode_AlikePupils => k_is)
    (case h_hks_NoNode_BadLine => k_is)
    (case h_hks_NoNode_Ended => k_is)
    (case h_hks_NoNode_BadDeed => k_is)
    (case h_hks_NoPosition_BadEnds => k_is)
    (case h_hks_NoPosition_BadNode => k_is)
    (case h_hks_NoPosition_BadStart => k_is)
    (case h_hks_NoPosition_TwiceAsked => k_is)
    (case h_hks_NoPosition_NoNode => k_is)
    (case h_hks_NoPosition_BadQuestion => k_is)
    (case h_hks_NoPosition_BadMarks => k_is)
    (case h_hks_NoPosition_BadLadder => k_is)
    (case h_hks_NoPosition_BadCount => k_is)
    (case h_hks_NoPosition_BadRelation => k_is)
    (case h_hks_NoPosition_BadPositions => k_is)
    (case h_hks_NoPosition_NoFinal => k_is)
    (case h_hks_NoPosition_NotReached => k_is)
    (case h_hks_NoPosition_NoEnd => k_is)
    (case h_hks_NoPosition_ZeroBottom => k_is)
    (case h_hks_NoPosition_NoChance => k_is)
    (case h_hks_NoPosition_BadChance => k_is)
    (case h_hks_NoPosition_ZeroPolynomial => k_is)
    (case h_hks_NoPosition_BadInterval => k_is)
    (case h_hks_NoPosition_NoSkip => k_is)
    (case h_hks_NoPosition_NotComing => k_is)
    (case h_hks_NoPosition_NoPupils => k_is)
    (case h_hks_NoPosition_BadLength => k_is)
    (case h_hks_NoPosition_AlikePupils => k_is)
    (case h_hks_NoPosition_BadLine => k_is)
    (case h_hks_NoPosition_Ended => k_is)
    (case h_hks_NoPosition_BadDeed => k_is)
    (case h_hks_BadQuestion_BadEnds => k_is)
    (case h_hks_BadQuestion_BadNode => k_is)
    (case h_hks_BadQuestion_BadStart => k_is)
    (case h_hks_BadQuestion_TwiceAsked => k_is)
    (case h_hks_BadQuestion_NoNode => k_is)
    (case h_hks_BadQuestion_NoPosition => k_is)
    (case h_hks_BadQuestion_BadMarks => k_is)
    (case h_hks_BadQuestion_BadLadder => k_is)
    (case h_hks_BadQuestion_BadCount => k_is)
    (case h_hks_BadQuestion_BadRelation => k_is)
    (case h_hks_BadQuestion_BadPositions => k_is)
    (case h_hks_BadQuestion_NoFinal => k_is)
    (case h_hks_BadQuestion_NotReached => k_is)
    (case h_hks_BadQuestion_NoEnd => k_is)
    (case h_hks_BadQuestion_ZeroBottom => k_is)
    (case h_hks_BadQuestion_NoChance => k_is)
    (case h_hks_BadQuestion_BadChance => k_is)
    (case h_hks_BadQuestion_ZeroPolynomial => k_is)
    (case h_hks_BadQuestion_BadInterval => k_is)
    (case h_hks_BadQuestion_NoSkip => k_is)
    (case h_hks_BadQuestion_NotComing => k_is)
    (case h_hks_BadQuestion_NoPupils => k_is)
    (case h_hks_BadQuestion_BadLength => k_is)
    (case h_hks_BadQuestion_AlikePupils => k_is)
    (case h_hks_BadQuestion_BadLine => k_is)
    (case h_hks_BadQuestion_Ended => k_is)
    (case h_hks_BadQuestion_BadDeed => k_is)
    (case h_hks_BadMarks_BadEnds => k_is)
    (case h_hks_BadMarks_BadNode => k_is)
    (case h_hks_BadMarks_BadStart => k_is)
    (case h_hks_BadMarks_TwiceAsked => k_is)
    (case h_hks_BadMarks_NoNode => k_is)
    (case h_hks_BadMarks_NoPosition => k_is)
    (case h_hks_BadMarks_BadQuestion => k_is)
    (case h_hks_BadMarks_BadLadder => k_is)
    (case h_hks_BadMarks_BadCount => k_is)
    (case h_hks_BadMarks_BadRelation => k_is)
    (case h_hks_BadMarks_BadPositions => k_is)
    (case h_hks_BadMarks_NoFinal => k_is)
    (case h_hks_BadMarks_NotReached => k_is)
    (case h_hks_BadMarks_NoEnd => k_is)
    (case h_hks_BadMarks_ZeroBottom => k_is)
    (case h_hks_BadMarks_NoChance => k_is)
    (case h_hks_BadMarks_BadChance => k_is)
    (case h_hks_BadMarks_ZeroPolynomial => k_is)
    (case h_hks_BadMarks_BadInterval => k_is)
    (case h_hks_BadMarks_NoSkip => k_is)
    (case h_hks_BadMarks_NotComing => k_is)
    (case h_hks_BadMarks_NoPupils => k_is)
    (case h_hks_BadMarks_BadLength => k_is)
    (case h_hks_BadMarks_AlikePupils => k_is)
    (case h_hks_BadMarks_BadLine => k_is)
    (case h_hks_BadMarks_Ended => k_is)
    (case h_hks_BadMarks_BadDeed => k_is)
    (case h_hks_BadLadder_BadEnds => k_is)
    (case h_hks_BadLadder_BadNode => k_is)
    (case h_hks_BadLadder_BadStart => k_is)
    (case h_hks_BadLadder_TwiceAsked => k_is)
    (case h_hks_BadLadder_NoNode => k_is)
    (case h_hks_BadLadder_NoPosition => k_is)
    (case h_hks_BadLadder_BadQuestion => k_is)
    (case h_hks_BadLadder_BadMarks => k_is)
    (case h_hks_BadLadder_BadCount => k_is)
    (case h_hks_BadLadder_BadRelation => k_is)
    (case h_hks_BadLadder_BadPositions => k_is)
    (case h_hks_BadLadder_NoFinal => k_is)
    (case h_hks_BadLadder_NotReached => k_is)
    (case h_hks_BadLadder_NoEnd => k_is)
    (case h_hks_BadLadder_ZeroBottom => k_is)
    (case h_hks_BadLadder_NoChance => k_is)
    (case h_hks_BadLadder_BadChance => k_is)
    (case h_hks_BadLadder_ZeroPolynomial => k_is)
    (case h_hks_BadLadder_BadInterval => k_is)
    (case h_hks_BadLadder_NoSkip => k_is)
    (case h_hks_BadLadder_NotComing => k_is)
    (case h_hks_BadLadder_NoPupils => k_is)
    (case h_hks_BadLadder_BadLength => k_is)
    (case h_hks_BadLadder_AlikePupils => k_is)
    (case h_hks_BadLadder_BadLine => k_is)
    (case h_hks_BadLadder_Ended => k_is)
    (case h_hks_BadLadder_BadDeed => k_is)
    (case h_hks_BadCount_BadEnds => k_is)
    (case h_hks_BadCount_BadNode => k_is)
    (case h_hks_BadCount_BadStart => k_is)
    (case h_hks_BadCount_TwiceAsked => k_is)
    (case h_hks_BadCount_NoNode => k_is)
    (case h_hks_BadCount_NoPosition => k_is)
    (case h_hks_BadCount_BadQuestion => k_is)
    (case h_hks_BadCount_BadMarks => k_is)
    (case h_hks_BadCount_BadLadder => k_is)
    (case h_hks_BadCount_BadRelation => k_is)
    (case h_hks_BadCount_BadPositions => k_is)
    (case h_hks_BadCount_NoFinal => k_is)
    (case h_hks_BadCount_NotReached => k_is)
    (case h_hks_BadCount_NoEnd => k_is)
    (case h_hks_BadCount_ZeroBottom => k_is)
    (case h_hks_BadCount_NoChance => k_is)
    (case h_hks_BadCount_BadChance => k_is)
    (case h_hks_BadCount_ZeroPolynomial => k_is)
    (case h_hks_BadCount_BadInterval => k_is)
    (case h_hks_BadCount_NoSkip => k_is)
    (case h_hks_BadCount_NotComing => k_is)
    (case h_hks_BadCount_NoPupils => k_is)
    (case h_hks_BadCount_BadLength => k_is)
    (case h_hks_BadCount_AlikePupils => k_is)
    (case h_hks_BadCount_BadLine => k_is)
    (case h_hks_BadCount_Ended => k_is)
    (case h_hks_BadCount_BadDeed => k_is)
    (case h_hks_BadRelation_BadEnds => k_is)
    (case h_hks_BadRelation_BadNode => k_is)
    (case h_hks_BadRelation_BadStart => k_is)
    (case h_hks_BadRelation_TwiceAsked => k_is)
    (case h_hks_BadRelation_NoNode => k_is)
    (case h_hks_BadRelation_NoPosition => k_is)
    (case h_hks_BadRelation_BadQuestion => k_is)
    (case h_hks_BadRelation_BadMarks => k_is)
    (case h_hks_BadRelation_BadLadder => k_is)
    (case h_hks_BadRelation_BadCount => k_is)
    (case h_hks_BadRelation_BadPositions => k_is)
    (case h_hks_BadRelation_NoFinal => k_is)
    (case h_hks_BadRelation_NotReached => k_is)
    (case h_hks_BadRelation_NoEnd => k_is)
    (case h_hks_BadRelation_ZeroBottom => k_is)
    (case h_hks_BadRelation_NoChance => k_is)
    (case h_hks_BadRelation_BadChance => k_is)
    (case h_hks_BadRelation_ZeroPolynomial => k_is)
    (case h_hks_BadRelation_BadInterval => k_is)
    (case h_hks_BadRelation_NoSkip => k_is)
    (case h_hks_BadRelation_NotComing => k_is)
    (case h_hks_BadRelation_NoPupils => k_is)
    (case h_hks_BadRelation_BadLength => k_is)
    (case h_hks_BadRelation_AlikePupils => k_is)
    (case h_hks_BadRelation_BadLine => k_is)
    (case h_hks_BadRelation_Ended => k_is)
    (case h_hks_BadRelation_BadDeed => k_is)
    (case h_hks_BadPositions_BadEnds => k_is)
    (case h_hks_BadPositions_BadNode => k_is)
    (case h_hks_BadPositions_BadStart => k_is)
    (case h_hks_BadPositions_TwiceAsked => k_is)
    (case h_hks_BadPositions_NoNode => k_is)
    (case h_hks_BadPositions_NoPosition => k_is)
    (case h_hks_BadPositions_BadQuestion => k_is)
    (case h_hks_BadPositions_BadMarks => k_is)
    (case h_hks_BadPositions_BadLadder => k_is)
    (case h_hks_BadPositions_BadCount => k_is)
    (case h_hks_BadPositions_BadRelation => k_is)
    (case h_hks_BadPositions_NoFinal => k_is)
    (case h_hks_BadPositions_NotReached => k_is)
    (case h_hks_BadPositions_NoEnd => k_is)
    (case h_hks_BadPositions_ZeroBottom => k_is)
    (case h_hks_BadPositions_NoChance => k_is)
    (case h_hks_BadPositions_BadChance => k_is)
    (case h_hks_BadPositions_ZeroPolynomial => k_is)
    (case h_hks_BadPositions_BadInterval => k_is)
    (case h_hks_BadPositions_NoSkip => k_is)
    (case h_hks_BadPositions_NotComing => k_is)
    (case h_hks_BadPositions_NoPupils => k_is)
    (case h_hks_BadPositions_BadLength => k_is)
    (case h_hks_BadPositions_AlikePupils => k_is)
    (case h_hks_BadPositions_BadLine => k_is)
    (case h_hks_BadPositions_Ended => k_is)
    (case h_hks_BadPositions_BadDeed => k_is)
    (case h_hks_NoFinal_BadEnds => k_is)
    (case h_hks_NoFinal_BadNode => k_is)
    (case h_hks_NoFinal_BadStart => k_is)
    (case h_hks_NoFinal_TwiceAsked => k_is)
    (case h_hks_NoFinal_NoNode => k_is)
    (case h_hks_NoFinal_NoPosition => k_is)
    (case h_hks_NoFinal_BadQuestion => k_is)
    (case h_hks_NoFinal_BadMarks => k_is)
    (case h_hks_NoFinal_BadLadder => k_is)
    (case h_hks_NoFinal_BadCount => k_is)
    (case h_hks_NoFinal_BadRelation => k_is)
    (case h_hks_NoFinal_BadPositions => k_is)
    (case h_hks_NoFinal_NotReached => k_is)
    (case h_hks_NoFinal_NoEnd => k_is)
    (case h_hks_NoFinal_ZeroBottom => k_is)
    (case h_hks_NoFinal_NoChance => k_is)
    (case h_hks_NoFinal_BadChance => k_is)
    (case h_hks_NoFinal_ZeroPolynomial => k_is)
    (case h_hks_NoFinal_BadInterval => k_is)
    (case h_hks_NoFinal_NoSkip => k_is)
    (case h_hks_NoFinal_NotComing => k_is)
    (case h_hks_NoFinal_NoPupils => k_is)
    (case h_hks_NoFinal_BadLength => k_is)
    (case h_hks_NoFinal_AlikePupils => k_is)
    (case h_hks_NoFinal_BadLine => k_is)
    (case h_hks_NoFinal_Ended => k_is)
    (case h_hks_NoFinal_BadDeed => k_is)
    (case h_hks_NotReached_BadEnds => k_is)
    (case h_hks_NotReached_BadNode => k_is)
    (case h_hks_NotReached_BadStart => k_is)
    (case h_hks_NotReached_TwiceAsked => k_is)
    (case h_hks_NotReached_NoNode => k_is)
    (case h_hks_NotReached_NoPosition => k_is)
    (case h_hks_NotReached_BadQuestion => k_is)
    (case h_hks_NotReached_BadMarks => k_is)
    (case h_hks_NotReached_BadLadder => k_is)
    (case h_hks_NotReached_BadCount => k_is)
    (case h_hks_NotReached_BadRelation => k_is)
    (case h_hks_NotReached_BadPositions => k_is)
    (case h_hks_NotReached_NoFinal => k_is)
    (case h_hks_NotReached_NoEnd => k_is)
    (case h_hks_NotReached_ZeroBottom => k_is)
    (case h_hks_NotReached_NoChance => k_is)
    (case h_hks_NotReached_BadChance => k_is)
    (case h_hks_NotReached_ZeroPolynomial => k_is)
    (case h_hks_NotReached_BadInterval => k_is)
    (case h_hks_NotReached_NoSkip => k_is)
    (case h_hks_NotReached_NotComing => k_is)
    (case h_hks_NotReached_NoPupils => k_is)
    (case h_hks_NotReached_BadLength => k_is)
    (case h_hks_NotReached_AlikePupils => k_is)
    (case h_hks_NotReached_BadLine => k_is)
    (case h_hks_NotReached_Ended => k_is)
    (case h_hks_NotReached_BadDeed => k_is)
    (case h_hks_NoEnd_BadEnds => k_is)
    (case h_hks_NoEnd_BadNode => k_is)
    (case h_hks_NoEnd_BadStart => k_is)
    (case h_hks_NoEnd_TwiceAsked => k_is)
    (case h_hks_NoEnd_NoNode => k_is)
    (case h_hks_NoEnd_NoPosition => k_is)
    (case h_hks_NoEnd_BadQuestion => k_is)
    (case h_hks_NoEnd_BadMarks => k_is)
    (case h_hks_NoEnd_BadLadder => k_is)
    (case h_hks_NoEnd_BadCount => k_is)
    (case h_hks_NoEnd_BadRelation => k_is)
    (case h_hks_NoEnd_BadPositions => k_is)
    (case h_hks_NoEnd_NoFinal => k_is)
    (case h_hks_NoEnd_NotReached => k_is)
    (case h_hks_NoEnd_ZeroBottom => k_is)
    (case h_hks_NoEnd_NoChance => k_is)
    (case h_hks_NoEnd_BadChance => k_is)
    (case h_hks_NoEnd_ZeroPolynomial => k_is)
    (case h_hks_NoEnd_BadInterval => k_is)
    (case h_hks_NoEnd_NoSkip => k_is)
    (case h_hks_NoEnd_NotComing => k_is)
    (case h_hks_NoEnd_NoPupils => k_is)
    (case h_hks_NoEnd_BadLength => k_is)
    (case h_hks_NoEnd_AlikePupils => k_is)
    (case h_hks_NoEnd_BadLine => k_is)
    (case h_hks_NoEnd_Ended => k_is)
    (case h_hks_NoEnd_BadDeed => k_is)
    (case h_hks_ZeroBottom_BadEnds => k_is)
    (case h_hks_ZeroBottom_BadNode => k_is)
    (case h_hks_ZeroBottom_BadStart => k_is)
    (case h_hks_ZeroBottom_TwiceAsked => k_is)
    (case h_hks_ZeroBottom_NoNode => k_is)
    (case h_hks_ZeroBottom_NoPosition => k_is)
    (case h_hks_ZeroBottom_BadQuestion => k_is)
    (case h_hks_ZeroBottom_BadMarks => k_is)
    (case h_hks_ZeroBottom_BadLadder => k_is)
    (case h_hks_ZeroBottom_BadCount => k_is)
    (case h_hks_ZeroBottom_BadRelation => k_is)
    (case h_hks_ZeroBottom_BadPositions => k_is)
    (case h_hks_ZeroBottom_NoFinal => k_is)
    (case h_hks_ZeroBottom_NotReached => k_is)
    (case h_hks_ZeroBottom_NoEnd => k_is)
    (case h_hks_ZeroBottom_NoChance => k_is)
    (case h_hks_ZeroBottom_BadChance => k_is)
    (case h_hks_ZeroBottom_ZeroPolynomial => k_is)
    (case h_hks_ZeroBottom_BadInterval => k_is)
    (case h_hks_ZeroBottom_NoSkip => k_is)
    (case h_hks_ZeroBottom_NotComing => k_is)
    (case h_hks_ZeroBottom_NoPupils => k_is)
    (case h_hks_ZeroBottom_BadLength => k_is)
    (case h_hks_ZeroBottom_AlikePupils => k_is)
    (case h_hks_ZeroBottom_BadLine => k_is)
    (case h_hks_ZeroBottom_Ended => k_is)
    (case h_hks_ZeroBottom_BadDeed => k_is)
    (case h_hks_NoChance_BadEnds => k_is)
    (case h_hks_NoChance_BadNode => k_is)
    (case h_hks_NoChance_BadStart => k_is)
    (case h_hks_NoChance_TwiceAsked => k_is)
    (case h_hks_NoChance_NoNode => k_is)
    (case h_hks_NoChance_NoPosition => k_is)
    (case h_hks_NoChance_BadQuestion => k_is)
    (case h_hks_NoChance_BadMarks => k_is)
    (case h_hks_NoChance_BadLadder => k_is)
    (case h_hks_NoChance_BadCount => k_is)
    (case h_hks_NoChance_BadRelation => k_is)
    (case h_hks_NoChance_BadPositions => k_is)
    (case h_hks_NoChance_NoFinal => k_is)
    (case h_hks_NoChance_NotReached => k_is)
    (case h_hks_NoChance_NoEnd => k_is)
    (case h_hks_NoChance_ZeroBottom => k_is)
    (case h_hks_NoChance_BadChance => k_is)
    (case h_hks_NoChance_ZeroPolynomial => k_is)
    (case h_hks_NoChance_BadInterval => k_is)
    (case h_hks_NoChance_NoSkip => k_is)
    (case h_hks_NoChance_NotComing => k_is)
    (case h_hks_NoChance_NoPupils => k_is)
    (case h_hks_NoChance_BadLength => k_is)
    (case h_hks_NoChance_AlikePupils => k_is)
    (case h_hks_NoChance_BadLine => k_is)
    (case h_hks_NoChance_Ended => k_is)
    (case h_hks_NoChance_BadDeed => k_is)
    (case h_hks_BadChance_BadEnds => k_is)
    (case h_hks_BadChance_BadNode => k_is)
    (case h_hks_BadChance_BadStart => k_is)
    (case h_hks_BadChance_TwiceAsked => k_is)
    (case h_hks_BadChance_NoNode => k_is)
    (case h_hks_BadChance_NoPosition => k_is)
    (case h_hks_BadChance_BadQuestion => k_is)
    (case h_hks_BadChance_BadMarks => k_is)
    (case h_hks_BadChance_BadLadder => k_is)
    (case h_hks_BadChance_BadCount => k_is)
    (case h_hks_BadChance_BadRelation => k_is)
    (case h_hks_BadChance_BadPositions => k_is)
    (case h_hks_BadChance_NoFinal => k_is)
    (case h_hks_BadChance_NotReached => k_is)
    (case h_hks_BadChance_NoEnd => k_is)
    (case h_hks_BadChance_ZeroBottom => k_is)
    (case h_hks_BadChance_NoChance => k_is)
    (case h_hks_BadChance_ZeroPolynomial => k_is)
    (case h_hks_BadChance_BadInterval => k_is)
    (case h_hks_BadChance_NoSkip => k_is)
    (case h_hks_BadChance_NotComing => k_is)
    (case h_hks_BadChance_NoPupils => k_is)
    (case h_hks_BadChance_BadLength => k_is)
    (case h_hks_BadChance_AlikePupils => k_is)
    (case h_hks_BadChance_BadLine => k_is)
    (case h_hks_BadChance_Ended => k_is)
    (case h_hks_BadChance_BadDeed => k_is)
    (case h_hks_ZeroPolynomial_BadEnds => k_is)
    (case h_hks_ZeroPolynomial_BadNode => k_is)
    (case h_hks_ZeroPolynomial_BadStart => k_is)
    (case h_hks_ZeroPolynomial_TwiceAsked => k_is)
    (case h_hks_ZeroPolynomial_NoNode => k_is)
    (case h_hks_ZeroPolynomial_NoPosition => k_is)
    (case h_hks_ZeroPolynomial_BadQuestion => k_is)
    (case h_hks_ZeroPolynomial_BadMarks => k_is)
    (case h_hks_ZeroPolynomial_BadLadder => k_is)
    (case h_hks_ZeroPolynomial_BadCount => k_is)
    (case h_hks_ZeroPolynomial_BadRelation => k_is)
    (case h_hks_ZeroPolynomial_BadPositions => k_is)
    (case h_hks_ZeroPolynomial_NoFinal => k_is)
    (case h_hks_ZeroPolynomial_NotReached => k_is)
    (case h_hks_ZeroPolynomial_NoEnd => k_is)
    (case h_hks_ZeroPolynomial_ZeroBottom => k_is)
    (case h_hks_ZeroPolynomial_NoChance => k_is)
    (case h_hks_ZeroPolynomial_BadChance => k_is)
    (case h_hks_ZeroPolynomial_BadInterval => k_is)
    (case h_hks_ZeroPolynomial_NoSkip => k_is)
    (case h_hks_ZeroPolynomial_NotComing => k_is)
    (case h_hks_ZeroPolynomial_NoPupils => k_is)
    (case h_hks_ZeroPolynomial_BadLength => k_is)
    (case h_hks_ZeroPolynomial_AlikePupils => k_is)
    (case h_hks_ZeroPolynomial_BadLine => k_is)
    (case h_hks_ZeroPolynomial_Ended => k_is)
    (case h_hks_ZeroPolynomial_BadDeed => k_is)
    (case h_hks_BadInterval_BadEnds => k_is)
    (case h_hks_BadInterval_BadNode => k_is)
    (case h_hks_BadInterval_BadStart => k_is)
    (case h_hks_BadInterval_TwiceAsked => k_is)
    (case h_hks_BadInterval_NoNode => k_is)
    (case h_hks_BadInterval_NoPosition => k_is)
    (case h_hks_BadInterval_BadQuestion => k_is)
    (case h_hks_BadInterval_BadMarks => k_is)
    (case h_hks_BadInterval_BadLadder => k_is)
    (case h_hks_BadInterval_BadCount => k_is)
    (case h_hks_BadInterval_BadRelation => k_is)
    (case h_hks_BadInterval_BadPositions => k_is)
    (case h_hks_BadInterval_NoFinal => k_is)
    (case h_hks_BadInterval_NotReached => k_is)
    (case h_hks_BadInterval_NoEnd => k_is)
    (case h_hks_BadInterval_ZeroBottom => k_is)
    (case h_hks_BadInterval_NoChance => k_is)
    (case h_hks_BadInterval_BadChance => k_is)
    (case h_hks_BadInterval_ZeroPolynomial => k_is)
    (case h_hks_BadInterval_NoSkip => k_is)
    (case h_hks_BadInterval_NotComing => k_is)
    (case h_hks_BadInterval_NoPupils => k_is)
    (case h_hks_BadInterval_BadLength => k_is)
    (case h_hks_BadInterval_AlikePupils => k_is)
    (case h_hks_BadInterval_BadLine => k_is)
    (case h_hks_BadInterval_Ended => k_is)
    (case h_hks_BadInterval_BadDeed => k_is)
    (case h_hks_NoSkip_BadEnds => k_is)
    (case h_hks_NoSkip_BadNode => k_is)
    (case h_hks_NoSkip_BadStart => k_is)
    (case h_hks_NoSkip_TwiceAsked => k_is)
    (case h_hks_NoSkip_NoNode => k_is)
    (case h_hks_NoSkip_NoPosition => k_is)
    (case h_hks_NoSkip_BadQuestion => k_is)
    (case h_hks_NoSkip_BadMarks => k_is)
    (case h_hks_NoSkip_BadLadder => k_is)
    (case h_hks_NoSkip_BadCount => k_is)
    (case h_hks_NoSkip_BadRelation => k_is)
    (case h_hks_NoSkip_BadPositions => k_is)
    (case h_hks_NoSkip_NoFinal => k_is)
    (case h_hks_NoSkip_NotReached => k_is)
    (case h_hks_NoSkip_NoEnd => k_is)
    (case h_hks_NoSkip_ZeroBottom => k_is)
    (case h_hks_NoSkip_NoChance => k_is)
    (case h_hks_NoSkip_BadChance => k_is)
    (case h_hks_NoSkip_ZeroPolynomial => k_is)
    (case h_hks_NoSkip_BadInterval => k_is)
    (case h_hks_NoSkip_NotComing => k_is)
    (case h_hks_NoSkip_NoPupils => k_is)
    (case h_hks_NoSkip_BadLength => k_is)
    (case h_hks_NoSkip_AlikePupils => k_is)
    (case h_hks_NoSkip_BadLine => k_is)
    (case h_hks_NoSkip_Ended => k_is)
    (case h_hks_NoSkip_BadDeed => k_is)
    (case h_hks_NotComing_BadEnds => k_is)
    (case h_hks_NotComing_BadNode => k_is)
    (case h_hks_NotComing_BadStart => k_is)
    (case h_hks_NotComing_TwiceAsked => k_is)
    (case h_hks_NotComing_NoNode => k_is)
    (case h_hks_NotComing_NoPosition => k_is)
    (case h_hks_NotComing_BadQuestion => k_is)
    (case h_hks_NotComing_BadMarks => k_is)
    (case h_hks_NotComing_BadLadder => k_is)
    (case h_hks_NotComing_BadCount => k_is)
    (case h_hks_NotComing_BadRelation => k_is)
    (case h_hks_NotComing_BadPositions => k_is)
    (case h_hks_NotComing_NoFinal => k_is)
    (case h_hks_NotComing_NotReached => k_is)
    (case h_hks_NotComing_NoEnd => k_is)
    (case h_hks_NotComing_ZeroBottom => k_is)
    (case h_hks_NotComing_NoChance => k_is)
    (case h_hks_NotComing_BadChance => k_is)
    (case h_hks_NotComing_ZeroPolynomial => k_is)
    (case h_hks_NotComing_BadInterval => k_is)
    (case h_hks_NotComing_NoSkip => k_is)
    (case h_hks_NotComing_NoPupils => k_is)
    (case h_hks_NotComing_BadLength => k_is)
    (case h_hks_NotComing_AlikePupils => k_is)
    (case h_hks_NotComing_BadLine => k_is)
    (case h_hks_NotComing_Ended => k_is)
    (case h_hks_NotComing_BadDeed => k_is)
    (case h_hks_NoPupils_BadEnds => k_is)
    (case h_hks_NoPupils_BadNode => k_is)
    (case h_hks_NoPupils_BadStart => k_is)
    (case h_hks_NoPupils_TwiceAsked => k_is)
    (case h_hks_NoPupils_NoNode => k_is)
    (case h_hks_NoPupils_NoPosition => k_is)
    (case h_hks_NoPupils_BadQuestion => k_is)
    (case h_hks_NoPupils_BadMarks => k_is)
    (case h_hks_NoPupils_BadLadder => k_is)
    (case h_hks_NoPupils_BadCount => k_is)
    (case h_hks_NoPupils_BadRelation => k_is)
    (case h_hks_NoPupils_BadPositions => k_is)
    (case h_hks_NoPupils_NoFinal => k_is)
    (case h_hks_NoPupils_NotReached => k_is)
    (case h_hks_NoPupils_NoEnd => k_is)
    (case h_hks_NoPupils_ZeroBottom => k_is)
    (case h_hks_NoPupils_NoChance => k_is)
    (case h_hks_NoPupils_BadChance => k_is)
    (case h_hks_NoPupils_ZeroPolynomial => k_is)
    (case h_hks_NoPupils_BadInterval => k_is)
    (case h_hks_NoPupils_NoSkip => k_is)
    (case h_hks_NoPupils_NotComing => k_is)
    (case h_hks_NoPupils_BadLength => k_is)
    (case h_hks_NoPupils_AlikePupils => k_is)
    (case h_hks_NoPupils_BadLine => k_is)
    (case h_hks_NoPupils_Ended => k_is)
    (case h_hks_NoPupils_BadDeed => k_is)
    (case h_hks_BadLength_BadEnds => k_is)
    (case h_hks_BadLength_BadNode => k_is)
    (case h_hks_BadLength_BadStart => k_is)
    (case h_hks_BadLength_TwiceAsked => k_is)
    (case h_hks_BadLength_NoNode => k_is)
    (case h_hks_BadLength_NoPosition => k_is)
    (case h_hks_BadLength_BadQuestion => k_is)
    (case h_hks_BadLength_BadMarks => k_is)
    (case h_hks_BadLength_BadLadder => k_is)
    (case h_hks_BadLength_BadCount => k_is)
    (case h_hks_BadLength_BadRelation => k_is)
    (case h_hks_BadLength_BadPositions => k_is)
    (case h_hks_BadLength_NoFinal => k_is)
    (case h_hks_BadLength_NotReached => k_is)
    (case h_hks_BadLength_NoEnd => k_is)
    (case h_hks_BadLength_ZeroBottom => k_is)
    (case h_hks_BadLength_NoChance => k_is)
    (case h_hks_BadLength_BadChance => k_is)
    (case h_hks_BadLength_ZeroPolynomial => k_is)
    (case h_hks_BadLength_BadInterval => k_is)
    (case h_hks_BadLength_NoSkip => k_is)
    (case h_hks_BadLength_NotComing => k_is)
    (case h_hks_BadLength_NoPupils => k_is)
    (case h_hks_BadLength_AlikePupils => k_is)
    (case h_hks_BadLength_BadLine => k_is)
    (case h_hks_BadLength_Ended => k_is)
    (case h_hks_BadLength_BadDeed => k_is)
    (case h_hks_AlikePupils_BadEnds => k_is)
    (case h_hks_AlikePupils_BadNode => k_is)
    (case h_hks_AlikePupils_BadStart => k_is)
    (case h_hks_AlikePupils_TwiceAsked => k_is)
    (case h_hks_AlikePupils_NoNode => k_is)
    (case h_hks_AlikePupils_NoPosition => k_is)
    (case h_hks_AlikePupils_BadQuestion => k_is)
    (case h_hks_AlikePupils_BadMarks => k_is)
    (case h_hks_AlikePupils_BadLadder => k_is)
    (case h_hks_AlikePupils_BadCount => k_is)
    (case h_hks_AlikePupils_BadRelation => k_is)
    (case h_hks_AlikePupils_BadPositions => k_is)
    (case h_hks_AlikePupils_NoFinal => k_is)
    (case h_hks_AlikePupils_NotReached => k_is)
    (case h_hks_AlikePupils_NoEnd => k_is)
    (case h_hks_AlikePupils_ZeroBottom => k_is)
    (case h_hks_AlikePupils_NoChance => k_is)
    (case h_hks_AlikePupils_BadChance => k_is)
    (case h_hks_AlikePupils_ZeroPolynomial => k_is)
    (case h_hks_AlikePupils_BadInterval => k_is)
    (case h_hks_AlikePupils_NoSkip => k_is)
    (case h_hks_AlikePupils_NotComing => k_is)
    (case h_hks_AlikePupils_NoPupils => k_is)
    (case h_hks_AlikePupils_BadLength => k_is)
    (case h_hks_AlikePupils_BadLine => k_is)
    (case h_hks_AlikePupils_Ended => k_is)
    (case h_hks_AlikePupils_BadDeed => k_is)
    (case h_hks_BadLine_BadEnds => k_is)
    (case h_hks_BadLine_BadNode => k_is)
    (case h_hks_BadLine_BadStart => k_is)
    (case h_hks_BadLine_TwiceAsked => k_is)
    (case h_hks_BadLine_NoNode => k_is)
    (case h_hks_BadLine_NoPosition => k_is)
    (case h_hks_BadLine_BadQuestion => k_is)
    (case h_hks_BadLine_BadMarks => k_is)
    (case h_hks_BadLine_BadLadder => k_is)
    (case h_hks_BadLine_BadCount => k_is)
    (case h_hks_BadLine_BadRelation => k_is)
    (case h_hks_BadLine_BadPositions => k_is)
    (case h_hks_BadLine_NoFinal => k_is)
    (case h_hks_BadLine_NotReached => k_is)
    (case h_hks_BadLine_NoEnd => k_is)
    (case h_hks_BadLine_ZeroBottom => k_is)
    (case h_hks_BadLine_NoChance => k_is)
    (case h_hks_BadLine_BadChance => k_is)
    (case h_hks_BadLine_ZeroPolynomial => k_is)
    (case h_hks_BadLine_BadInterval => k_is)
    (case h_hks_BadLine_NoSkip => k_is)
    (case h_hks_BadLine_NotComing => k_is)
    (case h_hks_BadLine_NoPupils => k_is)
    (case h_hks_BadLine_BadLength => k_is)
    (case h_hks_BadLine_AlikePupils => k_is)
    (case h_hks_BadLine_Ended => k_is)
    (case h_hks_BadLine_BadDeed => k_is)
    (case h_hks_Ended_BadEnds => k_is)
    (case h_hks_Ended_BadNode => k_is)
    (case h_hks_Ended_BadStart => k_is)
    (case h_hks_Ended_TwiceAsked => k_is)
    (case h_hks_Ended_NoNode => k_is)
    (case h_hks_Ended_NoPosition => k_is)
    (case h_hks_Ended_BadQuestion => k_is)
    (case h_hks_Ended_BadMarks => k_is)
    (case h_hks_Ended_BadLadder => k_is)
    (case h_hks_Ended_BadCount => k_is)
    (case h_hks_Ended_BadRelation => k_is)
    (case h_hks_Ended_BadPositions => k_is)
    (case h_hks_Ended_NoFinal => k_is)
    (case h_hks_Ended_NotReached => k_is)
    (case h_hks_Ended_NoEnd => k_is)
    (case h_hks_Ended_ZeroBottom => k_is)
    (case h_hks_Ended_NoChance => k_is)
    (case h_hks_Ended_BadChance => k_is)
    (case h_hks_Ended_ZeroPolynomial => k_is)
    (case h_hks_Ended_BadInterval => k_is)
    (case h_hks_Ended_NoSkip => k_is)
    (case h_hks_Ended_NotComing => k_is)
    (case h_hks_Ended_NoPupils => k_is)
    (case h_hks_Ended_BadLength => k_is)
    (case h_hks_Ended_AlikePupils => k_is)
    (case h_hks_Ended_BadLine => k_is)
    (case h_hks_Ended_BadDeed => k_is)
    (case h_hks_BadDeed_BadEnds => k_is)
    (case h_hks_BadDeed_BadNode => k_is)
    (case h_hks_BadDeed_BadStart => k_is)
    (case h_hks_BadDeed_TwiceAsked => k_is)
    (case h_hks_BadDeed_NoNode => k_is)
    (case h_hks_BadDeed_NoPosition => k_is)
    (case h_hks_BadDeed_BadQuestion => k_is)
    (case h_hks_BadDeed_BadMarks => k_is)
    (case h_hks_BadDeed_BadLadder => k_is)
    (case h_hks_BadDeed_BadCount => k_is)
    (case h_hks_BadDeed_BadRelation => k_is)
    (case h_hks_BadDeed_BadPositions => k_is)
    (case h_hks_BadDeed_NoFinal => k_is)
    (case h_hks_BadDeed_NotReached => k_is)
    (case h_hks_BadDeed_NoEnd => k_is)
    (case h_hks_BadDeed_ZeroBottom => k_is)
    (case h_hks_BadDeed_NoChance => k_is)
    (case h_hks_BadDeed_BadChance => k_is)
    (case h_hks_BadDeed_ZeroPolynomial => k_is)
    (case h_hks_BadDeed_BadInterval => k_is)
    (case h_hks_BadDeed_NoSkip => k_is)
    (case h_hks_BadDeed_NotComing => k_is)
    (case h_hks_BadDeed_NoPupils => k_is)
    (case h_hks_BadDeed_BadLength => k_is)
    (case h_hks_BadDeed_AlikePupils => k_is)
    (case h_hks_BadDeed_BadLine => k_is)
    (case h_hks_BadDeed_Ended => k_is)
    (case h_hks_BadEnds_ValueError => k_is)
    (case h_hks_BadNode_ValueError => k_is)
    (case h_hks_BadStart_ValueError => k_is)
    (case h_hks_TwiceAsked_ValueError => k_is)
    (case h_hks_NoNode_ValueError => k_is)
    (case h_hks_NoPosition_ValueError => k_is)
    (case h_hks_BadQuestion_ValueError => k_is)
    (case h_hks_BadMarks_ValueError => k_is)
    (case h_hks_BadLadder_ValueError => k_is)
    (case h_hks_BadCount_ValueError => k_is)
    (case h_hks_BadRelation_ValueError => k_is)
    (case h_hks_BadPositions_ValueError => k_is)
    (case h_hks_NoFinal_ValueError => k_is)
    (case h_hks_NotReached_ValueError => k_is)
    (case h_hks_NoEnd_ValueError => k_is)
    (case h_hks_ZeroBottom_ValueError => k_is)
    (case h_hks_NoChance_ValueError => k_is)
    (case h_hks_BadChance_ValueError => k_is)
    (case h_hks_ZeroPolynomial_ValueError => k_is)
    (case h_hks_BadInterval_ValueError => k_is)
    (case h_hks_NoSkip_ValueError => k_is)
    (case h_hks_NotComing_ValueError => k_is)
    (case h_hks_NoPupils_ValueError => k_is)
    (case h_hks_BadLength_ValueError => k_is)
    (case h_hks_AlikePupils_ValueError => k_is)
    (case h_hks_BadLine_ValueError => k_is)
    (case h_hks_Ended_ValueError => k_is)
    (case h_hks_BadDeed_ValueError => k_is)
    (case h_a_BadEnds_init => k_is)
    (case h_i_BadEnds_init => k_is)
    (case h_l_BadEnds_init => k_is)
    (case h_c_BadEnds_init => k_is)
    (case h_k_BadEnds_init => k_is)
    (case h_a_BadNode_init => k_is)
    (case h_i_BadNode_init => k_is)
    (case h_l_BadNode_init => k_is)
    (case h_c_BadNode_init => k_is)
    (case h_k_BadNode_init => k_is)
    (case h_a_BadStart_init => k_is)
    (case h_i_BadStart_init => k_is)
    (case h_l_BadStart_init => k_is)
    (case h_c_BadStart_init => k_is)
    (case h_k_BadStart_init => k_is)
    (case h_a_TwiceAsked_init => k_is)
    (case h_i_TwiceAsked_init => k_is)
    (case h_l_TwiceAsked_init => k_is)
    (case h_c_TwiceAsked_init => k_is)
    (case h_k_TwiceAsked_init => k_is)
    (case h_a_NoNode_init => k_is)
    (case h_i_NoNode_init => k_is)
    (case h_l_NoNode_init => k_is)
    (case h_c_NoNode_init => k_is)
    (case h_k_NoNode_init => k_is)
    (case h_a_NoPosition_init => k_is)
    (case h_i_NoPosition_init => k_is)
    (case h_l_NoPosition_init => k_is)
    (case h_c_NoPosition_init => k_is)
    (case h_k_NoPosition_init => k_is)
    (case h_a_BadQuestion_init => k_is)
    (case h_i_BadQuestion_init => k_is)
    (case h_l_BadQuestion_init => k_is)
    (case h_c_BadQuestion_init => k_is)
    (case h_k_BadQuestion_init => k_is)
    (case h_a_BadMarks_init => k_is)
    (case h_i_BadMarks_init => k_is)
    (case h_l_BadMarks_init => k_is)
    (case h_c_BadMarks_init => k_is)
    (case h_k_BadMarks_init => k_is)
    (case h_a_BadLadder_init => k_is)
    (case h_i_BadLadder_init => k_is)
    (case h_l_BadLadder_init => k_is)
    (case h_c_BadLadder_init => k_is)
    (case h_k_BadLadder_init => k_is)
    (case h_a_BadCount_init => k_is)
    (case h_i_BadCount_init => k_is)
    (case h_l_BadCount_init => k_is)
    (case h_c_BadCount_init => k_is)
    (case h_k_BadCount_init => k_is)
    (case h_a_BadRelation_init => k_is)
    (case h_i_BadRelation_init => k_is)
    (case h_l_BadRelation_init => k_is)
    (case h_c_BadRelation_init => k_is)
    (case h_k_BadRelation_init => k_is)
    (case h_a_BadPositions_init => k_is)
    (case h_i_BadPositions_init => k_is)
    (case h_l_BadPositions_init => k_is)
    (case h_c_BadPositions_init => k_is)
    (case h_k_BadPositions_init => k_is)
    (case h_a_NoFinal_init => k_is)
    (case h_i_NoFinal_init => k_is)
    (case h_l_NoFinal_init => k_is)
    (case h_c_NoFinal_init => k_is)
    (case h_k_NoFinal_init => k_is)
    (case h_a_NotReached_init => k_is)
    (case h_i_NotReached_init => k_is)
    (case h_l_NotReached_init => k_is)
    (case h_c_NotReached_init => k_is)
    (case h_k_NotReached_init => k_is)
    (case h_a_NoEnd_init => k_is)
    (case h_i_NoEnd_init => k_is)
    (case h_l_NoEnd_init => k_is)
    (case h_c_NoEnd_init => k_is)
    (case h_k_NoEnd_init => k_is)
    (case h_a_ZeroBottom_init => k_is)
    (case h_i_ZeroBottom_init => k_is)
    (case h_l_ZeroBottom_init => k_is)
    (case h_c_ZeroBottom_init => k_is)
    (case h_k_ZeroBottom_init => k_is)
    (case h_a_NoChance_init => k_is)
    (case h_i_NoChance_init => k_is)
    (case h_l_NoChance_init => k_is)
    (case h_c_NoChance_init => k_is)
    (case h_k_NoChance_init => k_is)
    (case h_a_BadChance_init => k_is)
    (case h_i_BadChance_init => k_is)
    (case h_l_BadChance_init => k_is)
    (case h_c_BadChance_init => k_is)
    (case h_k_BadChance_init => k_is)
    (case h_a_ZeroPolynomial_init => k_is)
    (case h_i_ZeroPolynomial_init => k_is)
    (case h_l_ZeroPolynomial_init => k_is)
    (case h_c_ZeroPolynomial_init => k_is)
    (case h_k_ZeroPolynomial_init => k_is)
    (case h_a_BadInterval_init => k_is)
    (case h_i_BadInterval_init => k_is)
    (case h_l_BadInterval_init => k_is)
    (case h_c_BadInterval_init => k_is)
    (case h_k_BadInterval_init => k_is)
    (case h_a_NoSkip_init => k_is)
    (case h_i_NoSkip_init => k_is)
    (case h_l_NoSkip_init => k_is)
    (case h_c_NoSkip_init => k_is)
    (case h_k_NoSkip_init => k_is)
    (case h_a_NotComing_init => k_is)
    (case h_i_NotComing_init => k_is)
    (case h_l_NotComing_init => k_is)
    (case h_c_NotComing_init => k_is)
    (case h_k_NotComing_init => k_is)
    (case h_a_NoPupils_init => k_is)
    (case h_i_NoPupils_init => k_is)
    (case h_l_NoPupils_init => k_is)
    (case h_c_NoPupils_init => k_is)
    (case h_k_NoPupils_init => k_is)
    (case h_a_BadLength_init => k_is)
    (case h_i_BadLength_init => k_is)
    (case h_l_BadLength_init => k_is)
    (case h_c_BadLength_init => k_is)
    (case h_k_BadLength_init => k_is)
    (case h_a_AlikePupils_init => k_is)
    (case h_i_AlikePupils_init => k_is)
    (case h_l_AlikePupils_init => k_is)
    (case h_c_AlikePupils_init => k_is)
    (case h_k_AlikePupils_init => k_is)
    (case h_a_BadLine_init => k_is)
    (case h_i_BadLine_init => k_is)
    (case h_l_BadLine_init => k_is)
    (case h_c_BadLine_init => k_is)
    (case h_k_BadLine_init => k_is)
    (case h_a_Ended_init => k_is)
    (case h_i_Ended_init => k_is)
    (case h_l_Ended_init => k_is)
    (case h_c_Ended_init => k_is)
    (case h_k_Ended_init => k_is)
    (case h_a_BadDeed_init => k_is)
    (case h_i_BadDeed_init => k_is)
    (case h_l_BadDeed_init => k_is)
    (case h_c_BadDeed_init => k_is)
    (case h_k_BadDeed_init => k_is)
    (case h_a_l_pool => k_is)
    (case h_l_l_pool => k_is)
    (case h_c_l_pool => k_is)
    (case h_k_l_pool => k_is)
    (case h_a_l_draw => k_is)
    (case h_l_l_draw => k_is)
    (case h_c_l_draw => k_is)
    (case h_k_l_draw => k_is)
    (case h_a_l_first => k_is)
    (case h_l_l_first => k_is)
    (case h_c_l_first => k_is)
    (case h_k_l_first => k_is)
    (case h_a_l_second => k_is)
    (case h_l_l_second => k_is)
    (case h_c_l_second => k_is)
    (case h_k_l_second => k_is)
    (case h_a_l_third => k_is)
    (case h_l_l_third => k_is)
    (case h_c_l_third => k_is)
    (case h_k_l_third => k_is)
    (case h_a_l_made => k_is)
    (case h_l_l_made => k_is)
    (case h_c_l_made => k_is)
    (case h_k_l_made => k_is)
    (case h_a_l_kinds => k_is)
    (case h_l_l_kinds => k_is)
    (case h_c_l_kinds => k_is)
    (case h_k_l_kinds => k_is)
    (case h_a_law => k_is)
    (case h_l_law => k_is)
    (case h_c_law => k_is)
    (case h_k_law => k_is)
    (case h_ti_BadEnds => k_is)
    (case h_ti_BadNode => k_is)
    (case h_ti_BadStart => k_is)
    (case h_ti_TwiceAsked => k_is)
    (case h_ti_NoNode => k_is)
    (case h_ti_NoPosition => k_is)
    (case h_ti_BadQuestion => k_is)
    (case h_ti_BadMarks => k_is)
    (case h_ti_BadLadder => k_is)
    (case h_ti_BadCount => k_is)
    (case h_ti_BadRelation => k_is)
    (case h_ti_BadPositions => k_is)
    (case h_ti_NoFinal => k_is)
    (case h_ti_NotReached => k_is)
    (case h_ti_NoEnd => k_is)
    (case h_ti_ZeroBottom => k_is)
    (case h_ti_NoChance => k_is)
    (case h_ti_BadChance => k_is)
    (case h_ti_ZeroPolynomial => k_is)
    (case h_ti_BadInterval => k_is)
    (case h_ti_NoSkip => k_is)
    (case h_ti_NotComing => k_is)
    (case h_ti_NoPupils => k_is)
    (case h_ti_BadLength => k_is)
    (case h_ti_AlikePupils => k_is)
    (case h_ti_BadLine => k_is)
    (case h_ti_Ended => k_is)
    (case h_ti_BadDeed => k_is)
    (case h_z_ValueError => k_is)
    (case h_z_abs => k_is)
    (case h_z_int => k_is)
    (case h_z_isinstance => k_is)
    (case h_z_len => k_is)
    (case h_z_list => k_is)
    (case h_z_range => k_is)
    (case h_z_tuple => k_is)
