import PyProof.Rows.All
import Wide.All
import OpenK.AllK
import Wide.FinOn
import HandS.ForMost
import HandS.ForExc
import HandS.OwnEq
import HandS.Wide
import HandS.SetFor
import HandS.Strs
import HandS.IsInst
import HandS.TupAny
import HandS.Style
import HandS.Codes
import HandS.Flow
import HandS.Evl
import HandS.Conv
import KE.KEqDeep
import HandS.Lambda
import HandS.Nested
import HandS.EndOwn
import HandS.Words
import HandS.ExcInit
import HandS.ExcField
import HandS.ExcIs
import HandS.FStr
import HandS.TryMany
import HandS.Defaults
import HandS.Iter
import HandS.Zip
import HandS.Text
import HandS.RevRange
import KE.KOpsOwn
import KE.KTupSum
import HandS.TupMul
import HandS.GenList
import HandS.Comp
import HandS.More
import HandS.Dict
import HandS.NoneIn
import HandS.StrMore
import HandS.Deep
import KE.IntTextText
import HandS.WordsList
import HandS.HotCalls
import KE.GoesEnumKw
import HandS.WordsDict
import HandS.Sort
import HandS.Property
import HandS.Gcd
import HandS.TryOnly
import KE.KCallOwn
import PyProof.Conv_bool
import HandS.Star
import KE.KeyNested
import KE.KDictKeyed
import PyProof.DictMoreH
import HandS.TupSets
import KE.KDictDisplayH
import PySem.Challenge.RW_steppedtests_k14_whole_ladders_one_less
set_option Elab.async false
set_option linter.all false
set_option maxRecDepth 100000
set_option exponentiation.threshold 1000
set_option maxHeartbeats 400000
namespace L2
open PySem PySem.Spec PyProof.Rows
/-! ## own special methods of a class: | & - by __or__ .., <= == by __le__ .., in by __contains__, len by __len__ -/
section
variable {X : Cx} {n : Nat} {CX : CXT} {C f : Addr} {fd : FuncData} {ps : List Str} {sp : Sp} {E : XK} {pins : List (Addr × Obj)} {σ : St} {H : Hp} {s : Shared}
theorem run_own {A : Around} {vs : List V} {us : List Value} {Q : VK} (F : FnOk X.prog X.w X.K X.mg X.base CX n f fd ps sp) (sb : Sub X n A) (hb : Binds X.K fd ps []) (hx : Passes CX X E)
    (I : Inv X pins σ H s) (r : Vals vs us) (h : sp vs H Q E) : wpAny (model X.prog X.w) A (call (.ref f) us) (EP X pins σ Q) X.xe s := by
  have e0 : Env0 X.prog X.w X.K X.mg X.base A X.stack s H := by
    have e := I.env0
    exact ⟨by rw [sb.fr]; exact e.frames, e.mod, e.bs, e.bsz, e.funs, e.frf, e.hok, e.bare⟩
  have hl := F.len _ _ _ _ h
  have hl2 : us.length = ps.length := by rw [← hl, r.length]
  refine wpAny_call (codeAny_mono (F.run A X.stack s H ⟨us, []⟩ us vs Q E sb.room e0 (by
    have := hb s us I.kIn (by simpa using hl2)
    simpa using this) r h) fun r' s' hq => ?_)
  cases r' with
  | error e => exact hx pins σ H s e s' I hq
  | ok fl =>
    cases fl with
    | ret w => exact I.after hq
    | next => exact False.elim hq
    | brk => exact False.elim hq
    | cont => exact False.elim hq
/-- a value of the layer is never NotImplemented -/
theorem back_ep {u : Value} {s' : Shared} {Q : VK} (h : EP X pins σ Q u s') : PySem.W.CmpBack (EP X pins σ Q) u s' := by
  obtain ⟨v, H', I', r, q⟩ := id h
  cases v with
  | non => cases r; exact h
  | bl b => cases r; exact h
  | int i => obtain ⟨t, rfl⟩ := r; exact h
  | str x => obtain ⟨t, rfl⟩ := r; exact h
  | byt x => obtain ⟨t, rfl⟩ := r; exact h
  | flt x => obtain ⟨t, rfl⟩ := r; exact h
  | ref a => cases r; exact h
  | ty m => cases r; exact h
def rOwn (C : Addr) (sp : Sp) (E : XK) : R2 := fun x y H Q => ∃ a b dx dy fs gs, x = .ref a ∧ y = .ref b ∧ H a = some (.ins C dx fs) ∧ H b = some (.ins C dy gs) ∧ sp [.ref a, .ref b] H Q E
theorem op_own {op : Operator} (F : FnOk X.prog X.w X.K X.mg X.base CX n f fd ps sp) (hr : Room n X.A) (hs : PySem.W.findIn X.K (.ref C) (PySem.dunder op.info.2) = some (some (.ref f))) (hf : PySem.W.isFn X.K (.ref f) = true)
    (hc : PySem.W.selfFirst X.K C = true) (hb : Binds X.K fd ps []) (hx : Passes CX X E) : OpR X (binaryOp op) (rOwn C sp E) := by
  intro pins s σ H x y v u Q I rx ry h
  obtain ⟨a, b, dx, dy, fs, gs, rfl, rfl, ha, hb', h⟩ := h
  cases rx
  cases ry
  obtain ⟨mA, J, _⟩ := ins_get I.hok ha
  obtain ⟨mB, J', _⟩ := ins_get I.hok hb'
  obtain ⟨od, J, _⟩ := J.look
  obtain ⟨od', J', _⟩ := J'.look
  obtain ⟨m, hF⟩ := I.fr
  refine PySem.W.binop_K hF I.ok.mod.kin J J'.type hc hs hf ?_
  exact thn (run_own (vs := [.ref a, .ref b]) F ⟨hr, rfl⟩ hb hx I (.cons rfl (.cons rfl .nil)) h) fun u s' q => back_ep q
theorem cmp_own {op : CmpOp} (F : FnOk X.prog X.w X.K X.mg X.base CX n f fd ps sp) (hr : Room n X.A) (hs : PySem.W.findIn X.K (.ref C) (PySem.cmpInfo op).2.1 = some (some (.ref f))) (hf : PySem.W.isFn X.K (.ref f) = true)
    (hb : Binds X.K fd ps []) (hx : Passes CX X E) : OpR X (richCompare op) (rOwn C sp E) := by
  intro pins s σ H x y v u Q I rx ry h
  obtain ⟨a, b, dx, dy, fs, gs, rfl, rfl, ha, hb', h⟩ := h
  cases rx
  cases ry
  obtain ⟨mA, J, _⟩ := ins_get I.hok ha
  obtain ⟨mB, J', _⟩ := ins_get I.hok hb'
  obtain ⟨od, J, _⟩ := J.look
  obtain ⟨od', J', _⟩ := J'.look
  obtain ⟨m, hF⟩ := I.fr
  refine PySem.W.cmp_K hr.units0 hF I.ok.mod.kin J J'.type (by simp [PySem.W.notFirst]) hs hf ?_
  exact thn (run_own (vs := [.ref a, .ref b]) F ⟨hr, rfl⟩ hb hx I (.cons rfl (.cons rfl .nil)) h) fun u s' q => back_ep q
def rOwnIn (C : Addr) (sp : Sp) (E : XK) (neg : Bool) : R2 := fun x y H Q => ∃ b dy gs, y = .ref b ∧ H b = some (.ins C dy gs) ∧ sp [.ref b, x] H (fun v H' => ∃ k, v = .bl k ∧ Q (.bl (if neg then !k else k)) H') E
theorem in_own (F : FnOk X.prog X.w X.K X.mg X.base CX n f fd ps sp) (hr : Room n X.A) (hs : PySem.W.findIn X.K (.ref C) "__contains__" = some (some (.ref f))) (hf : PySem.W.isFn X.K (.ref f) = true)
    (hb : Binds X.K fd ps []) (hx : Passes CX X E) : OpR X (compareOp .In) (rOwnIn C sp E false) := by
  intro pins s σ H x y v u Q I rx ry h
  obtain ⟨b, dy, gs, rfl, hb', h⟩ := h
  cases ry
  obtain ⟨mB, J', _⟩ := ins_get I.hok hb'
  obtain ⟨od', J', _⟩ := J'.look
  obtain ⟨m, hF⟩ := I.fr
  refine PySem.W.in_K hF I.ok.mod.kin J' hs hf ?_
  refine thn (run_own (vs := [.ref b, x]) F ⟨hr, rfl⟩ hb hx I (.cons rfl (.cons rx .nil)) h) fun u s' q => ?_
  obtain ⟨z, H', I', rz, k, rfl, q⟩ := q
  cases rz
  exact wpAny_truthy_bool ⟨.bl k, H', I', rfl, q⟩
theorem notIn_own (F : FnOk X.prog X.w X.K X.mg X.base CX n f fd ps sp) (hr : Room n X.A) (hs : PySem.W.findIn X.K (.ref C) "__contains__" = some (some (.ref f))) (hf : PySem.W.isFn X.K (.ref f) = true)
    (hb : Binds X.K fd ps []) (hx : Passes CX X E) : OpR X (compareOp .NotIn) (rOwnIn C sp E true) := by
  intro pins s σ H x y v u Q I rx ry h
  obtain ⟨b, dy, gs, rfl, hb', h⟩ := h
  cases ry
  obtain ⟨mB, J', _⟩ := ins_get I.hok hb'
  obtain ⟨od', J', _⟩ := J'.look
  obtain ⟨m, hF⟩ := I.fr
  refine PySem.W.notIn_K hF I.ok.mod.kin J' hs hf ?_
  refine thn (run_own (vs := [.ref b, x]) F ⟨hr, rfl⟩ hb hx I (.cons rfl (.cons rx .nil)) h) fun u s' q => ?_
  obtain ⟨z, H', I', rz, k, rfl, q⟩ := q
  cases rz
  exact wpAny_truthy_bool ⟨.bl (!k), H', I', rfl, q⟩
def rOwnLen (C : Addr) (sp : Sp) (E : XK) : List V → Hp → VK → Prop := fun xs H Q => ∃ b dy gs, xs = [.ref b] ∧ H b = some (.ins C dy gs) ∧ sp [.ref b] H (fun v H' => ∃ k : Int, v = .int k ∧ 0 ≤ k ∧ k < 2 ^ 63 ∧ Q (.int k) H') E
theorem len_own (F : FnOk X.prog X.w X.K X.mg X.base CX n f fd ps sp) (hr : Room (n + 1) X.A) (hs : PySem.W.findIn X.K (.ref C) "__len__" = some (some (.ref f))) (hf : PySem.W.isFn X.K (.ref f) = true)
    (hb : Binds X.K fd ps []) (hx : Passes CX X E) : CallR X (.builtin "len") (rOwnLen C sp E) := by
  intro pins s σ H xs us Q I r h
  obtain ⟨b, dy, gs, rfl, hb', h⟩ := h
  rw [Vals.ref1 r]
  obtain ⟨mB, J', _⟩ := ins_get I.hok hb'
  obtain ⟨od', J', _⟩ := J'.look
  obtain ⟨m, hF⟩ := I.fr
  refine PySem.W.len_K hF I.ok.mod.kin J' hs hf ?_
  have sb : Sub X (n + 1) X.A := ⟨hr, rfl⟩
  refine thn (run_own (vs := [.ref b]) F sb.in1 hb hx I (.cons rfl .nil) h) fun u s' q => ?_
  obtain ⟨z, H', I', rz, k, rfl, h0, h1, q⟩ := q
  obtain ⟨t, rfl⟩ := rz
  exact ⟨⟨h0, h1⟩, .int k, H', I'.tok _, ⟨_, rfl⟩, q⟩
/-- web[i] by an own __getitem__ -/
def rOwnIx (C : Addr) (sp : Sp) (E : XK) : R2 := fun x y H Q => ∃ a dx fs, x = .ref a ∧ H a = some (.ins C dx fs) ∧ sp [.ref a, y] H Q E
theorem pe_ownIx {a b : Expr} {ta tb : TE} {pos : Pos} (F : FnOk X.prog X.w X.K X.mg X.base CX n f fd ps sp) (hr : Room (n + 1) X.A) (hs : PySem.W.findIn X.K (.ref C) "__getitem__" = some (some (.ref f))) (hfn : PySem.W.fnIn X.K f = true) (hf : PySem.W.isFn X.K (.ref f) = true)
    (hb : Binds X.K fd ps []) (hx : Passes CX X E) (ha : PE X a ta) (hb' : PE X b tb)
    (hsl : ∀ x i, subscripted b true (.ref x) i = runValue (.builtin "lifetime.subscript" ⟨[.ref x, i], []⟩) := by intro _ _; with_unfolding_all rfl) : PE X (.Subscript a b pos) (tOp (rOwnIx C sp E) ta tb) := by
  refine ⟨fun pins s σ H Q I h => ?_⟩
  refine Subscript_ (binT ha hb' I h fun v u s2 x y H2 I2 rx ry q => ?_)
  obtain ⟨c, dx, fs, rfl, hc, q⟩ := q
  cases rx
  obtain ⟨mB, J', _⟩ := ins_get I2.hok hc
  obtain ⟨od', J', _⟩ := J'.look
  obtain ⟨m, hF⟩ := I2.fr
  have sb : Sub X (n + 1) X.A := ⟨hr, rfl⟩
  exact PySem.W.sub_K hF I2.ok.mod.kin J' hs hfn hf (run_own (vs := [.ref c, y]) F sb.in1 hb hx I2 (.cons rfl (.cons ry .nil)) q) (hsl _ _)
/-- set(t), t a tuple of ints -/
def rSetOf (K : PySem.W.Frag) (w : World) : List V → Hp → VK → Prop := fun xs H Q => ∃ (l : Addr) (ns : List Int), xs = [V.ref l] ∧ SqT K H l (ns.map V.int) ∧ ns.length ≤ 1000 ∧
  ∀ p c, H p = none → c ≤ ns.length → (∀ L : List Int, (∀ k ∈ ns, k ∈ L) → c ≤ L.length) → Q (.ref p) (upd H p (SetO w p (fun j => decide (j ∈ ns)) c))
theorem nodup_le : ∀ (l D : List Int), l.Nodup → (∀ x ∈ l, x ∈ D) → l.length ≤ D.length
  | [], _, _, _ => Nat.zero_le _
  | x :: r, D, hn, h => by
    have hx : x ∈ D := h x List.mem_cons_self
    obtain ⟨h1, h2⟩ := List.nodup_cons.mp hn
    have ih := nodup_le r (D.erase x) h2 fun y hy => by
      have hne : y ≠ x := fun e => h1 (e ▸ hy)
      exact (List.mem_erase_of_ne hne).mpr (h y (List.mem_cons_of_mem _ hy))
    rw [List.length_erase_of_mem hx] at ih
    have : 0 < D.length := List.length_pos_of_mem hx
    rw [List.length_cons]
    omega
theorem cr_setOf (hc : X.calm = true) : CallR X (.type "set") (rSetOf X.K X.w) := by
  intro pins s σ H xs us Q I r h
  obtain ⟨l, ns, rfl, hq, hl, q⟩ := h
  rw [Vals.ref1 r]
  obtain ⟨its, rv, pt, hz⟩ := I.tuple hq
  have hi : IntsAre its.toArray.toList ns := by simpa using ints_of_vals rv
  refine call_set_tupI ns (I.ok.hd hc) (show s.heap.IsTuple l its.toArray from pt) hi (by unfold scanBound; omega) fun h' tk c R hcn k => ?_
  have hn : H s.heap.objs.size = none := I.hok.fresh (Nat.le_refl _)
  refine ⟨.ref s.heap.objs.size, upd H s.heap.objs.size (SetO X.w s.heap.objs.size (fun j => decide (j ∈ ns)) c), I.laid (t' := tk) k (Nat.le_refl _) (setO_new R), rfl, q _ c hn hcn fun L hL => ?_⟩
  obtain ⟨o, es, ep, t, ho, hex, hdt, g, nd, hm2, hb, hf, hn2, hr, hl2⟩ := R
  have z := nodup_le _ L nd fun x hx => hL x (of_decide_eq_true ((hm2 x).mpr hx))
  rw [List.length_map, Array.length_toList, hn2] at z
  exact z
end
end L2

namespace L2
open PySem PySem.Spec PyProof.Rows
/-! ## heaps that keep all but the pool -/
def isPool (o : HO) : Prop := ∃ (a : Addr) (c i b s : Int), o = .lst [.ref a, .int c, .int i, .int b, .int s]
def Gd (H H' : Hp) : Prop := (∀ b o, ¬ isPool o → H b = some o → H' b = some o) ∧ ∀ b o, isPool o → H b = some o → ∃ o', isPool o' ∧ H' b = some o'
theorem Gd.refl (H : Hp) : Gd H H := ⟨fun _ _ _ h => h, fun _ o n h => ⟨o, n, h⟩⟩
theorem Gd.trans {H H1 H2 : Hp} (a : Gd H H1) (b : Gd H1 H2) : Gd H H2 := ⟨fun x o n h => b.1 x o n (a.1 x o n h), fun x o n h => let ⟨o', n', h'⟩ := a.2 x o n h; b.2 x o' n' h'⟩
theorem Same.gd {H H' : Hp} (h : Same H H') : Gd H H' := ⟨fun b o _ e => h b o e, fun b o n e => ⟨o, n, h b o e⟩⟩
theorem fresh_gd {H H' : Hp} {p : Addr} (e : Gd H H') (h : H' p = none) : H p = none := by
  cases q : H p with
  | none => rfl
  | some o =>
    exfalso
    by_cases n : isPool o
    · obtain ⟨o', _, h'⟩ := e.2 p o n q
      rw [h] at h'
      cases h'
    · have := e.1 p o n q
      rw [h] at this
      cases this
theorem np_ints (ns : List Int) : ¬ isPool (.lst (ns.map V.int)) := by
  rintro ⟨a, c, i, b, s, h⟩
  cases ns with
  | nil => cases h
  | cons x r => injection h with h; injection h with h _; cases h
theorem np_frz (o : Obj) (u : HO) : ¬ isPool (.frz o u) := by rintro ⟨a, c, i, b, s, h⟩; cases h
theorem np_tup (xs : List V) : ¬ isPool (.tup xs) := by rintro ⟨a, c, i, b, s, h⟩; cases h
theorem np_ins (C dx : Addr) (fs : List (Str × V)) : ¬ isPool (.ins C dx fs) := by rintro ⟨a, c, i, b, s, h⟩; cases h
theorem Gd.seq {K : PySem.W.Frag} {H H' : Hp} {a : Addr} {ns : List Int} (e : Gd H H') (h : SqL K H a (ns.map V.int)) : SqL K H' a (ns.map V.int) := by
  rcases h with (h | ⟨o, h⟩) | h
  · exact .inl (.inl (e.1 _ _ (np_ints ns) h))
  · exact .inl (.inr ⟨o, e.1 _ _ (np_frz _ _) h⟩)
  · exact .inr h
theorem Same.seqT {K : PySem.W.Frag} {H H' : Hp} {a : Addr} {xs : List V} (e : Same H H') (h : SqT K H a xs) : SqT K H' a xs := by
  rcases h with (h | ⟨o, h⟩) | h
  · exact .inl (.inl (e _ _ h))
  · exact .inl (.inr ⟨o, e _ _ h⟩)
  · exact .inr h
theorem same_upd {H : Hp} {p : Addr} {o : HO} (h : H p = none) : Same H (upd H p o) := fun b x e => by
  rw [upd_ne (ne_of_none e h)]
  exact e
/-- a heap made from H' by changing p, which H did not know -/
theorem Same.mut {H H' : Hp} {p : Addr} {o : HO} (e : Same H H') (h : H p = none) : Same H (upd H' p o) := fun a u ha => by
  rw [upd_ne (ne_of_none ha h)]
  exact e a u ha
theorem Gd.mut {H H' : Hp} {p : Addr} {o : HO} (e : Gd H H') (h : H p = none) : Gd H (upd H' p o) := ⟨fun a u n ha => by
  rw [upd_ne (ne_of_none ha h)]
  exact e.1 a u n ha, fun a u n ha => by
  rw [upd_ne (ne_of_none ha h)]
  exact e.2 a u n ha⟩
theorem Gd.upd {H H' : Hp} {p : Addr} {o : HO} (e : Gd H H') (h : H' p = none) : Gd H (upd H' p o) := e.mut (fresh_gd e h)
/-- the script: known to the object, or of the written part -/
def ScrAt (K : PySem.W.Frag) (H : Hp) (a : Addr) (xs : List V) : Prop :=
  (∃ o, H a = some (.frz o (.lst xs))) ∨ ∃ (o : Obj) (its : Array Value) (n : Nat), K.lookup a = some o ∧ o.cls = .type "list" ∧ o.dict = none ∧ o.data = .seq its n ∧ its.size ≤ sizeLine ∧ Vals xs its.toList
theorem ScrAt.seq {K : PySem.W.Frag} {H : Hp} {a : Addr} {xs : List V} (h : ScrAt K H a xs) : SqL K H a xs := h.elim (fun ⟨o, h⟩ => .inl (.inr ⟨o, h⟩)) fun h => .inr h
theorem ScrAt.gd {K : PySem.W.Frag} {H H' : Hp} {a : Addr} {xs : List V} (e : Gd H H') (h : ScrAt K H a xs) : ScrAt K H' a xs := h.elim (fun ⟨o, h⟩ => .inl ⟨o, e.1 _ _ (np_frz _ _) h⟩) fun h => .inr h
theorem ScrAt.mut {K : PySem.W.Frag} {H : Hp} {a D : Addr} {xs ys : List V} {o : HO} (hD : H D = some (.lst ys)) (h : ScrAt K H a xs) : ScrAt K (upd H D o) a xs :=
  h.elim (fun ⟨u, h⟩ => .inl ⟨u, by rw [upd_ne (ne_of h hD (by intro z; cases z))]; exact h⟩) fun h => .inr h
theorem scr_of {K : PySem.W.Frag} {H : Hp} {a : Addr} {xs : List V} (hO : Only H) (h : SqL K H a xs) : ScrAt K H a xs := by
  rcases h with (h | ⟨o, h⟩) | h
  · rcases hO a with z | ⟨o, ys, z⟩
    · rw [h] at z; cases z
    · rw [h] at z; cases z
  · exact .inl ⟨o, h⟩
  · exact .inr h
/-- the pool at p has drawn at most c times -/
def PoolOk (K : PySem.W.Frag) (p : Addr) (c : Nat) (H : Hp) : Prop := ∃ (sa : Addr) (ns : List Int) (c' i b s : Int), ScrAt K H sa (ns.map V.int) ∧ H p = some (.lst [.ref sa, .int c', .int i, .int b, .int s]) ∧ 0 ≤ c' ∧ c' ≤ (c : Int) ∧ 0 ≤ i ∧ i ≤ (ns.length : Int) ∧ 0 ≤ b ∧ 0 ≤ s ∧ s < 2147483629
theorem PoolOk.same {K : PySem.W.Frag} {p : Addr} {c : Nat} {H H' : Hp} (h : PoolOk K p c H) (e : Same H H') : PoolOk K p c H' := by
  obtain ⟨sa, ns, c', i, b, s, h1, h2, h3⟩ := h
  exact ⟨sa, ns, c', i, b, s, h1.gd e.gd, e _ _ h2, h3⟩
theorem PoolOk.mono {K : PySem.W.Frag} {p : Addr} {c d : Nat} {H : Hp} (h : PoolOk K p c H) (e : c ≤ d) : PoolOk K p d H := by
  obtain ⟨sa, ns, c', i, b, s, h1, h2, h3, h4, h5⟩ := h
  exact ⟨sa, ns, c', i, b, s, h1, h2, h3, by omega, h5⟩
/-- the pool is known, so a new address is another one -/
theorem PoolOk.ne {K : PySem.W.Frag} {p q : Addr} {c : Nat} {H : Hp} (h : PoolOk K p c H) (e : H q = none) : p ≠ q := by
  obtain ⟨sa, ns, c', i, b, s, h1, h2, h3⟩ := h
  exact ne_of_none h2 e
theorem PoolOk.upd {K : PySem.W.Frag} {p q : Addr} {c : Nat} {H : Hp} {o : HO} (h : PoolOk K p c H) (e : H q = none) : PoolOk K p c (upd H q o) := h.same (same_upd e)
/-- a list that stands (not the pool's) is changed: the pool stays -/
theorem PoolOk.mut {K : PySem.W.Frag} {p D : Addr} {c : Nat} {H : Hp} {ys : List V} {o : HO} (h : PoolOk K p c H) (hD : H D = some (.lst ys)) (n : ¬ isPool (.lst ys)) : PoolOk K p c (L2.upd H D o) := by
  obtain ⟨sa, ns, c', i, b, s, h1, h2, h3⟩ := h
  refine ⟨sa, ns, c', i, b, s, h1.mut hD, ?_, h3⟩
  rw [upd_ne (fun e => by
    subst e
    rw [h2] at hD
    injection hD with hD
    exact n ⟨sa, c', i, b, s, hD.symm⟩)]
  exact h2
theorem tyes {σ : St} {H : Hp} {A B : Hp → Prop} (h : A H) : tYes σ H fun b H3 => if b = true then A H3 else B H3 := by
  unfold tYes
  dsimp only
  rw [if_pos rfl]
  exact h
def pl (sa : Addr) (c i b s : Int) : HO := .lst [.ref sa, .int c, .int i, .int b, .int s]
theorem pl_pool (sa : Addr) (c i b s : Int) : isPool (pl sa c i b s) := ⟨sa, c, i, b, s, rfl⟩
theorem gd_pool {H : Hp} {p sa sa' : Addr} {c i b s c' i' b' s' : Int} (h : H p = some (pl sa c i b s)) : Gd H (upd H p (pl sa' c' i' b' s')) := ⟨fun x u n e => by
  have hx : x ≠ p := fun z => by
    subst z
    rw [h] at e
    injection e with e
    exact n ⟨sa, c, i, b, s, e.symm⟩
  rw [upd_ne hx]
  exact e, fun x u n e => by
  by_cases hx : x = p
  · subst hx
    exact ⟨_, pl_pool _ _ _ _ _, upd_same⟩
  · exact ⟨u, n, by rw [upd_ne hx]; exact e⟩⟩
def LIM : Nat := 1099511627776
def spDraw (K : PySem.W.Frag) : Sp := fun vs H Q _ => ∃ (p : Addr) (c : Nat) (lim : Int), vs = [.ref p, .int lim] ∧ PoolOk K p c H ∧ c < LIM ∧ 0 < lim ∧ lim < 2 ^ 200 ∧
  ∀ H' r, Gd H H' → PoolOk K p (c + 1) H' → 0 ≤ r → r < lim → Q (.int r) H'
def spPool (K : PySem.W.Frag) : Sp := fun vs H Q _ => ∃ (x : Addr) (ns : List Int), vs = [.ref x] ∧ ScrAt K H x (ns.map V.int) ∧ ∀ p H', H p = none → Same H H' → PoolOk K p 0 H' → Q (.ref p) H'
theorem atI0 {α : Type} {x : α} {r : List α} : atI (x :: r) 0 = some x := atI_nat (j := 0) rfl
theorem atI1 {α : Type} {x y : α} {r : List α} : atI (x :: y :: r) 1 = some y := atI_nat (j := 1) rfl
theorem atI2 {α : Type} {x y z : α} {r : List α} : atI (x :: y :: z :: r) 2 = some z := atI_nat (j := 2) rfl
theorem atI3 {α : Type} {x y z u : α} {r : List α} : atI (x :: y :: z :: u :: r) 3 = some u := atI_nat (j := 3) rfl
theorem atI4 {α : Type} {x y z u v : α} {r : List α} : atI (x :: y :: z :: u :: v :: r) 4 = some v := atI_nat (j := 4) rfl
/-! ## sets of questions by their ascending lists -/
def ask48 : List Int := (List.range 48).map fun i => ((i : Nat) : Int)
def norm (l : List Int) : List Int := ask48.filter fun x => decide (x ∈ l)
theorem mem_ask {x : Int} : x ∈ ask48 ↔ 0 ≤ x ∧ x < 48 := by
  unfold ask48
  rw [List.mem_map]
  constructor
  · rintro ⟨i, h, rfl⟩
    have := List.mem_range.mp h
    omega
  · rintro ⟨h0, h1⟩
    exact ⟨x.toNat, List.mem_range.mpr (by omega), by omega⟩
theorem mem_norm {l : List Int} {x : Int} : x ∈ norm l ↔ (0 ≤ x ∧ x < 48) ∧ x ∈ l := by
  unfold norm
  rw [List.mem_filter, mem_ask, decide_eq_true_eq]
theorem ask_sorted : ask48.Pairwise (· < ·) := by
  unfold ask48
  rw [List.pairwise_map]
  exact List.Pairwise.imp (fun h => by omega) List.pairwise_lt_range
theorem norm_sorted (l : List Int) : (norm l).Pairwise (· < ·) := ask_sorted.sublist List.filter_sublist
theorem norm_len (l : List Int) : (norm l).length ≤ 48 := by
  refine Nat.le_trans (List.length_filter_le _ _) ?_
  unfold ask48
  rw [List.length_map, List.length_range]
  exact Nat.le_refl _
theorem sorted_ext : ∀ {l l' : List Int}, l.Pairwise (· < ·) → l'.Pairwise (· < ·) → (∀ x, x ∈ l ↔ x ∈ l') → l = l'
  | [], [], _, _, _ => rfl
  | [], b :: r, _, _, h => absurd ((h b).mpr List.mem_cons_self) (by simp)
  | a :: r, [], _, _, h => absurd ((h a).mp List.mem_cons_self) (by simp)
  | a :: r, b :: s, h1, h2, h => by
    obtain ⟨ha, hr⟩ := List.pairwise_cons.mp h1
    obtain ⟨hb, hs⟩ := List.pairwise_cons.mp h2
    have e : a = b := by
      rcases List.mem_cons.mp ((h a).mp List.mem_cons_self) with e | e
      · exact e
      · rcases List.mem_cons.mp ((h b).mpr List.mem_cons_self) with e2 | e2
        · exact e2.symm
        · have := hb a e
          have := ha b e2
          omega
    subst e
    have : r = s := sorted_ext hr hs fun x => by
      constructor
      · intro hx
        rcases List.mem_cons.mp ((h x).mp (List.mem_cons_of_mem _ hx)) with e | e
        · have := ha x hx
          omega
        · exact e
      · intro hx
        rcases List.mem_cons.mp ((h x).mpr (List.mem_cons_of_mem _ hx)) with e | e
        · have := hb x hx
          omega
        · exact e
    rw [this]
theorem norm_ext {l l' : List Int} (h : ∀ x, 0 ≤ x → x < 48 → (x ∈ l ↔ x ∈ l')) : norm l = norm l' :=
  sorted_ext (norm_sorted l) (norm_sorted l') fun x => by
    rw [mem_norm, mem_norm]
    constructor
    · rintro ⟨a, b⟩; exact ⟨a, (h x a.1 a.2).mp b⟩
    · rintro ⟨a, b⟩; exact ⟨a, (h x a.1 a.2).mpr b⟩
theorem norm_of_sorted {l l' : List Int} (h : l.Pairwise (· < ·)) (hm : ∀ x, x ∈ l ↔ x ∈ l') (hr : ∀ x ∈ l', 0 ≤ x ∧ x < 48) : l = norm l' :=
  sorted_ext h (norm_sorted l') fun x => by
    rw [hm, mem_norm]
    exact ⟨fun a => ⟨hr x a, a⟩, fun a => a.2⟩
theorem norm_eq_iff {l l' : List Int} : norm l = norm l' ↔ ∀ x, 0 ≤ x → x < 48 → (x ∈ l ↔ x ∈ l') := by
  constructor
  · intro e x h0 h1
    have : x ∈ norm l ↔ x ∈ norm l' := by rw [e]
    rw [mem_norm, mem_norm] at this
    exact ⟨fun a => (this.mp ⟨⟨h0, h1⟩, a⟩).2, fun a => (this.mpr ⟨⟨h0, h1⟩, a⟩).2⟩
  · exact norm_ext
theorem norm_filter (l : List Int) (p : Int → Bool) : (norm l).filter p = norm (l.filter p) := by
  refine sorted_ext ((norm_sorted l).sublist List.filter_sublist) (norm_sorted _) fun x => ?_
  rw [List.mem_filter, mem_norm, mem_norm, List.mem_filter]
  constructor
  · rintro ⟨⟨a, b⟩, c⟩; exact ⟨a, b, c⟩
  · rintro ⟨a, b, c⟩; exact ⟨⟨a, b⟩, c⟩
theorem norm_norm (l : List Int) : norm (norm l) = norm l := norm_ext fun x h0 h1 => by
  rw [mem_norm]
  exact ⟨fun a => a.2, fun a => ⟨⟨h0, h1⟩, a⟩⟩
/-! ## values -/
theorem flat_ints (ns : List Int) : (ns.map V.int).all flatV = true := by
  rw [List.all_eq_true]
  intro x hx
  obtain ⟨i, _, rfl⟩ := List.mem_map.mp hx
  rfl
theorem eqV_int (i j : Int) : eqV (.int i) (.int j) = decide (i = j) := by
  show (i == j) = _
  rw [Bool.eq_iff_iff]
  simp
theorem in_ints (x : Int) (ns : List Int) : inV (.int x) (ns.map V.int) = decide (x ∈ ns) := by
  unfold inV
  rw [Bool.eq_iff_iff, List.any_eq_true, decide_eq_true_eq]
  constructor
  · rintro ⟨y, hy, e⟩
    obtain ⟨i, hi, rfl⟩ := List.mem_map.mp hy
    rw [eqV_int, decide_eq_true_eq] at e
    exact e ▸ hi
  · intro h
    exact ⟨.int x, List.mem_map.mpr ⟨x, h, rfl⟩, by rw [eqV_int, decide_eq_true_eq]⟩
theorem dpAll_ints {K : PySem.W.Frag} {H : Hp} : ∀ ns : List Int, DpAll K H (ns.map V.int) (ns.map PyData.int)
  | [] => .nil
  | n :: r => .cons (.int n) (dpAll_ints r)
theorem canLay_ints : ∀ ns : List Int, PyData.canLayAll0 (ns.map PyData.int) = true
  | [] => by rw [List.map_nil, PyData.canLayAll0]
  | n :: r => by
    rw [List.map_cons, PyData.canLayAll0, canLay_ints r]
    rfl
theorem depth_ints : ∀ ns : List Int, PyData.depthAll (ns.map PyData.int) = 0
  | [] => by rw [List.map_nil, PyData.depthAll]
  | n :: r => by
    rw [List.map_cons, PyData.depthAll, depth_ints r]
    rfl
theorem shT (ns : List Int) : SeqAt.shaped (.tuple (ns.map PyData.int)) = true := by
  simp [SeqAt.shaped, PyData.canLay0, canLay_ints, PyData.depth, depth_ints]
theorem shL (ns : List Int) : SeqAt.shaped (.list (ns.map PyData.int)) = true := by
  simp [SeqAt.shaped, PyData.canLay0, canLay_ints, PyData.depth, depth_ints]
theorem evT (ns ms : List Int) : PyData.eqv (.tuple (ns.map PyData.int)) (.tuple (ms.map PyData.int)) = decide (ns = ms) := by
  rw [PyData.eqv, PySem.W.ked_eqvAll]
theorem evL (ns ms : List Int) : PyData.eqv (.list (ns.map PyData.int)) (.list (ms.map PyData.int)) = decide (ns = ms) := by
  rw [PyData.eqv, PySem.W.ked_eqvAll]
theorem eqD_tup {K : PySem.W.Frag} {H : Hp} {a b : Addr} {ns ms : List Int} {Q : VK} (h1 : SqT K H a (ns.map V.int)) (h2 : SqT K H b (ms.map V.int)) (q : Q (.bl (decide (ns = ms))) H) : rEqD K (.ref a) (.ref b) H Q :=
  ⟨_, _, .tup h1 (dpAll_ints ns), .tup h2 (dpAll_ints ms), shT ns, shT ms, by rw [evT]; exact q⟩
theorem neD_tup {K : PySem.W.Frag} {H : Hp} {a b : Addr} {ns ms : List Int} {Q : VK} (h1 : SqT K H a (ns.map V.int)) (h2 : SqT K H b (ms.map V.int)) (q : Q (.bl (!decide (ns = ms))) H) : rNeD K (.ref a) (.ref b) H Q :=
  ⟨_, _, .tup h1 (dpAll_ints ns), .tup h2 (dpAll_ints ms), shT ns, shT ms, by rw [evT]; exact q⟩
theorem eqD_lst {K : PySem.W.Frag} {H : Hp} {a b : Addr} {ns ms : List Int} {Q : VK} (h1 : SqL K H a (ns.map V.int)) (h2 : SqL K H b (ms.map V.int)) (q : Q (.bl (decide (ns = ms))) H) : rEqD K (.ref a) (.ref b) H Q :=
  ⟨_, _, .lst h1 (dpAll_ints ns), .lst h2 (dpAll_ints ms), shL ns, shL ms, by rw [evL]; exact q⟩
theorem neD_lst {K : PySem.W.Frag} {H : Hp} {a b : Addr} {ns ms : List Int} {Q : VK} (h1 : SqL K H a (ns.map V.int)) (h2 : SqL K H b (ms.map V.int)) (q : Q (.bl (!decide (ns = ms))) H) : rNeD K (.ref a) (.ref b) H Q :=
  ⟨_, _, .lst h1 (dpAll_ints ns), .lst h2 (dpAll_ints ms), shL ns, shL ms, by rw [evL]; exact q⟩
/-! ## pupils -/
/-- at a a pupil whose rights are the ascending list of l -/
def PupAt (C : Addr) (H : Hp) (a : Addr) (l : List Int) : Prop := ∃ dx t, H a = some (.ins C dx [("rights", .ref t)]) ∧ H t = some (.tup ((norm l).map V.int))
theorem PupAt.same {C a : Addr} {H H' : Hp} {l : List Int} (e : Same H H') (h : PupAt C H a l) : PupAt C H' a l := by
  obtain ⟨dx, t, h1, h2⟩ := h
  exact ⟨dx, t, e _ _ h1, e _ _ h2⟩
theorem PupAt.gd {C a : Addr} {H H' : Hp} {l : List Int} (e : Gd H H') (h : PupAt C H a l) : PupAt C H' a l := by
  obtain ⟨dx, t, h1, h2⟩ := h
  exact ⟨dx, t, e.1 _ _ (np_ins _ _ _) h1, e.1 _ _ (np_tup _) h2⟩
theorem PupAt.eq {C a : Addr} {H : Hp} {l l' : List Int} (h : PupAt C H a l) (e : norm l = norm l') : PupAt C H a l' := by
  obtain ⟨dx, t, h1, h2⟩ := h
  exact ⟨dx, t, h1, by rw [← e]; exact h2⟩
/-- questions: each from 0 to 47 -/
def Qn (l : List Int) : Prop := ∀ k ∈ l, 0 ≤ k ∧ k < 48
def SqA (K : PySem.W.Frag) (H : Hp) (q : Addr) (xs : List V) : Prop := SqL K H q xs ∨ SqT K H q xs
def spInit (K : PySem.W.Frag) (C : Addr) : Sp := fun vs H Q _ => ∃ (x dx q : Addr) (l : List Int), vs = [.ref x, .ref q] ∧ H x = some (.ins C dx []) ∧ SqA K H q (l.map V.int) ∧ l.length ≤ 500 ∧ Qn l ∧
  ∀ H' t, H' x = some (.ins C dx [("rights", .ref t)]) → H' t = some (.tup ((norm l).map V.int)) → (∀ b o, b ≠ x → H b = some o → H' b = some o) → Q .non H'
theorem SqA.same {K : PySem.W.Frag} {H H' : Hp} {q : Addr} {xs : List V} (e : Same H H') (h : SqA K H q xs) : SqA K H' q xs := h.elim (fun h => .inl (e.seq h)) fun h => .inr (e.seqT h)
theorem pup_make {K : PySem.W.Frag} {C q : Addr} {H : Hp} {l : List Int} {R : Addr → Hp → Prop} {E : XK} (hq : SqA K H q (l.map V.int)) (hl : l.length ≤ 500) (hn : Qn l) (k : ∀ x H', H x = none → Same H H' → PupAt C H' x l → R x H') :
    ∀ x dx, H x = none → H dx = none → dx ≠ x → spInit K C (.ref x :: ([.ref q] ++ [])) (upd (upd H dx (.own x)) x (.ins C dx [])) (fun v H2 => v = .non ∧ R x H2) E := by
  intro x dx nx ndx ne
  have s0 : Same H (upd (upd H dx (.own x)) x (.ins C dx [])) := (same_upd ndx).mut nx
  refine ⟨x, dx, q, l, rfl, upd_same, hq.same s0, hl, hn, fun H' t h1 h2 h3 => ⟨rfl, k x H' nx (fun b o e => ?_) ⟨dx, t, h1, h2⟩⟩⟩
  exact h3 b o (ne_of_none e nx) (s0 b o e)
def spBin (C : Addr) (f : List Int → List Int → List Int) : Sp := fun vs H Q _ => ∃ (a b : Addr) (p q : List Int), vs = [.ref a, .ref b] ∧ PupAt C H a p ∧ PupAt C H b q ∧ ∀ x H', H x = none → Same H H' → PupAt C H' x (f p q) → Q (.ref x) H'
def spRel (C : Addr) (f : List Int → List Int → Bool) : Sp := fun vs H Q _ => ∃ (a b : Addr) (p q : List Int), vs = [.ref a, .ref b] ∧ PupAt C H a p ∧ PupAt C H b q ∧ ∀ H', Same H H' → Q (.bl (f (norm p) (norm q))) H'
def fOr (p q : List Int) : List Int := p ++ q
def fAnd (p q : List Int) : List Int := p.filter fun x => decide (x ∈ q)
def fSub (p q : List Int) : List Int := p.filter fun x => !decide (x ∈ q)
def fLe (p q : List Int) : Bool := p.all fun x => decide (x ∈ q)
def fEq (p q : List Int) : Bool := decide (p = q)
theorem norm_or (p q : List Int) : norm (norm p ++ norm q) = norm (p ++ q) := norm_ext fun x h0 h1 => by
  simp only [List.mem_append, mem_norm]
  exact ⟨fun h => h.elim (fun a => .inl a.2) fun a => .inr a.2, fun h => h.elim (fun a => .inl ⟨⟨h0, h1⟩, a⟩) fun a => .inr ⟨⟨h0, h1⟩, a⟩⟩
theorem qn_norm (l : List Int) : Qn (norm l) := fun k hk => (mem_norm.mp hk).1
theorem qn_append {l m : List Int} (h1 : Qn l) (h2 : Qn m) : Qn (l ++ m) := fun k hk => (List.mem_append.mp hk).elim (h1 k) (h2 k)
theorem qn_filter {l : List Int} {p : Int → Bool} (h1 : Qn l) : Qn (l.filter p) := fun k hk => h1 k (List.mem_filter.mp hk).1
/-- a comprehension over a list that keeps some of its ints as they are -/
theorem filter_take_succ {l : List Int} {p : Int → Bool} {i : Nat} {x : Int} (h : l[i]? = some x) : (l.take (i + 1)).filter p = (l.take i).filter p ++ (if p x = true then [x] else []) := by
  rw [List.take_add_one, h, List.filter_append]
  show _ ++ List.filter p [x] = _
  rw [List.filter_cons]
  rfl
theorem get_map_int {l : List Int} {i : Nat} {v : V} (h : (l.map V.int)[i]? = some v) : ∃ x, l[i]? = some x ∧ v = .int x := by
  rw [List.getElem?_map] at h
  cases e : l[i]? with
  | none => rw [e] at h; cases h
  | some x => rw [e] at h; exact ⟨x, rfl, (Option.some.inj h).symm⟩
theorem catA_k {K : PySem.W.Frag} {H : Hp} {a b : Addr} {xs ys : List V} {Q : VK} (h1 : SqT K H a xs) (h2 : SqT K H b ys) (hl : xs.length + ys.length ≤ sizeLine) (k : ∀ p H', Same H H' → SqT K H' p (xs ++ ys) → Q (.ref p) H') : rCatA K (.ref a) (.ref b) H Q := by
  refine ⟨a, b, xs, ys, rfl, rfl, h1, h2, hl, fun e => ?_, fun _ e => ?_, fun _ _ p hp => k p _ (same_upd hp) (.inl (.inl upd_same))⟩
  · subst e
    exact k b H (Same.refl H) h2
  · subst e
    exact k a H (Same.refl H) (by rw [List.append_nil]; exact h1)
section
variable {K : PySem.W.Frag} {a : Addr} {tt : TT} {te : TE} {vs : List Nat} {σ : St} {H1 : Hp} {D : Addr} {Qd : Hp → Prop} {j : Nat}
/-- one turn of a comprehension that keeps some ints as they are -/
theorem filt_turn {ns : List Int} {p : Int → Bool} {i : Nat} {x : Int} {H : Hp} (nD : H1 D = none) (hlen : ns.length < 100000) (hx : ns[i]? = some x)
    (ht : ∀ H', Same H1 H' → ∀ R : Bool → Hp → Prop, R (p x) H' → tt ((wipe σ vs).set j (some (.int x))) H' R) (he : ∀ H', Same H1 H' → ∀ R : VK, R (.int x) H' → te ((wipe σ vs).set j (some (.int x))) H' R)
    (h : Same H1 H ∧ H D = some (.lst (((ns.take i).filter p).map V.int))) :
    tt ((wipe σ vs).set j (some (.int x))) H fun b H3 => if b = true then te ((wipe σ vs).set j (some (.int x))) H3 fun y H4 => ∃ acc, H4 D = some (.lst acc) ∧ acc.length < sizeLine ∧ (Same H1 (upd H4 D (.lst (acc ++ [y]))) ∧ upd H4 D (.lst (acc ++ [y])) D = some (.lst (((ns.take (i + 1)).filter p).map V.int)))
      else (Same H1 H3 ∧ H3 D = some (.lst (((ns.take (i + 1)).filter p).map V.int))) := by
  obtain ⟨e, hD⟩ := h
  refine ht H e _ ?_
  have ef := filter_take_succ (p := p) hx
  cases hp : p x with
  | true =>
    rw [hp] at ef
    refine iteT (he H e _ ⟨_, hD, ?_, e.mut nD, ?_⟩)
    · rw [List.length_map]
      have h1 := List.length_filter_le p (ns.take i)
      have h2 := List.length_take_le i ns
      have h3 : (ns.take i).length ≤ ns.length := by rw [List.length_take]; exact Nat.min_le_right _ _
      rw [sizeLine_eq]; omega
    · rw [upd_same, ef, List.map_append]
      rfl
  | false =>
    rw [hp] at ef
    refine iteF ⟨e, ?_⟩
    rw [ef, if_neg (by decide), List.append_nil]
    exact hD
def lcT_filter {ns : List Int} (p : Int → Bool) (hs : SqT K H1 a (ns.map V.int)) (nD : H1 D = none) (hlen : ns.length < 100000) (hw : ∀ x, wipe ((wipe σ vs).set j (some x)) vs = wipe σ vs)
    (ht : ∀ x ∈ ns, ∀ H', Same H1 H' → ∀ R : Bool → Hp → Prop, R (p x) H' → tt ((wipe σ vs).set j (some (.int x))) H' R) (he : ∀ x ∈ ns, ∀ H', Same H1 H' → ∀ R : VK, R (.int x) H' → te ((wipe σ vs).set j (some (.int x))) H' R)
    (k : ∀ H', Same H1 H' → H' D = some (.lst ((ns.filter p).map V.int)) → Qd H') := 
  lc_tup (K := K) (a := a) (xs := ns.map V.int) (g := gName j) (tt := tt) (te := te) (vs := vs) (σ := σ) (H1 := H1) (D := D) (Qd := Qd) (fun i H => Same H1 H ∧ H D = some (.lst (((ns.take i).filter p).map V.int))) ⟨same_upd nD, upd_same⟩ (fun i H _ h => h.1.seqT hs)
    (fun i y H hi h => by
      obtain ⟨x, hx, rfl⟩ := get_map_int hi
      have hm := List.mem_of_getElem? hx
      exact ⟨hw _, filt_turn nD hlen hx (ht x hm) (he x hm) h⟩)
    (fun H h => k H h.1 (by have := h.2; rw [List.length_map, List.take_length] at this; exact this))
def lcL_filter {ns : List Int} (p : Int → Bool) (hs : SqL K H1 a (ns.map V.int)) (nD : H1 D = none) (hlen : ns.length < 100000) (hw : ∀ x, wipe ((wipe σ vs).set j (some x)) vs = wipe σ vs)
    (ht : ∀ x ∈ ns, ∀ H', Same H1 H' → ∀ R : Bool → Hp → Prop, R (p x) H' → tt ((wipe σ vs).set j (some (.int x))) H' R) (he : ∀ x ∈ ns, ∀ H', Same H1 H' → ∀ R : VK, R (.int x) H' → te ((wipe σ vs).set j (some (.int x))) H' R)
    (k : ∀ H', Same H1 H' → H' D = some (.lst ((ns.filter p).map V.int)) → Qd H') := 
  lc_list (K := K) (a := a) (xs := ns.map V.int) (g := gName j) (tt := tt) (te := te) (vs := vs) (σ := σ) (H1 := H1) (D := D) (Qd := Qd) (fun i H => Same H1 H ∧ H D = some (.lst (((ns.take i).filter p).map V.int))) ⟨same_upd nD, upd_same⟩ (fun i H _ h => h.1.seq hs)
    (fun i y H hi h => by
      obtain ⟨x, hx, rfl⟩ := get_map_int hi
      have hm := List.mem_of_getElem? hx
      exact ⟨hw _, filt_turn nD hlen hx (ht x hm) (he x hm) h⟩)
    (fun H h => k H h.1 (by have := h.2; rw [List.length_map, List.take_length] at this; exact this))
def rgI (n : Nat) : List Int := (List.range n).map fun i => ((i : Nat) : Int)
theorem rgI_get {n i : Nat} (h : i < n) : (rgI n)[i]? = some (i : Int) := by
  unfold rgI
  rw [List.getElem?_map, List.getElem?_range h]
  rfl
theorem rgI_length (n : Nat) : (rgI n).length = n := by unfold rgI; rw [List.length_map, List.length_range]
theorem mem_rgI {n : Nat} {x : Int} : x ∈ rgI n ↔ 0 ≤ x ∧ x < n := by
  unfold rgI
  rw [List.mem_map]
  constructor
  · rintro ⟨i, h, rfl⟩
    have := List.mem_range.mp h
    omega
  · rintro ⟨h0, h1⟩
    exact ⟨x.toNat, List.mem_range.mpr (by omega), by omega⟩
def lcR_filter {n : Nat} (p : Int → Bool) (nD : H1 D = none) (hlen : n < 100000) (hw : ∀ x, wipe ((wipe σ vs).set j (some x)) vs = wipe σ vs)
    (ht : ∀ x ∈ rgI n, ∀ H', Same H1 H' → ∀ R : Bool → Hp → Prop, R (p x) H' → tt ((wipe σ vs).set j (some (.int x))) H' R) (he : ∀ x ∈ rgI n, ∀ H', Same H1 H' → ∀ R : VK, R (.int x) H' → te ((wipe σ vs).set j (some (.int x))) H' R)
    (k : ∀ H', Same H1 H' → H' D = some (.lst (((rgI n).filter p).map V.int)) → Qd H') := 
  lc_range (lo := 0) (n := n) (g := gName j) (tt := tt) (te := te) (vs := vs) (σ := σ) (H1 := H1) (D := D) (Qd := Qd) (fun i H => Same H1 H ∧ H D = some (.lst ((((rgI n).take i).filter p).map V.int))) ⟨same_upd nD, upd_same⟩
    (fun i H hi h => by
      have hx := rgI_get hi
      have hm := List.mem_of_getElem? hx
      have e0 : (0 : Int) + ((i : Nat) : Int) = (i : Int) := Int.zero_add _
      rw [e0]
      exact ⟨hw _, filt_turn nD (by rw [rgI_length]; exact hlen) hx (ht _ hm) (he _ hm) h⟩)
    (fun H h => k H h.1 (by have := h.2; rw [List.take_of_length_le (by rw [rgI_length]; exact Nat.le_refl n)] at this; exact this))
theorem in_k {K : PySem.W.Frag} {neg : Bool} {x : Int} {q : Addr} {ns : List Int} {H : Hp} {Q : VK} (h : SqL K H q (ns.map V.int) ∨ SqT K H q (ns.map V.int)) (k : Q (.bl (if neg then !decide (x ∈ ns) else decide (x ∈ ns))) H) : rIn K neg (.int x) (.ref q) H Q :=
  ⟨q, _, rfl, h, rfl, flat_ints ns, by rw [in_ints]; exact k⟩
theorem tup_of {K : PySem.W.Frag} {H : Hp} {q : Addr} {xs : List V} (h : H q = some (.tup xs)) : SqT K H q xs := .inl (.inl h)
theorem lst_of {K : PySem.W.Frag} {H : Hp} {q : Addr} {xs : List V} (h : H q = some (.lst xs)) : SqL K H q xs := .inl (.inl h)
end
def Draws (K : PySem.W.Frag) (p : Addr) (c : Nat) (H H' : Hp) : Prop := Gd H H' ∧ PoolOk K p c H'
/-- _law_some: a new list of fewer than m questions -/
def spSome (K : PySem.W.Frag) : Sp := fun vs H Q _ => ∃ (p : Addr) (c : Nat) (m : Int), vs = [.ref p, .int m] ∧ PoolOk K p c H ∧ c + 200 < LIM ∧ 0 < m ∧ m ≤ 100 ∧
  ∀ H' D l, H D = none → Gd H H' → PoolOk K p (c + 200) H' → H' D = some (.lst (l.map V.int)) → Qn l → (l.length : Int) < m → Q (.ref D) H'
/-- _law_set: the ascending list -/
def spSet (K : PySem.W.Frag) : Sp := fun vs H Q _ => ∃ (q : Addr) (l : List Int), vs = [.ref q] ∧ SqL K H q (l.map V.int) ∧
  ∀ H' D, H D = none → Same H H' → H' D = some (.lst ((norm l).map V.int)) → Q (.ref D) H'
theorem ask_rg : ask48 = rgI 48 := rfl
theorem norm_rg (l : List Int) : (rgI 48).filter (fun x => decide (x ∈ l)) = norm l := rfl
theorem own_bin {C x y : Addr} {f : List Int → List Int → List Int} {l m : List Int} {H : Hp} {Q : VK} {E : XK} (px : PupAt C H x l) (py : PupAt C H y m) (k : ∀ z H', H z = none → Same H H' → PupAt C H' z (f l m) → Q (.ref z) H') :
    rOwn C (spBin C f) E (.ref x) (.ref y) H Q := by
  obtain ⟨dx, t, hx, _⟩ := id px
  obtain ⟨dy, u, hy, _⟩ := id py
  exact ⟨x, y, dx, dy, _, _, rfl, rfl, hx, hy, x, y, l, m, rfl, px, py, k⟩
theorem own_rel {C x y : Addr} {f : List Int → List Int → Bool} {l m : List Int} {H : Hp} {Q : VK} {E : XK} (px : PupAt C H x l) (py : PupAt C H y m) (k : ∀ H', Same H H' → Q (.bl (f (norm l) (norm m))) H') :
    rOwn C (spRel C f) E (.ref x) (.ref y) H Q := by
  obtain ⟨dx, t, hx, _⟩ := id px
  obtain ⟨dy, u, hy, _⟩ := id py
  exact ⟨x, y, dx, dy, _, _, rfl, rfl, hx, hy, x, y, l, m, rfl, px, py, k⟩
theorem fld_rights {K : PySem.W.Frag} {C x : Addr} {l : List Int} {H : Hp} {Q : VK} (px : PupAt C H x l) (c : Cls K C) (n : NoAttr K C "rights") (k : ∀ t, H t = some (.tup ((norm l).map V.int)) → Q (.ref t) H) :
    ∃ a C dx fs v, V.ref x = .ref a ∧ H a = some (.ins C dx fs) ∧ Cls K C ∧ NoAttr K C "rights" ∧ fs.lookup ("rights" : Str) = some v ∧ Q v H := by
  obtain ⟨dx, t, hx, ht⟩ := px
  exact ⟨x, C, dx, _, .ref t, rfl, hx, c, n, rfl, k t ht⟩
/-! the pure facts -/
theorem le_within {l m : List Int} (h1 : Qn l) : fLe (norm l) (norm m) = decide (l.filter (fun x => !decide (x ∈ m)) = []) := by
  rw [Bool.eq_iff_iff]
  unfold fLe
  rw [List.all_eq_true, decide_eq_true_eq, List.filter_eq_nil_iff]
  constructor
  · intro h x hx
    have := h x (mem_norm.mpr ⟨h1 x hx, hx⟩)
    rw [decide_eq_true_eq, mem_norm] at this
    simp [this.2]
  · intro h x hx
    obtain ⟨a, b⟩ := mem_norm.mp hx
    have := h x b
    rw [decide_eq_true_eq, mem_norm]
    exact ⟨a, by simpa using this⟩
theorem or_within {l m : List Int} (h1 : Qn l) : fEq (norm (fOr l m)) (norm m) = decide (l.filter (fun x => !decide (x ∈ m)) = []) := by
  rw [Bool.eq_iff_iff]
  unfold fEq fOr
  rw [decide_eq_true_eq, decide_eq_true_eq, List.filter_eq_nil_iff, norm_eq_iff]
  constructor
  · intro h x hx
    have := (h x (h1 x hx).1 (h1 x hx).2).mp (List.mem_append.mpr (.inl hx))
    simp [this]
  · intro h x h0 h1
    rw [List.mem_append]
    exact ⟨fun a => a.elim (fun b => by simpa using h x b) id, .inr⟩
theorem and_within {l m : List Int} (h1 : Qn l) : fEq (norm (fAnd l m)) (norm l) = decide (l.filter (fun x => !decide (x ∈ m)) = []) := by
  rw [Bool.eq_iff_iff]
  unfold fEq fAnd
  rw [decide_eq_true_eq, decide_eq_true_eq, List.filter_eq_nil_iff, norm_eq_iff]
  constructor
  · intro h x hx
    have := (h x (h1 x hx).1 (h1 x hx).2).mpr hx
    rw [List.mem_filter] at this
    simp [of_decide_eq_true this.2]
  · intro h x h0 h1
    rw [List.mem_filter]
    exact ⟨fun a => a.1, fun a => ⟨a, by simpa using h x a⟩⟩
theorem le_or (l m : List Int) : fLe (norm l) (norm (fOr l m)) = true := by
  unfold fLe fOr
  rw [List.all_eq_true]
  intro x hx
  obtain ⟨a, b⟩ := mem_norm.mp hx
  exact decide_eq_true (mem_norm.mpr ⟨a, List.mem_append.mpr (.inl b)⟩)
theorem le_and (l m : List Int) : fLe (norm (fAnd l m)) (norm m) = true := by
  unfold fLe fAnd
  rw [List.all_eq_true]
  intro x hx
  obtain ⟨a, b⟩ := mem_norm.mp hx
  exact decide_eq_true (mem_norm.mpr ⟨a, of_decide_eq_true (List.mem_filter.mp b).2⟩)
theorem sub_and (l m : List Int) : norm (fAnd (fSub l m) m) = [] := by
  unfold norm fAnd fSub
  rw [List.filter_eq_nil_iff]
  intro x _ h
  have h := of_decide_eq_true h
  rw [List.mem_filter, List.mem_filter] at h
  obtain ⟨⟨_, h2⟩, h3⟩ := h
  have := of_decide_eq_true h3
  simp [this] at h2
theorem sub_or_and (l m : List Int) : norm (fOr (fSub l m) (fAnd l m)) = norm l := norm_ext fun x h0 h1 => by
  unfold fOr fSub fAnd
  rw [List.mem_append, List.mem_filter, List.mem_filter]
  by_cases h : x ∈ m <;> simp [h]
theorem and_set (l m : List Int) : norm (fAnd l m) = (norm l).filter fun x => decide (x ∈ m) := by
  unfold fAnd
  rw [norm_filter]
theorem sub_set (l m : List Int) : norm (fSub l m) = (norm l).filter fun x => !decide (x ∈ m) := by
  unfold fSub
  rw [norm_filter]
theorem ne_false {l m : List Int} (e : l = m) : (!decide (l = m)) = false := by simp [e]
def spPair (K : PySem.W.Frag) : Sp := fun vs H Q _ => ∃ (o t : Addr) (l m : List Int), vs = [.ref o, .ref t] ∧ H o = some (.lst (l.map V.int)) ∧ H t = some (.lst (m.map V.int)) ∧ Qn l ∧ Qn m ∧ l.length ≤ 200 ∧ m.length ≤ 200 ∧ ∀ H', Same H H' → Q (.bl true) H'
theorem kit_bool {K : PySem.W.Frag} : PySem.W.kitOne K (.type "bool") (.type "bool") = some true := kit_ty (by decide +kernel)
theorem dec_self (b : Bool) : (!decide (V.bl b = V.bl b)) = false := by simp
theorem rg_ints (n : Nat) : rgV 0 (n : Int) = (rgI n).map V.int := by
  unfold rgV rgI
  rw [List.map_map, Int.sub_zero, Int.toNat_natCast]
  refine List.map_congr_left fun i _ => ?_
  show V.int (0 + (i : Int)) = V.int (i : Int)
  rw [Int.zero_add]
/-- a list of questions at r -/
def QsAt (H : Hp) (r : Addr) (l : List Int) : Prop := H r = some (.lst (l.map V.int)) ∧ Qn l ∧ l.length ≤ 200
theorem QsAt.gd {H H' : Hp} {r : Addr} {l : List Int} (e : Gd H H') (h : QsAt H r l) : QsAt H' r l := ⟨e.1 _ _ (np_ints l) h.1, h.2⟩
theorem QsAt.same {H H' : Hp} {r : Addr} {l : List Int} (e : Same H H') (h : QsAt H r l) : QsAt H' r l := h.gd e.gd
theorem two_at {x y : V} {r : Int} (h0 : 0 ≤ r) (h1 : r < 2) : atI [x, y] r = some (if r = 0 then x else y) := by
  rcases (show r = 0 ∨ r = 1 by omega) with e | e
  · subst e; exact atI0
  · subst e; exact atI1
/-! ## a pupil beside the ascending list of its questions -/
theorem np_refs (xs : List Addr) : ¬ isPool (.lst (xs.map V.ref)) := by
  rintro ⟨a, c, i, b, s, h⟩
  cases xs with
  | nil => cases h
  | cons x r =>
    injection h with h
    injection h with _ h
    cases r with
    | nil => cases h
    | cons y r => injection h with h _; cases h
def Pr (C : Addr) (H : Hp) (x y : Addr) : Prop := ∃ l, PupAt C H x l ∧ H y = some (.lst ((norm l).map V.int))
theorem Pr.same {C x y : Addr} {H H' : Hp} (e : Same H H') (h : Pr C H x y) : Pr C H' x y := let ⟨l, a, b⟩ := h; ⟨l, a.same e, e _ _ b⟩
theorem Pr.gd {C x y : Addr} {H H' : Hp} (e : Gd H H') (h : Pr C H x y) : Pr C H' x y := let ⟨l, a, b⟩ := h; ⟨l, a.gd e, e.1 _ _ (np_ints _) b⟩
theorem PupAt.mut {C x q : Addr} {H : Hp} {l : List Int} {zs : List V} {o : HO} (hq : H q = some (.lst zs)) (h : PupAt C H x l) : PupAt C (upd H q o) x l := by
  obtain ⟨dx, t, h1, h2⟩ := h
  exact ⟨dx, t, by rw [upd_ne (ne_of h1 hq (by intro z; cases z))]; exact h1, by rw [upd_ne (ne_of h2 hq (by intro z; cases z))]; exact h2⟩
theorem Pr.mut {C x y q : Addr} {H : Hp} {zs : List V} {o : HO} (hq : H q = some (.lst zs)) (ne : y ≠ q) (h : Pr C H x y) : Pr C (upd H q o) x y := let ⟨l, a, b⟩ := h; ⟨l, a.mut hq, by rw [upd_ne ne]; exact b⟩
theorem Pr.ne {C x y q z : Addr} {H : Hp} {zs : List V} (h : Pr C H x y) (hq : H q = some (.lst (.ref z :: zs))) : y ≠ q := by
  obtain ⟨l, a, b⟩ := h
  refine ne_of b hq fun e => ?_
  injection e with e
  cases hn : norm l with
  | nil => rw [hn] at e; cases e
  | cons u r => rw [hn] at e; injection e with e _; cases e
def Tri (C : Addr) (H : Hp) (PL SL : Addr) (xs ys : List Addr) : Prop := H PL = some (.lst (xs.map V.ref)) ∧ H SL = some (.lst (ys.map V.ref)) ∧ xs.length = 3 ∧ ys.length = 3 ∧ ∀ (k : Nat) x y, xs[k]? = some x → ys[k]? = some y → Pr C H x y
theorem Tri.gd {C PL SL : Addr} {H H' : Hp} {xs ys : List Addr} (e : Gd H H') (h : Tri C H PL SL xs ys) : Tri C H' PL SL xs ys :=
  ⟨e.1 _ _ (np_refs _) h.1, e.1 _ _ (np_refs _) h.2.1, h.2.2.1, h.2.2.2.1, fun k x y a b => (h.2.2.2.2 k x y a b).gd e⟩
theorem at_ref {xs : List Addr} {r : Int} (h0 : 0 ≤ r) (h1 : r < (xs.length : Int)) : ∃ (j : Nat) (x : Addr), xs[j]? = some x ∧ r = (j : Int) ∧ j < xs.length ∧ atI (xs.map V.ref) r = some (.ref x) := by
  obtain ⟨j, rfl⟩ : ∃ j : Nat, r = (j : Int) := ⟨r.toNat, by omega⟩
  have hj : j < xs.length := by omega
  refine ⟨j, xs[j], List.getElem?_eq_getElem hj, rfl, hj, atI_nat ?_⟩
  rw [List.getElem?_map, List.getElem?_eq_getElem hj]
  rfl
theorem get3 {xs : List Addr} {j : Nat} (h : xs.length = 3) (hj : j < 3) : ∃ x, xs[j]? = some x := ⟨xs[j]'(by omega), List.getElem?_eq_getElem _⟩
def spHas (C : Addr) : Sp := fun vs H Q _ => ∃ (a : Addr) (p : List Int) (z : Int), vs = [.ref a, .int z] ∧ PupAt C H a p ∧ Q (.bl (decide (z ∈ norm p))) H
def spLen (C : Addr) : Sp := fun vs H Q _ => ∃ (a : Addr) (p : List Int), vs = [.ref a] ∧ PupAt C H a p ∧ Q (.int ((norm p).length : Nat)) H
def spAdded (C : Addr) : Sp := fun vs H Q _ => ∃ (a : Addr) (p : List Int) (z : Int), vs = [.ref a, .int z] ∧ PupAt C H a p ∧ 0 ≤ z ∧ z < 48 ∧ ∀ x H', H x = none → Same H H' → PupAt C H' x (p ++ [z]) → Q (.ref x) H'
def spAfter (K : PySem.W.Frag) (C : Addr) : Sp := fun vs H Q _ => ∃ (p PL SL : Addr) (c : Nat) (xs ys : List Addr), vs = [.ref p, .ref PL, .ref SL] ∧ PoolOk K p c H ∧ c + 100 < LIM ∧ Tri C H PL SL xs ys ∧
  ∀ H' t x y, Gd H H' → PoolOk K p (c + 100) H' → H' t = some (.tup [.ref x, .ref y]) → H y = none → Pr C H' x y → Q (.ref t) H'
def spRight (C : Addr) : Sp := fun vs H Q _ => ∃ (PL SL : Addr) (xs ys : List Addr), vs = [.ref PL, .ref SL] ∧ Tri C H PL SL xs ys ∧ ∀ H', Same H H' → Q (.bl true) H'
theorem own_has {C x : Addr} {neg : Bool} {z : Int} {p : List Int} {H : Hp} {Q : VK} {E : XK} (px : PupAt C H x p) (k : Q (.bl (if neg then !decide (z ∈ norm p) else decide (z ∈ norm p))) H) : rOwnIn C (spHas C) E neg (.int z) (.ref x) H Q := by
  obtain ⟨dx, t, hx, _⟩ := id px
  exact ⟨x, dx, _, rfl, hx, x, p, z, rfl, px, _, rfl, k⟩
theorem own_len {C x : Addr} {p : List Int} {H : Hp} {Q : VK} {E : XK} (px : PupAt C H x p) (k : Q (.int ((norm p).length : Nat)) H) : rOwnLen C (spLen C) E [.ref x] H Q := by
  obtain ⟨dx, t, hx, _⟩ := id px
  have := norm_len p
  exact ⟨x, dx, _, rfl, hx, x, p, rfl, px, _, rfl, by omega, by omega, k⟩
theorem le_listW (l m : List Int) : fLe (norm l) (norm m) = decide ((norm l).filter (fun x => !decide (x ∈ norm m)) = []) := by
  have := le_within (m := norm m) (qn_norm l)
  rw [norm_norm, norm_norm] at this
  exact this
theorem dpAll_bls {K : PySem.W.Frag} {H : Hp} : ∀ bs : List Bool, DpAll K H (bs.map V.bl) (bs.map PyData.bool)
  | [] => .nil
  | n :: r => .cons (.bl n) (dpAll_bls r)
theorem canLay_bls : ∀ ns : List Bool, PyData.canLayAll0 (ns.map PyData.bool) = true
  | [] => by rw [List.map_nil, PyData.canLayAll0]
  | n :: r => by
    rw [List.map_cons, PyData.canLayAll0, canLay_bls r]
    rfl
theorem depth_bls : ∀ ns : List Bool, PyData.depthAll (ns.map PyData.bool) = 0
  | [] => by rw [List.map_nil, PyData.depthAll]
  | n :: r => by
    rw [List.map_cons, PyData.depthAll, depth_bls r]
    rfl
theorem shB (ns : List Bool) : SeqAt.shaped (.list (ns.map PyData.bool)) = true := by
  simp [SeqAt.shaped, PyData.canLay0, canLay_bls, PyData.depth, depth_bls]
theorem evAll_bls : ∀ ns : List Bool, PyData.eqvAll (ns.map PyData.bool) (ns.map PyData.bool) = true
  | [] => by rw [List.map_nil, PyData.eqvAll]
  | n :: r => by
    rw [List.map_cons, PyData.eqvAll, evAll_bls r]
    cases n <;> simp [PyData.eqv]
theorem neD_bls {K : PySem.W.Frag} {H : Hp} {a b : Addr} {ns : List Bool} {Q : VK} (h1 : SqL K H a (ns.map V.bl)) (h2 : SqL K H b (ns.map V.bl)) (q : Q (.bl false) H) : rNeD K (.ref a) (.ref b) H Q :=
  ⟨_, _, .lst h1 (dpAll_bls ns), .lst h2 (dpAll_bls ns), shB ns, shB ns, by rw [PyData.eqv, evAll_bls]; exact q⟩
theorem take_get {α : Type} {l : List α} {i : Nat} {x : α} (h : l[i]? = some x) : l.take (i + 1) = l.take i ++ [x] := by
  rw [List.take_add_one, h]
  rfl
end L2

namespace L2
open PySem PySem.Spec PyProof.Rows LamX NdefX
/-! ## a lambda with parameters, handed to a def that calls it -/
theorem cells_un {cl : List (Str × Addr)} {fr : List Str} {ws : List (Option V)} {fs : List Addr} {H HZ : Hp} {h h1 : Heap} (C : CellsAt cl fr ws h H) (un : Un fs [] H HZ h h1) : CellsAt cl fr ws h1 HZ := by
  have kp : ∀ y c, cl.lookup y = some c → ∀ v, h.IsCell c v → h1.IsCell c v := fun y c e v ⟨o, ho, hd⟩ => by
    obtain ⟨sl, q⟩ := un.any ho (C.all y c e).1 (by simp)
    exact ⟨_, q, hd⟩
  refine ⟨C.len, fun y c e => ?_, C.inj, fun i y e => ?_⟩
  · obtain ⟨n, v, z⟩ := C.all y c e
    refine ⟨?_, v, kp y c e v z⟩
    obtain ⟨o, ho, _⟩ := z
    exact un.free c o ho n (by simp)
  · obtain ⟨c, hc, hv⟩ := C.has i y e
    refine ⟨c, hc, fun v ev => ?_⟩
    obtain ⟨u, r, z⟩ := hv v ev
    exact ⟨u, r, kp y c hc _ z⟩
/-- the lambda's words as of a nested def (its body and its parameters' text are not asked) -/
abbrev lamNF (X : Cx) (params : Arguments) (scope : Scope) (c' : Addr) : NF := ⟨"<lambda>", X.env.qual ++ "<lambda>", params, [], scope, cloFrom X.env.cells scope.names [], c'⟩
section
variable {X : Cx} {pins : List (Addr × Obj)} {σ : L2.St} {H : Hp} {s : Shared}
/-- a(e, ..), in the def that got the lambda -/
theorem pe_actP {CXg : CXT} {Eg : XK} {Ng : List Str} {qg : Str} {sg : Scope} {g f c' : Addr} {cdg pm ctv : Value} {params : Arguments} {body : Expr} {scope : Scope} {k i : Nat} {a : Str} {tb : TE} {p1 p2 : Pos} {N ps fr : List Str} {js : List Nat} {e : Expr} {es : List Expr} {ta : TA}
    (I : Inv X pins σ H s) (S : NScope N ps fr scope) (hnd : ndefB X.env.scope scope fr = true) (hjs : js.map (fun j => X.N[j]?) = fr.map some)
    (hf : s.heap.get? f = some (PySem.W.kla_obj "<lambda>" (X.env.qual ++ "<lambda>") params body scope (cloFrom X.env.cells scope.names []) pm c' ctv)) (hfn : H f = none) (hfr : f ∉ frs X.stack)
    (hbind : ∀ us : List Value, us.length = ps.length → bindArgs (PySem.W.kla_fn "<lambda>" (X.env.qual ++ "<lambda>") params body scope (cloFrom X.env.cells scope.names []) pm (.ref c') ctv) ⟨us, []⟩ = pure (ps.zip us))
    (hr : Room (k + 1) (X.A.deeper (envOfC qg sg s.heap.objs.size g cdg)))
    (hbody : ∀ (A : Around) (outer : List Env) (s : Shared) (H : Hp), Room k (A.deeper (envF (lamNF X params scope c') f s.heap.objs.size)) → PE (ncx CX0 X.prog X.w X.K X.mg X.base N (lamNF X params scope c') f A outer s H E0) body tb)
    (hN : Ng[i]? = some a) (hv : Vis sg a) (ha : PA (cxOf CXg X.prog X.w X.K X.mg X.base Ng qg sg g cdg X.A X.stack s H Eg).nox (e :: es) ta)
    (he : starEach (e :: es) (cxOf CXg X.prog X.w X.K X.mg X.base Ng qg sg g cdg X.A X.stack s H Eg).nox.env = (false, eval e (cxOf CXg X.prog X.w X.K X.mg X.base Ng qg sg g cdg X.A X.stack s H Eg).nox.env) :: starEach es (cxOf CXg X.prog X.w X.K X.mg X.base Ng qg sg g cdg X.A X.stack s H Eg).nox.env)
    (hpl : (backTo p2 (starEach es (cxOf CXg X.prog X.w X.K X.mg X.base Ng qg sg g cdg X.A X.stack s H Eg).nox.env)).any (·.1) = false)
    (hd : (a == ("__debug__" : Str)) = false := by decide) (hcd : (a == ("__classdict__" : Str)) = false := by decide) :
    PE (cxOf CXg X.prog X.w X.K X.mg X.base Ng qg sg g cdg X.A X.stack s H Eg).nox (.Call (.Name a p1) (e :: es) [] p2)
      (fun σZ HZ Q => σZ[i]? = some (some (.ref f)) ∧ ta σZ HZ fun vs H2 => H2 c' = some (CodeO c' (X.env.qual ++ "<lambda>")) ∧ vs.length = ps.length ∧ tb (startF N vs (js.map (NdefX.slotAt σ))) H2 Q) := by
  refine ⟨fun pinsZ sZ σZ HZ Q IZ h => ?_⟩
  obtain ⟨hs, ht⟩ := h
  refine wpAny_Call_Name_kw (thn ((pe_var (pos := p1) (i := i) hN hv hd hcd).run pinsZ sZ σZ HZ (fun v H1 => v = .ref f ∧ H1 = HZ) IZ ⟨.ref f, hs, rfl, rfl⟩) fun u s1 ⟨v, H1, I1, r1, q1⟩ => ?_)
  obtain ⟨ev, eH⟩ := q1
  subst ev
  rw [eH] at I1
  obtain rfl : u = Value.ref f := r1
  have at_ : ∀ {σ' : L2.St} {H' : Hp} {s' : Shared} {pins' : List (Addr × Obj)}, Inv (cxOf CXg X.prog X.w X.K X.mg X.base Ng qg sg g cdg X.A X.stack s H Eg).nox pins' σ' H' s' → s'.heap.get? f = some (PySem.W.kla_obj "<lambda>" (X.env.qual ++ "<lambda>") params body scope (cloFrom X.env.cells scope.names []) pm c' ctv) :=
    fun {σ' H' s' pins'} J => J.base.keep f _ hf hfn hfr (fun z => nomatch (show f ∈ ([] : List Addr) from z))
  refine PySem.W.callWith_F (first := []) ⟨_, _, _, _, at_ I1⟩ (thn (ha.run p2 pinsZ s1 σZ HZ _ I1 ht) fun us s2 ⟨vs, H2, I2, r, hc, hl, q⟩ => ⟨⟨_, _, _, _, at_ I2⟩, ?_⟩) he hpl
  show wpAny _ _ (call (.ref f) us) _ _ _
  have of2 := at_ I2
  have un : Un (frs X.stack) [] H H2 s.heap s2.heap := I2.base
  obtain ⟨⟨oc, vc, t, hoc, hdc, hvc⟩, _, _⟩ := I2.hok c' _ hc
  have C0 : CellsAt (cloFrom X.env.cells scope.names []) fr (js.map (NdefX.slotAt σ)) s.heap H := cells_of I (Caps.made I.ok (ndef_free hnd) (ndef_fr hnd) hjs)
  have C : CellsAt (lamNF X params scope c').cl fr (js.map (NdefX.slotAt σ)) s2.heap H2 := cells_un C0 un
  have rc : codeAny (model X.prog X.w) (X.A.deeper (envOfC qg sg s.heap.objs.size g cdg)) (.call (.ref f) ⟨us, []⟩) (CR CX0 (envOfC qg sg s.heap.objs.size g cdg :: X.stack) X.prog X.w H2 s2 Q E0) s2 := by
    refine PySem.W.kla_callFunE hr.depth of2 rfl S.co S.gen rfl ⟨c', oc, vc, t, rfl, hoc, hdc, hvc⟩ ?_
    rw [hbind us (by rw [← r.length]; exact hl)]
    refine wpAny_pure (wpAny_newFunctionEnv S.nocell (fun ⟨n, _⟩ hy => S.par n (List.of_mem_zip hy).1) (fun h₁ hns hsb => ⟨I2.nolimit.fresh _ hsb, ?_⟩) S.kind)
    show codeAny _ _ (.expr body (envF (lamNF X params scope c') f s2.heap.objs.size)) _ _
    have kp : ∀ b o, s2.heap.get? b = some o → h₁.get? b = some o := fun b o e => hsb.extBut b o (Nat.ne_of_lt (Heap.lt_size e)) (Heap.get?_push_of_some _ e)
    have J : Inv (ncx CX0 X.prog X.w X.K X.mg X.base N (lamNF X params scope c') f (X.A.deeper (envOfC qg sg s.heap.objs.size g cdg)) (envOfC qg sg s.heap.objs.size g cdg :: X.stack) s2 H2 E0) [] (startF N vs (js.map (NdefX.slotAt σ))) H2 { s2 with heap := h₁, toks := s2.toks + (ps.zip us).length } :=
      inv_startN S hr.hd I2.env0 hl r C hns kp
    refine PySem.W.kla_codeExpr (wpAny_mono ((hbody _ _ s2 H2 (hr.deeper _)).run [] _ _ H2 Q J q) (fun v s' hq => ?_) fun e s' hq => hq)
    obtain ⟨w', H', J', rv, q⟩ := hq
    exact ⟨w', H', J'.os, J'.bare, J'.base, J'.hok, rv, q⟩
  refine wpAny_call (codeAny_mono rc fun r s' hq => ?_)
  cases r with
  | error e => exact (show False from hq).elim
  | ok fl =>
    cases fl with
    | ret u => exact I2.after hq
    | next => exact False.elim hq
    | brk => exact False.elim hq
    | cont => exact False.elim hq
end
/-- the def that calls what it got as its second argument; TT: what it makes of the lambda's reading -/
def GivesTo2 (P : Program) (w : World) (K : PySem.W.Frag) (mg : Str → Option Value) (base : Heap) (A : Around) (stk : List Env) (Ng : List Str) (x : Str) (sg : Scope) (g : Addr) (cdg : Value) (bg : List Stmt) (a : Str) (k : Nat) (TT : Addr → V → (List V → Hp → VK → Prop) → Hp → VK → Prop) : Prop :=
  ∀ (f c' : Addr) (s : Shared) (H : Hp) (Q : VK) (v1 : V) (q : Str) (tl : List V → Hp → VK → Prop), Room k (A.deeper (envOfC x sg s.heap.objs.size g cdg)) →
    (∀ (p1 p2 : Pos) (e : Expr) (es : List Expr) (ta : TA), PA (cxOf CX0 P w K mg base Ng x sg g cdg A stk s H E0).nox (e :: es) ta →
      starEach (e :: es) (cxOf CX0 P w K mg base Ng x sg g cdg A stk s H E0).nox.env = (false, eval e (cxOf CX0 P w K mg base Ng x sg g cdg A stk s H E0).nox.env) :: starEach es (cxOf CX0 P w K mg base Ng x sg g cdg A stk s H E0).nox.env →
      (backTo p2 (starEach es (cxOf CX0 P w K mg base Ng x sg g cdg A stk s H E0).nox.env)).any (·.1) = false →
      PE (cxOf CX0 P w K mg base Ng x sg g cdg A stk s H E0).nox (.Call (.Name a p1) (e :: es) [] p2) (fun σZ HZ Q => σZ[1]? = some (some (.ref f)) ∧ ta σZ HZ fun vs H2 => H2 c' = some (CodeO c' q) ∧ tl vs H2 Q)) →
    H c' = some (CodeO c' q) → TT c' v1 tl H Q →
    ∃ t, PSs (cxOf CX0 P w K mg base Ng x sg g cdg A stk s H E0).nox bg t ∧ t { nx := fun _ H' => Q .non H', rt := Q } (L2.start Ng [v1, .ref f]) H
def tLam2 (T : List (Addr × Str)) (TT : Addr → V → (List V → Hp → VK → Prop) → Hp → VK → Prop) (te : TE) (N ps : List Str) (js : List Nat) (tb : TE) : TE := fun σ H Q => te σ H fun v1 H1 => Tabs T H1 ∧ ∀ c' H2, ExtN H1 H2 → Tabs T H2 → TT c' v1 (fun vs H' Q' => vs.length = ps.length ∧ tb (startF N vs (js.map (NdefX.slotAt σ))) H' Q') H2 Q
section
variable {X : Cx}
/-- x(e, lambda ..: body) -/
theorem pe_lamcall2 {T : List (Addr × Str)} {TT : Addr → V → (List V → Hp → VK → Prop) → Hp → VK → Prop} {x a0 a : Str} {g c P : Addr} {k : Nat} {pg : Arguments} {bg : List Stmt} {sg : Scope} {dV kV doc pm cdv ct oc : Value} {an od : Option Addr} {osl : Array (Option Value)} {Ng N ps fr : List Str} {js : List Nat}
    {params : Arguments} {e body : Expr} {scope : Scope} {te tb : TE} {p lpos pos : Pos} (hg : Gl X x) (hm : X.mg x = some (.ref g)) (hk : PySem.W.keepIn X.K (.ref g) = true)
    (lk : X.K.lookup g = some ⟨oc, od, .func (PySem.W.fnOf x x pg bg sg dV kV doc pm an cdv ct), osl⟩) (hcg : PySem.W.codeIn X.K cdv x = true) (hb : L2.Binds X.K (PySem.W.fnOf x x pg bg sg dV kV doc pm an cdv ct) [a0, a] []) (Sg : FnScope Ng [a0, a] sg) (hNg : Ng[1]? = some a) (hva : Vis sg a)
    (hG : GivesTo2 X.prog X.w X.K X.mg X.base X.A X.stack Ng x sg g cdv bg a (k + 1) TT)
    (TB : TabB X.base X.mg c P) (hcode : X.env.code = .ref c) (hmT : (P, X.env.qual ++ "<lambda>") ∈ T) (hu : ∀ p ∈ T, p.1 = P → p.2 = X.env.qual ++ "<lambda>") (hr : Room (k + 2) X.A)
    (S : NScope N ps fr scope) (hnd : ndefB X.env.scope scope fr = true) (hjs : js.map (fun j => X.N[j]?) = fr.map some) (hdef : defaultsOf params X.env = ([], []))
    (hbind : ∀ (q : Str) (cl : List (Str × Addr)) (pm cv ctv : Value) (us : List Value), us.length = ps.length → bindArgs (PySem.W.kla_fn "<lambda>" q params body scope cl pm cv ctv) ⟨us, []⟩ = pure (ps.zip us))
    (hbody : ∀ (A : Around) (outer : List Env) (s : Shared) (H : Hp) (f c' : Addr), Room k (A.deeper (envF (lamNF X params scope c') f s.heap.objs.size)) → PE (ncx CX0 X.prog X.w X.K X.mg X.base N (lamNF X params scope c') f A outer s H E0) body tb)
    (he : PE X e te)
    (hs : starEach [e, .Lambda params body scope lpos] X.env = (false, eval e X.env) :: starEach [.Lambda params body scope lpos] X.env := by rfl)
    (hdb : (x == ("__debug__" : Str)) = false := by decide) (hd : (a == ("__debug__" : Str)) = false := by decide) (hcd : (a == ("__classdict__" : Str)) = false := by decide) :
    PE X (.Call (.Name x p) [e, .Lambda params body scope lpos] [] pos) (tLam2 T TT te N ps js tb) := by
  refine ⟨fun pins s σ H Q I h => ?_⟩
  unfold tLam2 at h
  refine wpAny_Call_Name_kw (ld_glob I hg hm ?_ hdb)
  refine PySem.W.callWith_K (h₀ := X.base) I.ok.mod.kin hk ?_ hs (by rfl)
  rw [hs]
  show wpAny _ _ (spliced ((false, eval e X.env) :: (false, eval (.Lambda params body scope lpos) X.env) :: backTo pos (starEach [] X.env))) _ _ s
  refine Calls.spliced_cons (thn (he.run pins s σ H _ I h) fun u1 s1 ⟨v1, H1, I1, r1, hT, h⟩ => ?_)
  refine Calls.spliced_cons (lam_make2 I1 TB hcode hmT hu hT hdef (fun y hy e => (ndef_free hnd y hy e).elim (fun z => I1.ok.has _ (.inl z)) fun z => I1.ok.has _ (.inr z)) fun f c' pm' ctv H2 s' I2 eN T2 hf hfn hfr hco => ?_)
  refine Calls.spliced_nil ⟨I2.kIn, ?_⟩
  have rc : codeAny (model X.prog X.w) X.A (.call (.ref g) ⟨[u1, .ref f], []⟩) (CR CX0 X.stack X.prog X.w H2 s' Q E0) s' := by
    refine run_ofS (N := Ng) (ps := [a0, a]) (us := [u1, .ref f]) (vs := [v1, .ref f]) lk hcg Sg hr I2.env0 (hb s' [u1, .ref f] I2.kIn rfl) (.cons r1 (.cons rfl .nil)) rfl fun hr' => ?_
    obtain ⟨t', ht', hq'⟩ := hG f c' s' H2 Q v1 (X.env.qual ++ "<lambda>") (fun vs H' Q' => vs.length = ps.length ∧ tb (startF N vs (js.map (NdefX.slotAt σ))) H' Q') hr' (fun p1 p2 e es ta ha he hpl => pe_actP (i := 1) I2 S hnd hjs hf hfn hfr (hbind _ _ _ _ _) hr' (fun A outer s H hr2 => hbody A outer s H f c' hr2) hNg hva ha he hpl hd hcd) hco (h c' H2 eN T2)
    exact ⟨t', ht'.nox, hq'⟩
  refine wpAny_call (codeAny_mono rc fun r s2 hq => ?_)
  cases r with
  | error e => exact (show False from hq).elim
  | ok fl =>
    cases fl with
    | ret u => exact I2.after hq
    | next => exact False.elim hq
    | brk => exact False.elim hq
    | cont => exact False.elim hq
/-- the same, of a def of the module -/
theorem pe_lamcall2F {T : List (Addr × Str)} {TT : Addr → V → (List V → Hp → VK → Prop) → Hp → VK → Prop} {x a0 a : Str} {st : Stmt} {g c P : Addr} {fd : FuncData} {k : Nat} {Ng N ps fr : List Str} {js : List Nat}
    {params : Arguments} {e body : Expr} {scope : Scope} {te tb : TE} {p lpos pos : Pos} (F : Fun X.K x x st g fd) (hk : PySem.W.keepIn X.K (.ref g) = true) (hb : L2.Binds X.K fd [a0, a] []) (hg : Gl X x) (hm : X.mg x = some (.ref g)) (Sg : FnScope Ng [a0, a] (defScope st)) (hNg : Ng[1]? = some a) (hva : Vis (defScope st) a)
    (hG : ∀ cdv, GivesTo2 X.prog X.w X.K X.mg X.base X.A X.stack Ng x (defScope st) g cdv (defBody st) a (k + 1) TT)
    (TB : TabB X.base X.mg c P) (hcode : X.env.code = .ref c) (hmT : (P, X.env.qual ++ "<lambda>") ∈ T) (hu : ∀ p ∈ T, p.1 = P → p.2 = X.env.qual ++ "<lambda>") (hr : Room (k + 2) X.A)
    (S : NScope N ps fr scope) (hnd : ndefB X.env.scope scope fr = true) (hjs : js.map (fun j => X.N[j]?) = fr.map some) (hdef : defaultsOf params X.env = ([], []))
    (hbind : ∀ (q : Str) (cl : List (Str × Addr)) (pm cv ctv : Value) (us : List Value), us.length = ps.length → bindArgs (PySem.W.kla_fn "<lambda>" q params body scope cl pm cv ctv) ⟨us, []⟩ = pure (ps.zip us))
    (hbody : ∀ (A : Around) (outer : List Env) (s : Shared) (H : Hp) (f c' : Addr), Room k (A.deeper (envF (lamNF X params scope c') f s.heap.objs.size)) → PE (ncx CX0 X.prog X.w X.K X.mg X.base N (lamNF X params scope c') f A outer s H E0) body tb)
    (he : PE X e te)
    (hs : starEach [e, .Lambda params body scope lpos] X.env = (false, eval e X.env) :: starEach [.Lambda params body scope lpos] X.env := by rfl)
    (hdb : (x == ("__debug__" : Str)) = false := by decide) (hd : (a == ("__debug__" : Str)) = false := by decide) (hcd : (a == ("__classdict__" : Str)) = false := by decide) :
    PE X (.Call (.Name x p) [e, .Lambda params body scope lpos] [] pos) (tLam2 T TT te N ps js tb) := by
  obtain ⟨oc, od, kV, doc, pm, an, cdv, ct, osl, rfl, lk, hcd'⟩ := F.ex
  exact pe_lamcall2 hg hm hk lk hcd' hb Sg hNg hva (hG cdv) TB hcode hmT hu hr S hnd hjs hdef hbind hbody he hs hdb hd hcd
end
end L2

namespace L2
open PySem PySem.Spec PyProof.Rows LamX
/-! ## a list that a def reads: known exactly while it runs -/
def spLock (sp : Sp) : Sp := fun vs H Q E => sp vs H Q E ∨ ∃ a xs, H a = some (.lst xs) ∧ ∀ od, sp vs (upd H a (.frz od (.lst xs))) (fun v H' => Q v (upd H' a (.lst xs))) E
theorem fn_lock {P : Program} {w : World} {K : PySem.W.Frag} {mg : Str → Option Value} {base : Heap} {k : Nat} {f : Addr} {fd : FuncData} {ps : List Str} {sp : Sp} (F : FnOk P w K mg base CX0 k f fd ps sp) : FnOk P w K mg base CX0 k f fd ps (spLock sp) := by
  refine ⟨fun vs H Q E h => ?_, fun A outer s H args us vs Q E hr e0 hb r h => ?_⟩
  · rcases h with h | ⟨a, xs, _, h⟩
    · exact F.len vs H Q E h
    · exact F.len vs _ _ _ (h default)
  rcases h with h | ⟨a, xs, ha, h⟩
  · exact F.run A outer s H args us vs Q E hr e0 hb r h
  have x := e0.hok a _ ha
  obtain ⟨od, e⟩ : ∃ od, s.heap.get? a = some od := by obtain ⟨_, _, _, _, e⟩ := x; exact ⟨_, e⟩
  have ne1 : ∀ c u, H c = some u → (∀ ys, u ≠ .lst ys) → upd H a (.frz od (.lst xs)) c = some u := fun c u q n => by
    rw [upd_ne (fun z => by rw [z, ha] at q; cases q; exact n _ rfl)]
    exact q
  have hok' : HOk P w (upd H a (.frz od (.lst xs))) s.heap := fun b u q => by
    by_cases hb : b = a
    · rw [hb, upd_same] at q
      cases q
      rw [hb]
      exact ⟨e, x.stay (fun c v _ q => q) (fun c q => ne1 _ _ q (fun ys z => nomatch z)) fun c ys q => ne1 _ _ q (fun ys z => nomatch z)⟩
    · rw [upd_ne hb] at q
      exact (e0.hok b u q).stay (fun c v _ q => q) (fun c q => ne1 _ _ q (fun ys z => nomatch z)) fun c ys q => ne1 _ _ q (fun ys z => nomatch z)
  have neN : ∀ b, H b = none → b ≠ a := fun b n z => by rw [z, ha] at n; cases n
  have eN : ∀ b, H b = none → upd H a (.frz od (.lst xs)) b = none := fun b n => by rw [upd_ne (neN b n)]; exact n
  have e1 : Env0 P w K mg base A outer s (upd H a (.frz od (.lst xs))) := ⟨e0.frames, e0.mod, fun b o q => ⟨(e0.bs b o q).1, eN b (e0.bs b o q).2⟩, e0.bsz, e0.funs, fun b q => eN b (e0.frf b q), hok', e0.bare⟩
  refine codeAny_mono (F.run A outer s _ args us vs _ E hr e1 hb r (h od)) fun r s' hq => ?_
  cases r with
  | error e => exact (show False from hq).elim
  | ok fl =>
    cases fl with
    | next => exact False.elim hq
    | brk => exact False.elim hq
    | cont => exact False.elim hq
    | ret u =>
      obtain ⟨v, H1, os, bare, un, hok1, rv, q⟩ := hq
      have h1 := un.frzs a od _ upd_same
      have ne2 : ∀ c u, H1 c = some u → (∀ o ys, u ≠ .frz o ys) → upd H1 a (.lst xs) c = some u := fun c u q n => by
        rw [upd_ne (fun z => by rw [z, h1] at q; cases q; exact n _ _ rfl)]
        exact q
      refine ⟨v, upd H1 a (.lst xs), os, bare, ⟨fun b o q n => un.keep b o q (eN b n), fun b o q n => un.slot b o q (eN b n), fun b o q n hx => ?_, un.there, fun b ys q => ?_, fun b o u q => ?_, fun b ps q => ?_⟩, fun b u q => ?_, rv, q⟩
      · rw [upd_ne (neN b n)]
        exact un.free b o q (eN b n) hx
      · exact ne2 _ _ (un.tups b ys (ne1 _ _ q (fun ys z => nomatch z))) (fun o ys z => nomatch z)
      · have hb : b ≠ a := fun z => by rw [z, ha] at q; cases q
        rw [upd_ne hb]
        exact un.frzs b o u (ne1 _ _ q (fun ys z => nomatch z))
      · obtain ⟨m, q'⟩ := un.tbls b ps (ne1 _ _ q (fun ys z => nomatch z))
        exact ⟨m, ne2 _ _ q' (fun o ys z => nomatch z)⟩
      · by_cases hb : b = a
        · rw [hb, upd_same] at q
          cases q
          rw [hb]
          obtain ⟨_, x1⟩ := hok1 a _ h1
          exact x1.stay (fun c v _ q => q) (fun c q => ne2 _ _ q (fun o ys z => nomatch z)) fun c ys q => ne2 _ _ q (fun o ys z => nomatch z)
        · rw [upd_ne hb] at q
          exact (hok1 b u q).stay (fun c v _ q => q) (fun c q => ne2 _ _ q (fun o ys z => nomatch z)) fun c ys q => ne2 _ _ q (fun o ys z => nomatch z)
/-- a def whose code object is known by its address -/
theorem fn_okC {P : Program} {w : World} {K : PySem.W.Frag} {mg : Str → Option Value} {base : Heap} {x qual : Str} {st : Stmt} {f : Addr} {oc kV doc pm cdv ct : Value} {od an : Option Addr} {osl : Array (Option Value)} {N ps : List Str} {k : Nat} {sp : Sp}
    (lk : K.lookup f = some ⟨oc, od, .func (PySem.W.fnOf x qual (defArgs st) (defBody st) (defScope st) .none kV doc pm an cdv ct), osl⟩) (hcd : PySem.W.codeIn K cdv qual = true) (S : FnScope N ps (defScope st)) (len : ∀ vs H Q E, sp vs H Q E → vs.length = ps.length)
    (hbody : ∀ (A : Around) (outer : List Env) (s : Shared) (H : Hp) (vs : List V) (Q : VK) (E : XK), Room k (A.deeper (envOfC qual (defScope st) s.heap.objs.size f cdv)) → sp vs H Q E →
      ∃ t, PSs (cxOf CX0 P w K mg base N qual (defScope st) f cdv A outer s H E).nox (defBody st) t ∧ t { nx := fun _ H' => Q .non H', rt := Q } (start N vs) H) :
    FnOk P w K mg base CX0 (k + 1) f (PySem.W.fnOf x qual (defArgs st) (defBody st) (defScope st) .none kV doc pm an cdv ct) ps sp := by
  refine fn_of lk hcd S len fun A outer s H vs Q E hr hsp => ?_
  obtain ⟨t, h, q⟩ := hbody A outer s H vs Q E hr hsp
  exact ⟨t, h.nox, q⟩
/-! ## the end of a law that makes lambdas -/
def lamT (q : Str) (P : Addr) : List (Addr × Str) := [(P, (q ++ ".<locals>.") ++ "<lambda>")]
def spT (K : PySem.W.Frag) (P : Addr) : Sp := fun vs H Q _ => ∃ (x : Addr) (ns : List Int), vs = [.ref x] ∧ ScrAt K H x (ns.map V.int) ∧ ns.length ≤ 63 ∧ H P = some (.tbl #[]) ∧ ∀ H', Q (.bl true) H'
theorem walk_own {l : PySem.W.OpenLaw} {k : Nat} {q : Program} {loose : List Str} {XP : (Str → Option Value) → Heap → Prop} {YP : World → Heap → Prop} {d : DefRec} {K : Params → PySem.W.Frag} {x : Str}
    (hn : l.most = some 63) (hdf : d.params.defaults = []) (hr : Room k callerA) (hrec : ((recsOf q).any fun e => e.name == d.name) = true) (hY : ∀ (w : World) (h : Heap), YP w h → (K w.params).In h)
    (F : ∀ (w : World) (mg : Str → Option Value) (fa : Addr) (h : Heap), (K w.params).In h → h.Ns mainGlobals mg → mg d.name = some (.ref fa) → OwnTab (K w.params) fa h →
      ∃ (fd : FuncData) (c P : Addr), h.get? P = some { cls := .none, data := .fields #[] } ∧ (K w.params).lookup P = none ∧ PySem.W.CodeHd h c P ∧ (∀ (s : Shared) (u : Value), BindsTo s fd ⟨[u], []⟩ [(x, u)]) ∧
        ∀ base : Heap, (K w.params).In base → base.Ns mainGlobals mg → TabB base mg c P → FnOk l.prog w (K w.params) mg base CX0 k fa fd [x] (spT (K w.params) P)) :
    PySem.W.WalkO q loose XP YP l.row.toRowW d [] (fun f vs => PySem.call f vs) := by
  refine walk_ofOwn (n := 63) (k := k) (x := x) (CX := fun _ => CX0) hn (by decide) hdf hr hrec hY (fun w mg fa h _ KX hns hmg own => ?_) fun _ _ _ _ _ z => z
  obtain ⟨fd, c, P, h1, h2, h3, h4, h5⟩ := F w mg fa h KX hns hmg own
  refine ⟨fd, [(c, P)], spLock (spT (K w.params) P), fun p hp => ?_, fun p hp => ?_, fun p hp => ?_, h4, fun H a ns hl _ hT hS => ?_, fun base b1 b2 b3 => fn_lock (h5 base b1 b2 (b3 (c, P) (List.mem_singleton.mpr rfl)))⟩
  · rw [List.mem_singleton.mp hp]; exact h1
  · rw [List.mem_singleton.mp hp]; exact h2
  · rw [List.mem_singleton.mp hp]; exact h3
  · have hP := hT (c, P) (List.mem_singleton.mpr rfl)
    rcases hS with (hS | ⟨o, hS⟩) | hS
    · refine .inr ⟨a, _, hS, fun od => ⟨a, ns, rfl, .inl ⟨od, upd_same⟩, hl, ?_, fun _ => rfl⟩⟩
      rw [upd_ne (fun z => by rw [show P = a from z, hS] at hP; cases hP)]
      exact hP
    · exact .inl ⟨a, ns, rfl, .inl ⟨o, hS⟩, hl, hP, fun _ => rfl⟩
    · exact .inl ⟨a, ns, rfl, .inr hS, hl, hP, fun _ => rfl⟩
end L2

namespace L2
open PySem PySem.Spec PyProof.Rows
/-! ## own errors whose __init__ calls the base's by the base's name -/
/-- what the base class B says of B.__init__ -/
structure BaseI (K : PySem.W.Frag) (B : Addr) : Prop where
  ga : PySem.W.specialIn K (.ref B) "__getattribute__" = some (some (.builtin "type.__getattribute__"))
  ty : PySem.W.typeIn K (.ref B) = some (.type "type")
  rd : PySem.W.readsIn K B (.type "type") = true
  fi : PySem.W.findCls K (.ref B) (.type "type") "__init__" = some (.val (.builtin "ValueError.__init__"))
section
variable {X : Cx} {o e : Expr} {es : List Expr} {to te : TE} {ta : TA} {f x : Str} {p p' p1 p2 pos : Pos} {B : Addr}
theorem pe_binit {pl : Sem Bool} (T : BaseI X.K B) (hg : Gl X x) (hm : X.mg x = some (.ref B)) (ha : PA X (e :: es) ta) (hdb : (x == ("__debug__" : Str)) = false := by decide)
    (hc : eval (.Call (.Attribute (.Name x p1) "__init__" p2) (e :: es) [] pos) X.env = (do
      let ov ← eval (.Name x p1) X.env
      standAt p2.atName
      let (f, first) ← holding [ov] (getMethod ov "__init__" pl)
      callWith pos f first (backTo pos (starEach (e :: es) X.env)) (backToKw pos (keywordEach [] X.env))) := by rfl)
    (he : starEach (e :: es) X.env = (false, eval e X.env) :: starEach es X.env := by rfl) (hpl : (backTo pos (starEach es X.env)).any (·.1) = false := by rfl) :
    PE X (.Call (.Attribute (.Name x p1) "__init__" p2) (e :: es) [] pos) (tVeI X.K ta) := by
  refine ⟨fun pins s σ H Q I h => ?_⟩
  refine PySem.W.methodCall_KW (ld_glob I hg hm ?_ hdb) hc
  obtain ⟨m, fr⟩ := I.fr
  refine PySem.W.method_of_cls fr I.ok.mod.kin T.ga (PySem.W.cls_val fr I.ok.mod.kin T.ty T.rd T.fi (by decide +kernel) ?_)
  show wpAny _ _ (callWith pos (Value.builtin "ValueError.__init__") [] (backTo pos (starEach (e :: es) X.env)) []) _ _ _
  refine callWith_method1 (thn (ha.run pos pins _ σ H _ (I.tok _) h) fun us s1 ⟨vs, H1, I1, r1, a, C, ws, ev, hl, T, ea, q⟩ => ?_) he hpl
  subst ev
  cases r1 with
  | @cons _ u0 _ ur ra rw' =>
    obtain rfl : u0 = Value.ref a := ra
    exact oinit_ok T I1 ea (by rw [← Paired.length rw', sizeLine_eq]; omega) fun s' J => ⟨.non, H1, J, rfl, q⟩
end
/-! ## a class made, a method called, where what is raised is wished for at the slots -/
section
variable {X : Cx} {CX : CXT} {k : Nat} {f C : Addr} {fd : FuncData} {ps : List Str} {sp : Sp} {E : St → XK} {x m : Str} {p pos apos : Pos} {e o : Expr} {es : List Expr} {ta : TE} {t : TA}
def tMakeS (C : Addr) (sp : Sp) (E : St → XK) (t : TA) : TE := fun σ H Q => t σ H fun vs H1 => ∀ x dx, H1 x = none → H1 dx = none → dx ≠ x →
  sp (.ref x :: vs) (upd (upd H1 dx (.own x)) x (.ins C dx [])) (fun v H2 => v = .non ∧ Q (.ref x) H2) (E σ)
theorem run_makeS {pins : List (Addr × Obj)} {σ : St} {H : Hp} {s : Shared} {Q : VK} {us : List Value} {vs : List V} (M : Mk X.K C f) (F : FnOk X.prog X.w X.K X.mg X.base CX k f fd ps sp) (hr : Room (k + 1) X.A) (hb : Binds X.K fd ps [])
    (hx : PassesAt CX X σ (E σ)) (I : Inv X pins σ H s) (r : Vals vs us)
    (h : ∀ x dx, H x = none → H dx = none → dx ≠ x → sp (.ref x :: vs) (upd (upd H dx (.own x)) x (.ins C dx [])) (fun v H2 => v = .non ∧ Q (.ref x) H2) (E σ)) : wpAny (model X.prog X.w) X.A (call (.ref C) us) (EP X pins σ Q) X.xe s := by
  let n := s.heap.objs.size
  have want := h (n + 1) n (I.hok.fresh (Nat.le_succ n)) (I.hok.fresh (Nat.le_refl n)) (Nat.ne_of_lt (Nat.lt_succ_self n))
  have J := Inv.made (C := C) I
  have rr : Vals (V.ref (n + 1) :: vs) (Value.ref (n + 1) :: us) := Paired.cons rfl r
  have len : (Value.ref (n + 1) :: us).length = ps.length := rr.length.symm.trans (F.len _ _ _ _ want)
  have bnd := hb _ (Value.ref (n + 1) :: us) J.kIn (by rw [List.append_nil]; exact len)
  rw [List.append_nil] at bnd
  have body := F.run _ X.stack _ _ ⟨Value.ref (n + 1) :: us, []⟩ (Value.ref (n + 1) :: us) _ _ (E σ) (hr.make C us []) (J.env0.make C us []) bnd rr want
  refine wpAny_call (make_map (f := f) I.kIn M.makes M.init (beq_iff_eq.mp M.fn) (codeAny_mono body fun res s' hq => ?_))
  match res, hq with
  | .error er, hq => exact hx pins _ _ er s' J hq
  | .ok (.ret u), hq =>
    obtain ⟨v, H', I3, rv, ev, q3⟩ := J.after hq
    subst ev
    exact ⟨rv, V.ref (n + 1), H', I3, rfl, q3⟩
  | .ok .next, hq => exact hq.elim
  | .ok .brk, hq => exact hq.elim
  | .ok .cont, hq => exact hq.elim
theorem pe_makeS (M : Mk X.K C f) (F : FnOk X.prog X.w X.K X.mg X.base CX k f fd ps sp) (hr : Room (k + 1) X.A) (hg : Gl X x) (hm : X.mg x = some (.ref C)) (hb : Binds X.K fd ps []) (hx : ∀ σ, PassesAt CX X σ (E σ))
    (ha : PA X (e :: es) t) (hdb : (x == ("__debug__" : Str)) = false := by decide) (he : starEach (e :: es) X.env = (false, eval e X.env) :: starEach es X.env := by rfl) (hpl : (backTo pos (starEach es X.env)).any (·.1) = false := by rfl) :
    PE X (.Call (.Name x p) (e :: es) [] pos) (tMakeS C sp E t) :=
  ⟨fun pins s σ H Q I h => wpAny_Call_Name_kw (ld_glob I hg hm
    (PySem.W.callWith_K (h₀ := X.base) I.ok.mod.kin M.kp (thn (ha.run pos pins s σ H _ I h) fun us s1 ⟨vs, H1, I1, r, q⟩ => ⟨I1.kIn, run_makeS M F hr hb (hx σ) I1 r q⟩) he hpl) hdb)⟩
/-- o.m(e, ..), what is raised wished for at the slots -/
def tMethT (C : Addr) (m : Str) (sp : Sp) (E : St → XK) (ta : TE) (t : TA) : TE := fun σ H Q => ta σ H fun x H1 => ∃ a dx fs, x = .ref a ∧ H1 a = some (.ins C dx fs) ∧ fs.lookup m = none ∧ t σ H1 fun vs H2 => sp (.ref a :: vs) H2 Q (E σ)
theorem pe_methT {pl : Sem Bool} (ho : PE X o ta) (c : Cls X.K C) (hm : Meth X.K C m f) (F : FnOk X.prog X.w X.K X.mg X.base CX k f fd ps sp) (hr : Room k X.A) (hb : Binds X.K fd ps []) (hx : ∀ σ, PassesAt CX X σ (E σ)) (ha : PA X (e :: es) t)
    (hst : starEach (e :: es) X.env = (false, eval e X.env) :: starEach es X.env := by rfl) (hpl : (backTo pos (starEach es X.env)).any (·.1) = false := by rfl)
    (ht : eval (.Call (.Attribute o m apos) (e :: es) [] pos) X.env = (eval o X.env >>= fun ov => standAt apos.atName >>= fun _ => holding [ov] (getMethod ov m pl) >>= fun ff =>
      callWith pos ff.1 ff.2 (backTo pos (starEach (e :: es) X.env)) (backToKw pos (keywordEach [] X.env))) := by rfl) :
    PE X (.Call (.Attribute o m apos) (e :: es) [] pos) (tMethT C m sp E ta t) := by
  refine ⟨fun pins s σ H Q I h => ?_⟩
  refine PySem.W.methodCall_KW (pl := pl) (thn (ho.run pins s σ H _ I h) fun u s1 hh => ?_) ht
  obtain ⟨x, H1, I1, rx, a, dx, fs, ex, ea, l, q⟩ := hh
  subst ex
  cases rx
  refine getmeth_ok I1 ea c hm l (PySem.W.callWith_K (first := [.ref a]) (h₀ := X.base) I.ok.mod.kin hm.kp (thn (ha.run pos pins s1 σ H1 _ I1 q) fun us s2 ⟨vs, H2, I2, r, q2⟩ => ⟨I2.kIn, ?_⟩) hst hpl)
  exact run_fnS (us := .ref a :: us) (vs := .ref a :: vs) F hr hb (hx σ) I2 (.cons rfl r) q2
end
/-! ## an error is made and raised: its dict d holds its one field -/
/-- X.__init__(self, v): the base's __init__, then self.f = v -/
def spErr (C : Addr) (f : Str) (ok : V → Prop) : Sp := fun vs H Q _ => ∃ (a : Addr) (v : V), vs = [.ref a, v] ∧ ok v ∧ H a = some (exo a C none) ∧
  ∀ dx, H dx = none → dx ≠ a → Q .non (upd (upd H dx (exd dx [(f, v)])) a (exo a C (some dx)))
def okInt (v : V) : Prop := ∃ i : Int, v = .int i ∧ i.natAbs.log2 < 1920
theorem err_make {C : Addr} {f : Str} {ok : V → Prop} {v : V} {H : Hp} {W : Value → Option Addr → Hp → Prop} {E : XK} (hv : ok v) (k : ∀ d, H d = none → W (.ref C) (some d) (upd H d (.xd [(f, v)]))) :
    [v].length ≤ 1000 ∧ ∀ a, H a = none → spErr C f ok (.ref a :: ([v] ++ [])) (upd H a (exo a C none))
      (fun u H2 => u = .non ∧ ∃ (d : Addr) (fs : List (Str × V)), H2 a = some (exo a C (some d)) ∧ H2 d = some (exd d fs) ∧ H d = none ∧ W (.ref C) (some d) (upd (del H2 a) d (.xd fs))) E := by
  refine ⟨by show 1 ≤ 1000; decide, fun a na => ⟨a, v, rfl, hv, upd_same, fun dx ndx ne => ⟨rfl, dx, [(f, v)], upd_same, ?_, ?_, ?_⟩⟩⟩
  · rw [upd_ne ne, upd_same]
  · rw [upd_ne ne] at ndx
    exact ndx
  · rw [upd_ne ne] at ndx
    have e : upd (del (upd (upd (upd H a (exo a C none)) dx (exd dx [(f, v)])) a (exo a C (some dx))) a) dx (.xd [(f, v)]) = upd H dx (.xd [(f, v)]) := by
      funext b
      by_cases hb : b = dx
      · subst hb
        rw [upd_same, upd_same]
      · rw [upd_ne hb, upd_ne hb]
        by_cases ha : b = a
        · subst ha
          rw [del_same, na]
        · rw [del_ne ha, upd_ne ha, upd_ne hb, upd_ne ha]
    rw [e]
    exact k dx ndx
end L2
namespace PySem.W
open PySem PySem.Spec PySem.Calls PyProof.Rows
section
variable {prog : Program} {w : World} {A : Around} {E : Value → Shared → Prop} {s : Shared} {K : Frag} {x D : Addr} {ox : Obj} {od : Option Obj}
/-- what the class of an error says of __class__ and of its own getter -/
structure ErrK (K : Frag) (D : Addr) : Prop where
  ga : findIn K (.ref D) "__getattribute__" = some (some (.builtin "BaseException.__getattribute__"))
  gg : findIn K (.ref D) "__getattr__" = some none
  sb : subIn K (.ref D) (.type "BaseException") = some true
  hd : hasDictIn K D = true
  cl : findIn K (.ref D) "__class__" = some (some (.builtin "object.__class__"))
  gt : specialIn K (.builtin "object.__class__") "__get__" = some (some (.builtin "getset_descriptor.__get__"))
  tk : takesIn K (.builtin "object.__class__") = some true
  mr : mroIn K D (.type "object") = some true
/-- e.__class__ of an error, with a dict of its own or without -/
theorem err_cls {Q : Option Value → Shared → Prop} (Z : ErrK K D) (X : K.In s.heap) (I : InstAt s.heap x ox D od) (h : Q (some (.ref D)) { s with toks := s.toks + 1 }) : wpAny (model prog w) A (getAttr? (.ref x) "__class__") Q E s := by
  have found : findObj K D od "__class__" = some (.bind (.builtin "getset_descriptor.__get__") (.builtin "object.__class__")) := by
    obtain ⟨cd, hc, _⟩ := any_some Z.hd
    unfold findObj
    rw [hc, Option.bind_some, Z.cl, Option.bind_some]
    simp [Z.gt, Z.tk]
  rcases s with ⟨hp, gs, dr, tk, os⟩
  have la := I.type (M := model prog w); have lb := looks_findIn (M := model prog w) X Z.ga; have lc := looks_findIn (M := model prog w) X Z.gg; have ld := looks_find (M := model prog w) X I found
  have isB : Looks (model prog w) hp (isInstance (.ref x) (.type "BaseException")) true := la.andThen (looks_subIn X Z.sb)
  have n2 : (Value.builtin "BaseException.__getattribute__" == Value.builtin "object.__getattribute__") = false := by decide +kernel
  have n1 : (onTheHeap (Value.ref D) && Value.builtin "BaseException.__getattribute__" == Value.builtin "object.__getattribute__") = false := by rw [n2, Bool.and_false]
  unfold getAttr? getAttrBy? getAttrBy
  refine wpAny_bind (wpAny_mkText (wpAny_bind (wpAny_attempt (wpAny_holding (wpAny_bind (la.at (wpAny_bind (lb.at (?_ : wpAny _ _ (if (onTheHeap (Value.ref D) && Value.builtin "BaseException.__getattribute__" == Value.builtin "object.__getattribute__") = true then _ else _) _ _ _)))))))))
  rw [n1, if_neg Bool.false_ne_true]
  unfold getAttrByItsOwn hookBefore
  refine wpAny_bind (?_ : wpAny _ _ (if onTheHeap (Value.ref D) = true then _ else _) _ _ _)
  have oh : onTheHeap (Value.ref D) = true := rfl
  rw [if_pos oh]
  refine lc.at (wpAny_bind (wpAny_attempt (wpAny_holding ?_)))
  unfold callGetattribute
  rw [show (false && onTheHeap (Value.builtin "BaseException.__getattribute__")) = false from rfl, if_neg Bool.false_ne_true]
  unfold boundAndCalled
  rw [PySem.F.excAttr_ValueError.ga.bind (.ref x)]
  refine wpAny_bind (wpAny_pure (?_ : wpAny _ _ (call (.builtin "BaseException.__getattribute__") [.ref x, .str "__class__" tk]) _ _ _))
  refine wpAny_call (codeAny_call_builtin PySem.F.excAttr_ValueError.ga.plain PySem.F.entry_bexc_ga (@check_slot (model prog w) _ _ ⟨hp, gs, dr, tk + 1, os⟩ "BaseException.__getattribute__" "BaseException" "__getattribute__" (.ref x) [.str "__class__" tk] [] _ (by decide +kernel) (by decide +kernel) isB (PySem.F.args_bexc_ga (.ref x) (.str "__class__" tk)) ?_))
  unfold Builtin.«object.__getattribute__»
  refine wpAny_bind (wpAny_of_eq (a := ((Value.ref x : Value), [Value.str "__class__" tk])) (by first | rfl | (simp only [slotArgs]; rfl)) (wpAny_bind (wpAny_pure (wpAny_bind (la.at (wpAny_bind (ld.at ?_)))))))
  refine (?_ : wpAny _ _ (holding [Value.builtin "object.__class__"] (call (.builtin "getset_descriptor.__get__") [.builtin "object.__class__", .ref x, .ref D]) >>= ret) _ _ _)
  refine wpAny_bind (wpAny_holding (wpAny_call (class_get (s := ⟨hp, gs, dr, tk + 1, os⟩) (ox := ox) (od := od) X I Z.mr (wpAny_pure (?_ : wpAny _ _ (handedOut (.ref D)) _ _ _)))))
  rw [handedOut_of (v := .ref D) rfl]
  first
    | exact wpAny_pure (wpAny_pure h)
    | exact wpAny_pure h
    | exact wpAny_pure (wpAny_bind (wpAny_pure (wpAny_pure h)))
theorem err_kit (Z : ErrK K D) : KitX K (.ref x) (.ref D) (fun h => ∃ ox od, InstAt h x ox D od) := by
  have own : ∃ c' d' cd' sl', K.lookup D = some ⟨c', d', .cls cd', sl'⟩ := by
    obtain ⟨cd, hc, _⟩ := any_some Z.hd
    unfold clsIn at hc
    split at hc
    · rename_i c' d' cd' sl' ho
      exact ⟨_, _, _, _, ho⟩
    · cases hc
  obtain ⟨c', d', cd', sl', ho⟩ := own
  refine ⟨fun _ _ _ ⟨_, _, I⟩ => I.type, fun _ _ X _ A' Q' E' s' k q => ?_, fun h tp dd its n sl X htp => Bool.eq_false_iff.mpr fun q => ?_, fun X ⟨_, _, I⟩ k => err_cls Z X I k⟩
  · unfold isType loadHead
    exact wpAny_bind (wpAny_loadPart (k _ _ (X _ _ ho)) (wpAny_pure q))
  · have e : D = tp := Value.ref.inj (beq_iff_eq.mp q)
    subst e
    have z := (X _ _ ho).symm.trans htp
    cases z
end
end PySem.W
namespace L2
open PySem PySem.Spec PyProof.Rows
/-- isinstance(e, c), e the error that the suite holds, with a dict of its own at d -/
def rIsD (K : PySem.W.Frag) (cls : Value) (d : Option Addr) (a : Addr) : List V → Hp → VK → Prop := fun xs H Q => ∃ (D dd : Addr) (fs : List (Str × V)) (c : V) (cv : Value) (b : Bool), cls = .ref D ∧ d = some dd ∧ H dd = some (.xd fs) ∧ PySem.W.ErrK K D ∧ xs = [.ref a, c] ∧ ClsV c cv ∧ PySem.W.kitOne K (.ref D) cv = some b ∧ Q (.bl b) H
theorem call_isD {X : Cx} {a : Addr} {oe : Obj} {cls : Value} {d : Option Addr} {pn : List (Addr × Obj)} (hz : Zc cls d oe) (hf : ∃ vs, oe.data = .fields vs) : CallR (X.suite a ((a, oe) :: pn)) (.builtin "isinstance") (rIsD X.K cls d a) := by
  intro pins s σ H xs us Q I r h
  obtain ⟨D, dd, fs, c, cv, b, rfl, rfl, hdd, Z, rfl, hc, e, q⟩ := h
  cases r with
  | cons rx rr =>
    cases rr with
    | cons rt rr =>
      cases rr
      cases rx
      obtain rfl := hc.eq rt
      obtain ⟨hget, _⟩ := I.pin (a, oe) (List.mem_append.mpr (.inl List.mem_cons_self))
      obtain ⟨vs, hv⟩ := hf
      have hx : ObjOk X.prog X.w H s.heap dd (.xd fs) := I.hok dd _ hdd
      obtain ⟨mA, hns, _⟩ := hx
      obtain ⟨od, ho, _⟩ := lookIn_ns hns
      have J : PySem.W.InstAt s.heap a oe D (some od) := ⟨hget, hz.1, by unfold PySem.W.notCls; rw [hv] <;> rfl, by rw [hz.2]; exact ho⟩
      exact PySem.W.kia_one (PySem.W.err_kit Z) I.kIn ⟨oe, some od, J⟩ e (fun z => nomatch z) fun tk => ⟨.bl b, H, I.kept (t' := tk) fun _ _ z => z, rfl, q⟩
end L2

namespace L2
open PySem PySem.Spec PyProof.Rows
/-! ## how long the words of an error are -/
theorem len_nat {n k : Nat} (hk : 0 < k) (h : n < 10 ^ k) : (Nat.repr n).toList.length ≤ k := by
  unfold Nat.repr
  rw [String.toList_ofList]
  exact (Nat.length_toDigits_le_iff (by decide) hk).mpr h
theorem len_toString {i : Int} {k : Nat} (hk : 0 < k) (h : i.natAbs < 10 ^ k) : (toString i).toList.length ≤ k + 1 := by
  show (Int.repr i).toList.length ≤ k + 1
  unfold Int.repr
  cases i with
  | ofNat m => exact Nat.le_succ_of_le (len_nat hk h)
  | negSucc m =>
    show ("-" ++ Nat.repr (m + 1)).toList.length ≤ k + 1
    rw [String.toList_append, List.length_append]
    have := len_nat hk (show m + 1 < 10 ^ k from h)
    show 1 + _ ≤ _
    omega
theorem len_app (a b : PySem.Str) : (a ++ b).length = a.length + b.length := by
  have e1 : (a ++ b).cps.toList.length = (a ++ b).length := Array.length_toList
  have e2 : a.cps.toList.length = a.length := Array.length_toList
  have e3 : b.cps.toList.length = b.length := Array.length_toList
  rw [PySem.W.KT.app_list, List.length_append, e2, e3] at e1
  exact e1.symm
/-- a number that an error may carry -/
def Bd (i : Int) : Prop := i.natAbs < 2 ^ 400
theorem Bd.log {i : Int} (h : Bd i) : i.natAbs.log2 < 1920 := by
  by_cases h0 : i.natAbs = 0
  · rw [h0]; decide
  · exact (Nat.log2_lt h0).mpr (Nat.lt_of_lt_of_le h (Nat.pow_le_pow_right (by decide) (by decide)))
theorem Bd.len {i : Int} (h : Bd i) : (PySem.Str.ofString (toString i)).length ≤ 200 := by
  rw [PySem.ofString_length]
  exact Nat.le_trans (len_toString (k := 150) (by decide) (Nat.lt_of_lt_of_le h (by decide +kernel))) (by decide)
def okB (v : V) : Prop := ∃ i : Int, v = .int i ∧ Bd i
/-! ## a pupil made of questions of which some may be none -/
def firstBad (l : List Int) : Option Int := l.find? fun k => !decide (0 ≤ k ∧ k < 48)
theorem first_of : ∀ {l : List Int} {i : Nat} {z : Int}, l[i]? = some z → (∀ y ∈ l.take i, 0 ≤ y ∧ y < 48) → ¬ (0 ≤ z ∧ z < 48) → firstBad l = some z
  | [], i, z, h, _, _ => by simp at h
  | y :: r, 0, z, h, _, hz => by
    have e : y = z := Option.some.inj h
    subst e
    unfold firstBad
    rw [List.find?_cons, decide_eq_false hz]
    rfl
  | y :: r, i + 1, z, h, hp, hz => by
    have hy := hp y (by rw [List.take_succ_cons]; exact List.mem_cons_self)
    have := first_of (l := r) (i := i) (z := z) h (fun u hu => hp u (by rw [List.take_succ_cons]; exact List.mem_cons_of_mem _ hu)) hz
    unfold firstBad at this ⊢
    rw [List.find?_cons, decide_eq_true hy]
    exact this
theorem first_none {l : List Int} (h : Qn l) : firstBad l = none := by
  unfold firstBad
  rw [List.find?_eq_none]
  intro x hx
  rw [decide_eq_true (h x hx)]
  decide
def spInitX (K : PySem.W.Frag) (C CB : Addr) : Sp := fun vs H Q E => ∃ (x dx q : Addr) (l : List Int), vs = [.ref x, .ref q] ∧ H x = some (.ins C dx []) ∧ SqA K H q (l.map V.int) ∧ l.length ≤ 500 ∧ (∀ z ∈ l, Bd z) ∧
  (Qn l → ∀ H' t, H' x = some (.ins C dx [("rights", .ref t)]) → H' t = some (.tup ((norm l).map V.int)) → (∀ b o, b ≠ x → H b = some o → H' b = some o) → Q .non H') ∧
  ∀ z, firstBad l = some z → ∀ d H', H d = none → Same H H' → H' d = some (.xd [("number", .int z)]) → E (.ref CB) (some d) H'
theorem pupX_make {K : PySem.W.Frag} {C CB q : Addr} {H : Hp} {l : List Int} {R : Addr → Hp → Prop} {E : XK} (hq : SqA K H q (l.map V.int)) (hl : l.length ≤ 500) (hb : ∀ z ∈ l, Bd z) (k : Qn l → ∀ x H', H x = none → Same H H' → PupAt C H' x l → R x H')
    (kx : ∀ z, firstBad l = some z → ∀ d H', H d = none → Same H H' → H' d = some (.xd [("number", .int z)]) → E (.ref CB) (some d) H') :
    ∀ x dx, H x = none → H dx = none → dx ≠ x → spInitX K C CB [.ref x, .ref q] (upd (upd H dx (.own x)) x (.ins C dx [])) (fun v H2 => v = .non ∧ R x H2) E := by
  intro x dx nx ndx ne
  have s0 : Same H (upd (upd H dx (.own x)) x (.ins C dx [])) := (same_upd ndx).mut nx
  refine ⟨x, dx, q, l, rfl, upd_same, hq.same s0, hl, hb, fun hn H' t h1 h2 h3 => ⟨rfl, k hn x H' nx (fun b o e => ?_) ⟨dx, t, h1, h2⟩⟩, fun z hz d H' nd e h => kx z hz d H' (s0.free nd) (s0.trans e) h⟩
  exact h3 b o (ne_of_none e nx) (s0 b o e)
/-- where all are questions nothing is raised -/
theorem pupX_good {K : PySem.W.Frag} {C CB q : Addr} {H : Hp} {l : List Int} {R : Addr → Hp → Prop} {E : XK} (hq : SqA K H q (l.map V.int)) (hl : l.length ≤ 500) (hn : Qn l) (k : ∀ x H', H x = none → Same H H' → PupAt C H' x l → R x H') :
    ∀ x dx, H x = none → H dx = none → dx ≠ x → spInitX K C CB [.ref x, .ref q] (upd (upd H dx (.own x)) x (.ins C dx [])) (fun v H2 => v = .non ∧ R x H2) E :=
  pupX_make hq hl (fun z hz => by have := hn z hz; unfold Bd; have : z.natAbs < 48 := by omega
                                  exact Nat.lt_trans this (by decide +kernel)) (fun _ => k) fun z hz => by rw [first_none hn] at hz; cases hz
def spAddedX (C CB : Addr) : Sp := fun vs H Q E => ∃ (a : Addr) (p : List Int) (z : Int), vs = [.ref a, .int z] ∧ PupAt C H a p ∧ Bd z ∧
  ((0 ≤ z ∧ z < 48) → ∀ x H', H x = none → Same H H' → PupAt C H' x (p ++ [z]) → Q (.ref x) H') ∧
  (¬ (0 ≤ z ∧ z < 48) → ∀ d H', H d = none → Same H H' → H' d = some (.xd [("number", .int z)]) → E (.ref CB) (some d) H')
theorem Bd.small {z : Int} (h0 : -1000 ≤ z) (h1 : z < 1000) : Bd z := by
  unfold Bd
  have : z.natAbs < 1001 := by omega
  exact Nat.lt_trans this (by decide +kernel)
theorem kit_sub {K : PySem.W.Frag} {C B : Addr} (h : PySem.W.subIn K (.ref C) (.ref B) = some true) (h2 : PySem.W.isClsIn K B = true) (h3 : PySem.W.typeIn K (.ref B) = some (.type "type")) : PySem.W.kitOne K (.ref C) (.ref B) = some true := by
  unfold PySem.W.kitOne
  split
  · rfl
  · show (if ((PySem.W.clsIn K B).isSome && PySem.W.typeIn K (.ref B) == some (.type "type")) = true then PySem.W.subIn K (.ref C) (.ref B) else none) = some true
    rw [show (PySem.W.clsIn K B).isSome = true from h2, h3, h]
    rfl
end L2

namespace L2
open PySem PySem.Spec PyProof.Rows
/-! ## an object of an own class made by C(e, .., k=v) -/
section
variable {X : Cx} {CX : CXT} {k n : Nat} {f C : Addr} {fd : FuncData} {ps ks : List Str} {sp : Sp} {E : St → XK} {x : Str} {p pos : Pos} {e : Expr} {es : List Expr} {kws : List Keyword} {t tk : TA} {g : List Value → List Value → List Value} {gV : List V → List V → List V}
def tMakeN (C : Addr) (n m : Nat) (sp : Sp) (gV : List V → List V → List V) (E : St → XK) (t tk : TA) : TE := fun σ H Q => t σ H fun vs H1 => tk σ H1 fun zs H2 => vs.length + 1 = n ∧ zs.length = m ∧ ∀ x dx, H2 x = none → H2 dx = none → dx ≠ x →
  sp (gV (.ref x :: vs) zs) (upd (upd H2 dx (.own x)) x (.ins C dx [])) (fun v H3 => v = .non ∧ Q (.ref x) H3) (E σ)
theorem run_makeN {pins : List (Addr × Obj)} {σ : St} {H : Hp} {s : Shared} {Q : VK} {us ws : List Value} {vs zs : List V} (M : Mk X.K C f) (F : FnOk X.prog X.w X.K X.mg X.base CX k f fd ps sp) (hr : Room (k + 1) X.A) (hb : KBn X.K fd ps n ks g gV)
    (hx : PassesAt CX X σ (E σ)) (I : Inv X pins σ H s) (r : Vals vs us) (rz : Vals zs ws) (hn : vs.length + 1 = n) (hz : zs.length = ks.length)
    (h : ∀ x dx, H x = none → H dx = none → dx ≠ x → sp (gV (.ref x :: vs) zs) (upd (upd H dx (.own x)) x (.ins C dx [])) (fun v H2 => v = .non ∧ Q (.ref x) H2) (E σ)) : wpAny (model X.prog X.w) X.A (call (.ref C) us (ks.zip ws)) (EP X pins σ Q) X.xe s := by
  let n0 := s.heap.objs.size
  have want := h (n0 + 1) n0 (I.hok.fresh (Nat.le_succ n0)) (I.hok.fresh (Nat.le_refl n0)) (Nat.ne_of_lt (Nat.lt_succ_self n0))
  have J := Inv.made (C := C) I
  have rr : Vals (V.ref (n0 + 1) :: vs) (Value.ref (n0 + 1) :: us) := Paired.cons rfl r
  have bnd := hb.to _ (Value.ref (n0 + 1) :: us) ws J.kIn (by rw [← rr.length]; exact hn) (by rw [← rz.length]; exact hz)
  have body := F.run _ X.stack _ _ ⟨Value.ref (n0 + 1) :: us, ks.zip ws⟩ (g (Value.ref (n0 + 1) :: us) ws) _ _ (E σ) (hr.make C us (ks.zip ws)) (J.env0.make C us (ks.zip ws)) bnd (hb.rel rr rz) want
  refine wpAny_call (make_map (f := f) I.kIn M.makes M.init (beq_iff_eq.mp M.fn) (codeAny_mono body fun res s' hq => ?_))
  match res, hq with
  | .error er, hq => exact hx pins _ _ er s' J hq
  | .ok (.ret u), hq =>
    obtain ⟨v, H', I3, rv, ev, q3⟩ := J.after hq
    subst ev
    exact ⟨rv, V.ref (n0 + 1), H', I3, rfl, q3⟩
  | .ok .next, hq => exact hq.elim
  | .ok .brk, hq => exact hq.elim
  | .ok .cont, hq => exact hq.elim
theorem pe_makeN (M : Mk X.K C f) (F : FnOk X.prog X.w X.K X.mg X.base CX k f fd ps sp) (hr : Room (k + 1) X.A) (hg : Gl X x) (hm : X.mg x = some (.ref C)) (hb : KBn X.K fd ps n ks g gV) (hx : ∀ σ, PassesAt CX X σ (E σ))
    (ha : PA X (e :: es) t) (hk : PK X kws tk) (h1 : ((backToKw pos (keywordEach kws X.env)).all fun x => x.fst.isSome) = true := by rfl) (h2 : List.filterMap (fun x => x.fst) (backToKw pos (keywordEach kws X.env)) = ks := by rfl)
    (hdb : (x == ("__debug__" : Str)) = false := by decide) (he : starEach (e :: es) X.env = (false, eval e X.env) :: starEach es X.env := by rfl)
    (hpl : ((((backTo pos (starEach (e :: es) X.env)).any fun x => x.fst) || (backToKw pos (keywordEach kws X.env)).any fun x => x.fst.isNone) = false) := by rfl) :
    PE X (.Call (.Name x p) (e :: es) kws pos) (tMakeN C n ks.length sp gV E t tk) := by
  refine ⟨fun pins s σ H Q I h => wpAny_Call_Name_kw (ld_glob I hg hm ?_ hdb)⟩
  refine PySem.W.callWith_KW (h₀ := X.base) I.ok.mod.kin M.kp h1 (thn (ha.run pos pins s σ H _ I h) fun us s1 hh => ?_) hpl he
  obtain ⟨vs, H1, I1, r, hq⟩ := hh
  refine thn (hk.run pos pins s1 σ H1 _ I1 hq) fun ws s2 hh => ?_
  obtain ⟨zs, H2, I2, rz, hn, hz, q⟩ := hh
  refine ⟨I2.kIn, ?_⟩
  rw [h2]
  exact run_makeN M F hr hb (hx σ) I2 r rz hn hz q
end
end L2

namespace PySem
open PySem PySem.Spec PyProof.Rows L2
theorem wp_ite {α : Type} {M : Model} {A : Around} {E : Value → Shared → Prop} {s : Shared} {Q : α → Shared → Prop} {c : Bool} {t u : Sem α} (h1 : wpAny M A t Q E s) (h2 : wpAny M A u Q E s) : wpAny M A (if c = true then t else u) Q E s := by
  cases c
  · rw [if_neg (by decide)]; exact h2
  · rw [if_pos rfl]; exact h1
theorem enumT_new (l : Addr) (items : Array Value) :
  Meets (Builtin.«enumerate.__new__» ⟨[.type "enumerate", .ref l], []⟩) fun A R s =>
    s.heap.IsTuple l items ∧ R (.ok (.ret (.ref (s.heap.push { cls := .type "tuple_iterator", data := .fields #[.ref l, .int 0 0] }).objs.size)))
      { s with heap := (s.heap.push { cls := .type "tuple_iterator", data := .fields #[.ref l, .int 0 0] }).push { cls := .type "enumerate", data := .fields #[.none, .bool false, .ref s.heap.objs.size, rawInt 0, .none, .none] } } := by
  intro prog w A R s ⟨ht, hR⟩
  have rest : ∀ b : Bool, wpAny (model prog w) A.in1 (pyIter (.ref l) >>= fun it => Builtin.SmallTypes.newRecord (.type "enumerate") (Builtin.SmallTypes.ownedTupleFields ++ [it, rawInt 0, .none, .none]) >>= fun r => ret r)
      (fun fin s' => match fin with
        | Fin.done f => R (.ok f) s'
        | Fin.again c' => Code.quiet c' = true ∧ codeAny (model prog w) A c' R s') (fun e s' => R (.error e) s') s := fun _ => by
    refine wpAny_bind (wpAny_pyIter_tuple ht (wpAny_bind ?_))
    unfold Builtin.SmallTypes.newRecord newObj
    show wpAny _ _ (if _ then _ else _) _ _ _
    rw [if_neg (by show ¬ (6 > sizeLine + 2); decide)]
    unfold newObjAsIs
    refine wpAny_bind (wpAny_alloc (wpAny_pure ?_))
    exact wpAny_pure hR
  unfold Builtin.«enumerate.__new__» Builtin.SmallTypes.newClass
  refine wpAny_bind (wpAny_of_eq (a := (Value.type "enumerate", [Value.ref l])) ?_ ?_)
  · show (isSubtype (.type "enumerate") (.type "enumerate") >>= fun b => _) = _
    rw [sub_enumerate]
    rfl
  · show wpAny _ _ (if (Value.type "enumerate" == Value.type "enumerate") = true then _ else _) _ _ _
    rw [if_pos (beq_self_eq_true _)]
    unfold Builtin.SmallTypes.calledThroughType
    refine wpAny_bind (wpAny_bind (wpAny_stack fun st _ _ _ => wpAny_pure ?_))
    refine wp_ite ?_ ?_
    · refine wpAny_bind (wpAny_of_eq (a := (Value.ref l, none)) rfl ?_)
      exact rest true
    · refine wpAny_bind (wpAny_of_eq (a := (Value.ref l, none)) rfl ?_)
      exact rest true
theorem drawsOfTuple {prog : Program} {w : World} {A : Around} (hA : A.handled = none) (it l : Addr) (ne : l ≠ it) (items : Array Value) :
    PySem.Draws prog w A it [it, l] items.size (fun i v => items[i]? = some v) fun i h => h.IsTupleIter it l i ∧ h.IsTuple l items := by
  refine ⟨fun i h ⟨⟨o, ho, _⟩, _⟩ => ⟨o, ho⟩, fun i h h' ⟨a, b⟩ k => ⟨a.at (k it (by simp)), b.at (k l (by simp))⟩, fun i s Q E hi ⟨a, b⟩ k => ?_, fun s Q E ⟨a, b⟩ k => ?_⟩
  · refine RZ.nextOf_tuple_item a b (Array.getElem?_eq_getElem hi) fun h' a' sb => ?_
    exact k _ h' s.toks (Array.getElem?_eq_getElem hi) ⟨a', b.at fun o ho => by rw [sb.2 l ne]; exact ho⟩ sb
  · exact RZ.nextOf_tuple_end hA a b (by simp) fun h' e x y => k h' e x y
theorem call_enumT {prog : Program} {w : World} {A : Around} {E : Value → Shared → Prop} {s : Shared} {l : Addr} {items : Array Value} {Q : Value → Shared → Prop} (ht : s.heap.IsTuple l items)
    (h : ∀ h' : Heap, IsEnum h' (s.heap.objs.size + 1) s.heap.objs.size 0 .none → h'.IsTupleIter s.heap.objs.size l 0 → h'.objs.size = s.heap.objs.size + 2 → (∀ b o, s.heap.get? b = some o → h'.get? b = some o) → Q (.ref (s.heap.objs.size + 1)) { s with heap := h' }) :
    wpAny (model prog w) A (call (.type "enumerate") [.ref l]) Q E s := by
  have e1 : (s.heap.push { cls := .type "tuple_iterator", data := .fields #[.ref l, .int 0 0] }).objs.size = s.heap.objs.size + 1 := by rw [Heap.size_push]
  have keep : ∀ b o, s.heap.get? b = some o → ((s.heap.push { cls := .type "tuple_iterator", data := .fields #[.ref l, .int 0 0] }).push { cls := .type "enumerate", data := .fields #[.none, .bool false, .ref s.heap.objs.size, rawInt 0, .none, .none] }).get? b = some o := fun b o e => Heap.get?_push_of_some _ (Heap.get?_push_of_some _ e)
  have g1 : ((s.heap.push { cls := .type "tuple_iterator", data := .fields #[.ref l, .int 0 0] }).push { cls := .type "enumerate", data := .fields #[.none, .bool false, .ref s.heap.objs.size, rawInt 0, .none, .none] }).get? (s.heap.objs.size + 1) = some { cls := .type "enumerate", data := .fields #[.none, .bool false, .ref s.heap.objs.size, rawInt 0, .none, .none] } := by heap_get
  have g0 : ((s.heap.push { cls := .type "tuple_iterator", data := .fields #[.ref l, .int 0 0] }).push { cls := .type "enumerate", data := .fields #[.none, .bool false, .ref s.heap.objs.size, rawInt 0, .none, .none] }).get? s.heap.objs.size = some { cls := .type "tuple_iterator", data := .fields #[.ref l, .int 0 0] } := by heap_get
  refine callType_new F.called_enumerate (by decide) (F.typeCall_enumerate_1 _) (F.newCall_enumerate_1 _) ?_ F.entry_enumerate_new (enumT_new l items) ?_
  · intro obj
    exact F.args_object_init_1 obj
  · refine ⟨ht, ?_⟩
    show _ ∧ _
    refine ⟨?_, ?_⟩
    · rw [e1]
      exact ⟨_, g1, rfl⟩
    · rw [e1]
      exact h _ g1 ⟨_, g0, rfl, rfl⟩ (by rw [Heap.size_push, e1]) keep
end PySem
namespace L2
open PySem PySem.Spec PyProof.Rows
/-- enumerate over a tuple -/
def IteT (K : PySem.W.Frag) (a : Addr) : It :=
  ⟨fun i H => ∃ xs x, SqT K H a xs ∧ xs[i]? = some x, fun i H v H' => ∃ T x, v = .ref T ∧ H T = none ∧ H' = upd H T (.tup [.int (i : Nat), x]) ∧ ∀ xs, SqT K H a xs → xs[i]? = some x, fun i H => ∃ xs, SqT K H a xs ∧ xs.length = i⟩
def iEnumT (K : PySem.W.Frag) (ta : TA) : TI := fun σ H R => ta σ H fun vs H1 => ∃ a xs, vs = [.ref a] ∧ SqT K H1 a xs ∧ R (IteT K a) H1
theorem turn_enumT {P : Program} {w : World} {K : PySem.W.Frag} {elts : List Expr} {kk : Nat} {tpos : Pos} (a e it : Addr) :
    Turn P w K (.Tuple elts kk tpos) (IteT K a) [e, it] e fun i h => (∃ old, IsEnum h e it (i : Nat) old) ∧ h.IsTupleIter it a i ∧ e ≠ it := by
  refine ⟨by simp, fun i h ⟨⟨old, z⟩, ⟨o, ho, _, hd⟩, _⟩ b hb => ?_, fun i h h' ⟨⟨old, z⟩, y, ne⟩ k => ⟨⟨old, k e (by simp) _ z⟩, y.at (k it (by simp)), ne⟩, fun X hP hw hK hc i pins s σ H E I fp ⟨⟨old, z⟩, y, ne⟩ go => ?_, fun X hP hw hK hc i pins s σ H E I fp ⟨⟨old, z⟩, y, ne⟩ st => ?_, fun A i s Q E ⟨⟨old, z⟩, y, ne⟩ q => wpAny_pyIter_enum z q⟩
  · rcases List.mem_cons.mp hb with e1 | hb
    · subst e1
      exact ⟨_, z, fun v h => by cases h⟩
    · obtain rfl := List.mem_singleton.mp hb
      exact ⟨o, ho, fun v h => by rw [hd] at h; cases h⟩
  · subst hP hw hK
    obtain ⟨xs, x, hs, hx⟩ := go
    obtain ⟨its, hv, ht, hlen⟩ := I.tuple hs
    have hl := hv.length
    have hi : i < its.toArray.size := by
      have := (List.getElem?_eq_some_iff.mp hx).1
      rw [List.size_toArray]
      omega
    have ha : a ≠ it := fun q => by
      subst q
      obtain ⟨o, ho, hc, _⟩ := y
      obtain ⟨o', ho', hc', _⟩ := ht
      rw [ho] at ho'
      obtain rfl := Option.some.inj ho'
      rw [hc] at hc'
      exact absurd hc' (by decide)
    refine wpAny_pyNext_enum_itemD (drawsOfTuple (A := X.A.in1) (I.ok.hd hc) it a ha its.toArray) z ⟨y, ht⟩ hi ne (by
      intro q
      rcases List.mem_cons.mp q with q | q
      · exact ne q
      · have q := List.mem_singleton.mp q
        subst q
        obtain ⟨o', ho', hc', _⟩ := ht
        rw [z] at ho'
        obtain rfl := Option.some.inj ho'
        exact absurd hc' (by show ¬ (Value.type "enumerate" = Value.type "tuple"); decide)) fun x' h' tk hx' out st' tup sz kp => ?_
    obtain ⟨u, hu, ru⟩ : ∃ u, its[i]? = some u ∧ RelV x u := paired_get hv hx
    have ex : x' = u := by
      rw [List.getElem?_toArray, hu] at hx'
      exact (Option.some.inj hx').symm
    subst ex
    have hT : H s.heap.objs.size = none := I.hok.fresh (Nat.le_refl _)
    refine ⟨_, rfl, wpAny_letOwnedTupleGo_enum out fun h2 z2 sb => ?_⟩
    have eT : s.heap.objs.size ≠ e := fun q => Nat.lt_irrefl _ (q ▸ Heap.lt_size z)
    have tup2 : h2.get? s.heap.objs.size = some { cls := .type "tuple", data := .seq #[.int (i : Nat) tk, x'] } := by rw [sb.2 _ eT]; exact tup
    have y2 : h2.IsTupleIter it a (i + 1) := st'.1.at fun o ho => by rw [sb.2 it (Ne.symm ne)]; exact ho
    refine ⟨.ref s.heap.objs.size, upd H s.heap.objs.size (.tup [.int (i : Nat), x]), ?_, rfl, ⟨_, x, rfl, hT, rfl, fun ys hy => by rw [I.tuple_inj hy hs]; exact hx⟩, ⟨⟨x', z2⟩, y2, ne⟩, fun b hb => ?_⟩
    · refine Inv.turnedNew (s := s) (ch := [e, it]) I (fun b o nb hb => ?_) fp (Nat.le_refl _) ⟨by show 2 ≤ sizeLine; decide, [.int (i : Nat) tk, x'], .cons ⟨tk, rfl⟩ (.cons ru .nil), ⟨_, tup2, rfl, _, rfl⟩⟩
      have n1 : b ≠ e := fun q => nb (by rw [q]; simp)
      have n2 : b ≠ it := fun q => nb (by rw [q]; simp)
      rw [sb.2 b n1]
      exact kp b o n1 n2 hb
    · have nb : b ≠ s.heap.objs.size := by
        rcases List.mem_cons.mp hb with q | q
        · rw [q]; exact Ne.symm eT
        · rw [List.mem_singleton.mp q]
          obtain ⟨o, ho, _⟩ := y
          exact fun q => Nat.lt_irrefl _ (q ▸ Heap.lt_size ho)
      rw [upd_ne nb]
      exact (fp b hb).1
  · subst hP hw hK
    obtain ⟨xs, hs, hl⟩ := st
    obtain ⟨its, hv, ht, hlen⟩ := I.tuple hs
    have hl2 := hv.length
    have ha : a ≠ it := fun q => by
      subst q
      obtain ⟨o, ho, hc, _⟩ := y
      obtain ⟨o', ho', hc', _⟩ := ht
      rw [ho] at ho'
      obtain rfl := Option.some.inj ho'
      rw [hc] at hc'
      exact absurd hc' (by decide)
    have en : its.toArray.size = i := by rw [List.size_toArray]; omega
    refine wpAny_pyNext_enum_endD (drawsOfTuple (A := X.A.in1) (I.ok.hd hc) it a ha its.toArray) z (by rw [en]; exact ⟨y, ht⟩) fun h' eb => ⟨rfl, ?_⟩
    have f := fp it (by simp)
    exact I.turned (fun b o nb hb => eb b o nb hb) f.1 f.2.1 f.2.2.2.1 f.2.2.2.2.1 f.2.2.2.2.2
theorem pi_enumT {X : Cx} {e : Expr} {ta : TA} {p pos tpos : Pos} {elts : List Expr} {kk : Nat} (hg : Gl X "enumerate") (hm : X.mg "enumerate" = none) (ha : PA X [e] ta) (he : starEach [e] X.env = [(false, eval e X.env)] := by rfl) :
    PI X (.Tuple elts kk tpos) (.Call (.Name "enumerate" p) [e] [] pos) (iEnumT X.K ta) := by
  refine ⟨fun pins s σ H R I h => ?_⟩
  refine wpAny_Call_Name_kw (ld_blt I hg hm (u := .type "enumerate") (by decide +kernel) ?_ (by decide) (by decide))
  refine PyProof.Rows.callWith_type1 (thn (ha.run pos pins s σ H _ I h) fun us s1 hh => ?_) he rfl
  obtain ⟨vs, H1, I1, r, a, xs, ev, hs, hR⟩ := hh
  subst ev
  cases r with
  | cons ra rr =>
    cases rr
    cases ra
    obtain ⟨its, hv, ht, hlen⟩ := I1.tuple hs
    refine call_enumT ht fun h' z y sz keep => wpAny_pyIter_enum z ?_
    have n1 : s1.heap.objs.size + 1 ≠ s1.heap.objs.size := Nat.succ_ne_self _
    refine ⟨s1.heap.objs.size + 1, [s1.heap.objs.size + 1, s1.heap.objs.size], _, IteT X.K a, H1, rfl, I1.kept keep, turn_enumT a (s1.heap.objs.size + 1) s1.heap.objs.size, ⟨⟨_, z⟩, y, n1⟩, fun b hb => ?_, hR⟩
    have hle : s1.heap.objs.size ≤ b := by
      rcases List.mem_cons.mp hb with q | q
      · rw [q]; exact Nat.le_succ _
      · rw [List.mem_singleton.mp q]; exact Nat.le_refl _
    exact I1.fpOk hle (I1.hok.fresh hle)
/-- a loop over enumerate(a tuple) -/
theorem for_enumT {K : PySem.W.Frag} {a : Addr} {xs : List V} {g : TG} {tb : TS} {D : Ends} {σ : St} {H : Hp} (Pv : Nat → St → Hp → Prop) (h0 : Pv 0 σ H) (hs : ∀ i σ H, i ≤ xs.length → Pv i σ H → SqT K H a xs)
    (st : ∀ i x σ H T, xs[i]? = some x → Pv i σ H → H T = none → g (.ref T) σ (upd H T (.tup [.int (i : Nat), x])) fun σ2 H2 => tb { nx := Pv (i + 1), rt := D.rt, bk := D.nx, ct := Pv (i + 1) } σ2 H2)
    (e : ∀ σ H, Pv xs.length σ H → D.nx σ H) :
    ∃ W : Nat → Nat → St → Hp → Prop, (∃ m, W 0 m σ H) ∧ ∀ i m σ H, W i m σ H → (IteT K a).stop i H ∧ D.nx σ H ∨ (IteT K a).go i H ∧ ∃ N : St → Hp → Prop, (∀ σ' H', N σ' H' → ∃ m', m' < m ∧ W (i + 1) m' σ' H') ∧
      ∀ x H', (IteT K a).yld i H x H' → g x σ H' fun σ2 H2 => tb { nx := N, rt := D.rt, bk := D.nx, ct := N } σ2 H2 := by
  refine ⟨fun i m σ H => Pv i σ H ∧ i + m = xs.length, ⟨xs.length, h0, Nat.zero_add _⟩, fun i m σ H ⟨hp, hm⟩ => ?_⟩
  have hS := hs i σ H (by omega) hp
  by_cases hi : i < xs.length
  · refine .inr ⟨⟨xs, xs[i], hS, List.getElem?_eq_getElem hi⟩, Pv (i + 1), fun σ' H' hp' => ⟨m - 1, by omega, hp', by omega⟩, fun v H' ⟨T, x, ev, hT, eH, hx⟩ => ?_⟩
    subst ev
    subst eH
    exact st i x σ H T (hx xs hS) hp hT
  · obtain rfl : i = xs.length := by omega
    exact .inl ⟨⟨xs, hS, rfl⟩, e σ H hp⟩
end L2

namespace L2
open PySem PySem.Spec PyProof.Rows
theorem passAt0 {CX : CXT} {X : Cx} {E : XK} (h : Passes CX X E) (σ : St) : PassesAt CX X σ E := fun pins H s e s' I q => h pins σ H s e s' I q
theorem vals_app {vs zs : List V} {us ws : List Value} (h1 : Vals vs us) (h2 : Vals zs ws) : Vals (vs ++ zs) (us ++ ws) := by
  induction h1 with
  | nil => exact h2
  | cons r _ ih => exact .cons r ih
/-! ## webs -/
/-- a row: a question and two or three targets -/
def RowOk (i n : Nat) (e : Int) (row : List Int) : Prop := ∃ q r, row = q :: r ∧ (r.length = 2 ∨ r.length = 3) ∧ 0 ≤ q ∧ q < 48 ∧ ∀ t ∈ r, -e ≤ t ∧ t < n ∧ ¬ (0 ≤ t ∧ t ≤ i)
/-- nothing is asked again behind a node: A i holds the questions that may be asked from node i on -/
def Cert (rows : List (List Int)) : Prop := ∃ A : Nat → Int → Prop, ∀ i q r, rows[i]? = some (q :: r) → A i q ∧ ∀ t ∈ r, 0 ≤ t → ¬ A t.toNat q ∧ ∀ z, A t.toNat z → A i z
structure GoodW (rows : List (List Int)) (e o : Int) : Prop where
  e1 : 1 ≤ e
  e2 : e ≤ 60
  len : rows.length ≤ 400
  row : ∀ i row, rows[i]? = some row → RowOk i rows.length e row
  o1 : -e ≤ o
  o2 : o < rows.length
  cert : Cert rows
/-- the rows stand as tuples at as -/
def RowsAt (H : Hp) (as : List Addr) (rows : List (List Int)) : Prop := as.length = rows.length ∧ ∀ (i : Nat) a row, as[i]? = some a → rows[i]? = some row → H a = some (.tup (row.map V.int))
theorem RowsAt.same {H H' : Hp} {as : List Addr} {rows : List (List Int)} (e : Same H H') (h : RowsAt H as rows) : RowsAt H' as rows := ⟨h.1, fun i a row x y => e _ _ (h.2 i a row x y)⟩
theorem RowsAt.gd {H H' : Hp} {as : List Addr} {rows : List (List Int)} (e : Gd H H') (h : RowsAt H as rows) : RowsAt H' as rows := ⟨h.1, fun i a row x y => e.1 _ _ (np_tup _) (h.2 i a row x y)⟩
def WebAt (C : Addr) (H : Hp) (x : Addr) (rows : List (List Int)) (e o : Int) : Prop := ∃ dx nt as, H x = some (.ins C dx [("nodes", .ref nt), ("ends", .int e), ("start", .int o)]) ∧ H nt = some (.tup (as.map V.ref)) ∧ RowsAt H as rows
theorem WebAt.same {C : Addr} {H H' : Hp} {x : Addr} {rows : List (List Int)} {e o : Int} (s : Same H H') (h : WebAt C H x rows e o) : WebAt C H' x rows e o := by
  obtain ⟨dx, nt, as, h1, h2, h3⟩ := h
  exact ⟨dx, nt, as, s _ _ h1, s _ _ h2, h3.same s⟩
theorem WebAt.gd {C : Addr} {H H' : Hp} {x : Addr} {rows : List (List Int)} {e o : Int} (s : Gd H H') (h : WebAt C H x rows e o) : WebAt C H' x rows e o := by
  obtain ⟨dx, nt, as, h1, h2, h3⟩ := h
  exact ⟨dx, nt, as, s.1 _ _ (np_ins _ _ _) h1, s.1 _ _ (np_tup _) h2, h3.gd s⟩
/-- the row at a place -/
theorem rows_get {H : Hp} {as : List Addr} {rows : List (List Int)} (h : RowsAt H as rows) {i : Nat} (hi : i < rows.length) : ∃ a row, as[i]? = some a ∧ rows[i]? = some row ∧ H a = some (.tup (row.map V.int)) := by
  have hi2 : i < as.length := by rw [h.1]; exact hi
  exact ⟨as[i], rows[i], List.getElem?_eq_getElem hi2, List.getElem?_eq_getElem hi, h.2 i _ _ (List.getElem?_eq_getElem hi2) (List.getElem?_eq_getElem hi)⟩
/-! masks -/
def natV (m : Nat) : V := .int (m : Int)
theorem and_bit {b q : Nat} (h : b.testBit q = false) : Builtin.bitAnd (b : Int) ((2 ^ q : Nat) : Int) = 0 := by
  rw [PyProof.Rows.bitAnd_pp (Int.natCast_nonneg _) (Int.natCast_nonneg _), Int.toNat_natCast, Int.toNat_natCast]
  have : b &&& 2 ^ q = 0 := Nat.eq_of_testBit_eq fun i => by
    rw [Nat.testBit_and, Nat.testBit_two_pow, Nat.zero_testBit]
    by_cases e : q = i
    · subst e; rw [h]; rfl
    · rw [decide_eq_false e, Bool.and_false]
  rw [this]
  rfl
theorem or_nat (b m : Nat) : Builtin.bitOr (b : Int) (m : Int) = ((b ||| m : Nat) : Int) := by
  rw [Bits.bitOr_pp (Int.natCast_nonneg _) (Int.natCast_nonneg _), Int.toNat_natCast, Int.toNat_natCast]
theorem get_natV {l : List Nat} {i m : Nat} (h : l[i]? = some m) : (l.map natV)[i]? = some (.int (m : Int)) := by
  rw [List.getElem?_map, h]
  rfl
def MaskOkW (A : Nat → Int → Prop) (j m : Nat) : Prop := ∀ z : Nat, m.testBit z = true → A j (z : Int)
def spTwice : Sp := fun vs H Q _ => ∃ (nt : Addr) (as : List Addr) (rows : List (List Int)) (e : Int), vs = [.ref nt] ∧ H nt = some (.tup (as.map V.ref)) ∧ RowsAt H as rows ∧ rows.length ≤ 400 ∧ (∀ i row, rows[i]? = some row → RowOk i rows.length e row) ∧ Cert rows ∧ ∀ H', Same H H' → Q .non H'
def spIn (C : Addr) : Sp := fun vs H Q _ => ∃ (x : Addr) (dx : Addr) (fs : List (Str × V)) (nt : Addr) (xs : List V) (e z : Int), vs = [.ref x, .int z] ∧ H x = some (.ins C dx fs) ∧ fs.lookup ("ends" : Str) = some (.int e) ∧ fs.lookup ("nodes" : Str) = some (.ref nt) ∧ H nt = some (.tup xs) ∧ Q (.bl (decide (-e ≤ z ∧ z < (xs.length : Nat)))) H
def spStand (C : Addr) : Sp := fun vs H Q _ => ∃ (x dx nt nd : Addr) (fs : List (Str × V)) (xs : List V) (e : Int) (k : Nat) (row : List Int), vs = [.ref x, .int k, .ref nd] ∧ H x = some (.ins C dx fs) ∧ fs.lookup ("ends" : Str) = some (.int e) ∧ fs.lookup ("nodes" : Str) = some (.ref nt) ∧ H nt = some (.tup xs) ∧ H nd = some (.tup (row.map V.int)) ∧ RowOk k xs.length e row ∧ ∀ H', Same H H' → Q (.bl true) H'
def spLenW (C : Addr) : Sp := fun vs H Q _ => ∃ (x dx nt : Addr) (fs : List (Str × V)) (xs : List V), vs = [.ref x] ∧ H x = some (.ins C dx fs) ∧ fs.lookup ("nodes" : Str) = some (.ref nt) ∧ H nt = some (.tup xs) ∧ Q (.int (xs.length : Nat)) H
def spFirst (C : Addr) : Sp := fun vs H Q _ => ∃ (x dx nt : Addr) (fs : List (Str × V)) (xs : List V), vs = [.ref x] ∧ H x = some (.ins C dx fs) ∧ fs.lookup ("nodes" : Str) = some (.ref nt) ∧ H nt = some (.tup xs) ∧ Q (.int (if xs.isEmpty then -1 else 0)) H
theorem at_tup {l : List V} {j : Nat} {v : V} (h : l[j]? = some v) : atI l (j : Int) = some v := atI_nat h
theorem cut_row (q : Int) (r : List Int) : cutV ((q :: r).map V.int) (some 1) none = r.map V.int := by
  unfold cutV HT.sIx
  simp only [List.length_map, List.length_cons]
  rw [if_neg (by decide)]
  show List.take (r.length + 1 - min 1 (r.length + 1)) (List.drop (min 1 (r.length + 1)) (V.int q :: r.map V.int)) = _
  rw [Nat.min_eq_left (Nat.succ_le_succ (Nat.zero_le _))]
  show List.take (r.length + 1 - 1) (r.map V.int) = _
  exact List.take_of_length_le (by rw [List.length_map]; omega)
/-- node[1:] of a row -/
theorem rest_row {K : PySem.W.Frag} {H : Hp} {a : Addr} {q : Int} {r : List Int} {Q : VK} (h : H a = some (.tup ((q :: r).map V.int))) (k : ∀ p, H p = none → Q (.ref p) (upd H p (.tup (r.map V.int)))) : rSlA K (.ref a) (some 1) none H Q := by
  refine ⟨a, _, rfl, tup_of h, fun e => ?_, fun _ p np => ?_⟩
  · exfalso
    have e := e.1
    unfold HT.sIx at e
    dsimp only at e
    rw [if_neg (by decide), List.map_cons, List.length_cons] at e
    have : min (1 : Int).toNat ((r.map V.int).length + 1) = 1 := Nat.min_eq_left (Nat.succ_le_succ (Nat.zero_le _))
    rw [this] at e
    exact absurd e (by decide)
  · have ec : cutV ((q :: r).map V.int) (some 1) none = r.map V.int := by
      rw [cut_row]
    rw [ec]
    exact k p np
/-- a row as it is passed: a tuple or a list -/
def RowIn (H : Hp) (a : Addr) (row : List Int) : Prop := H a = some (.tup (row.map V.int)) ∨ H a = some (.lst (row.map V.int))
theorem RowIn.same {H H' : Hp} {a : Addr} {row : List Int} (e : Same H H') (h : RowIn H a row) : RowIn H' a row := h.elim (fun h => .inl (e _ _ h)) fun h => .inr (e _ _ h)
def StartV (rows : List (List Int)) (o : Int) (v : V) : Prop := v = .int o ∨ (v = .non ∧ o = if rows.isEmpty then -1 else 0)
def spWebInit (K : PySem.W.Frag) (C : Addr) : Sp := fun vs H Q _ => ∃ (x dx q : Addr) (as : List Addr) (rows : List (List Int)) (e o : Int) (v : V), vs = [.ref x, .ref q, .int e, v] ∧ H x = some (.ins C dx []) ∧ SqL K H q (as.map V.ref) ∧ as.length = rows.length ∧
  (∀ (i : Nat) a row, as[i]? = some a → rows[i]? = some row → RowIn H a row) ∧ GoodW rows e o ∧ StartV rows o v ∧
  ∀ H', WebAt C H' x rows e o → (∀ b u, b ≠ x → H b = some u → H' b = some u) → Q .non H'
theorem put1 {v : V} : putF ("nodes" : Str) v [] = [(("nodes" : Str), v)] := by rfl
theorem put2 {u v : V} : putF ("ends" : Str) v [(("nodes" : Str), u)] = [(("nodes" : Str), u), (("ends" : Str), v)] := by rfl
theorem put3 {u v z : V} : putF ("start" : Str) v [(("nodes" : Str), u), (("ends" : Str), z)] = [(("nodes" : Str), u), (("ends" : Str), z), (("start" : Str), v)] := by rfl
/-! ## drawn webs -/
def spNames (K : PySem.W.Frag) : Sp := fun vs H Q _ => ∃ (p : Addr) (c : Nat) (m : Int), vs = [.ref p, .int m] ∧ PoolOk K p c H ∧ c + 100 < LIM ∧ 0 < m ∧ m ≤ 48 ∧
  ∀ H' D l, H D = none → Gd H H' → PoolOk K p (c + 100) H' → H' D = some (.lst (l.map V.int)) → Qn l → l ≠ [] → (l.length : Int) ≤ m → l.Nodup → Q (.ref D) H'
def TgtOk (e cnt idx t : Int) : Prop := -e ≤ t ∧ t < cnt ∧ ¬ (0 ≤ t ∧ t ≤ idx)
def spTarget (K : PySem.W.Frag) : Sp := fun vs H Q _ => ∃ (p : Addr) (c : Nat) (idx cnt e : Int), vs = [.ref p, .int idx, .int cnt, .int e] ∧ PoolOk K p c H ∧ c + 10 < LIM ∧ 0 ≤ idx ∧ idx < cnt ∧ cnt ≤ 400 ∧ 1 ≤ e ∧ e ≤ 60 ∧
  ∀ H' t, Gd H H' → PoolOk K p (c + 3) H' → TgtOk e cnt idx t → Q (.int t) H'
/-- one drawn node: its question is in its own list b, in none of the lists of its targets, and b holds these -/
def NdOk (e : Int) (N g : Nat) (nms row b : List Int) (bels : List (List Int)) : Prop := ∃ q r, row = q :: r ∧ (r.length = 2 ∨ r.length = 3) ∧ q ∈ nms ∧ q ∈ b ∧ ∀ t ∈ r, TgtOk e N g t ∧ (0 ≤ t → ∃ b', bels[(t - g - 1).toNat]? = some b' ∧ q ∉ b' ∧ ∀ z ∈ b', z ∈ b)
def GoodS (e : Int) (N : Nat) (nms : List Int) : List (List Int) → List (List Int) → Prop
  | [], [] => True
  | row :: rows, b :: bels => GoodS e N nms rows bels ∧ NdOk e N (N - (rows.length + 1)) nms row b bels
  | [], _ :: _ => False
  | _ :: _, [] => False
theorem GoodS.len {e : Int} {N : Nat} {nms : List Int} : ∀ {rows bels : List (List Int)}, GoodS e N nms rows bels → bels.length = rows.length
  | [], [], _ => rfl
  | _ :: _, _ :: _, h => by rw [List.length_cons, List.length_cons, GoodS.len h.1]
  | [], _ :: _, h => h.elim
  | _ :: _, [], h => h.elim
/-- by places: base is what stands before these rows -/
theorem GoodS.at {e : Int} {N : Nat} {nms : List Int} : ∀ {rows bels : List (List Int)} {base : Nat}, GoodS e N nms rows bels → base + rows.length = N → ∀ (j : Nat) row, rows[j]? = some row →
    ∃ q r b, row = q :: r ∧ (r.length = 2 ∨ r.length = 3) ∧ q ∈ nms ∧ bels[j]? = some b ∧ q ∈ b ∧ ∀ t ∈ r, TgtOk e N (base + j : Nat) t ∧ (0 ≤ t → ∃ b', bels[t.toNat - base]? = some b' ∧ q ∉ b' ∧ ∀ z ∈ b', z ∈ b)
  | [], [], _, _, _, j, row, hj => by simp at hj
  | [], _ :: _, _, h, _, _, _, _ => h.elim
  | _ :: _, [], _, h, _, _, _, _ => h.elim
  | row0 :: rows, b0 :: bels, base, h, hb, j, row, hj => by
    rw [List.length_cons] at hb
    cases j with
    | zero =>
      obtain rfl : row0 = row := Option.some.inj hj
      obtain ⟨q, r, e1, hl, hq, hqb, ht⟩ := h.2
      have eg : N - (rows.length + 1) = base := by omega
      rw [eg] at ht
      refine ⟨q, r, b0, e1, hl, hq, rfl, hqb, fun t m => ?_⟩
      obtain ⟨h1, h2⟩ := ht t m
      refine ⟨by simpa using h1, fun t0 => ?_⟩
      obtain ⟨b', hb', h3⟩ := h2 t0
      have := h1.2.2
      have hlt : (base : Int) < t := by
        refine Int.not_le.mp fun hle => this ⟨t0, hle⟩
      refine ⟨b', ?_, h3⟩
      have : t.toNat - base = (t - base - 1).toNat + 1 := by omega
      rw [this, List.getElem?_cons_succ]
      exact hb'
    | succ j =>
      obtain ⟨q, r, b, e1, hl, hq, hbj, hqb, ht⟩ := GoodS.at (base := base + 1) h.1 (by omega) j row hj
      refine ⟨q, r, b, e1, hl, hq, hbj, hqb, fun t m => ?_⟩
      obtain ⟨h1, h2⟩ := ht t m
      refine ⟨by rw [show base + (j + 1) = base + 1 + j by omega]; exact h1, fun t0 => ?_⟩
      obtain ⟨b', hb', h3⟩ := h2 t0
      have := h1.2.2
      have hlt : ((base + 1 + j : Nat) : Int) < t := by
        refine Int.not_le.mp fun hle => this ⟨t0, hle⟩
      refine ⟨b', ?_, h3⟩
      have : t.toNat - base = (t.toNat - (base + 1)) + 1 := by omega
      rw [this, List.getElem?_cons_succ]
      exact hb'
theorem GoodS.good {e o : Int} {nms : List Int} {rows bels : List (List Int)} (h : GoodS e rows.length nms rows bels) (hn : Qn nms) (e1 : 1 ≤ e) (e2 : e ≤ 60) (hl : rows.length ≤ 400) (o1 : -e ≤ o) (o2 : o < rows.length) : GoodW rows e o := by
  refine ⟨e1, e2, hl, fun i row hi => ?_, o1, o2, fun g z => ∃ b, bels[g]? = some b ∧ z ∈ b, fun i q r hi => ?_⟩
  · obtain ⟨q, r, b, er, hr, hq, _, _, ht⟩ := h.at (base := 0) (Nat.zero_add _) i row hi
    refine ⟨q, r, er, hr, (hn q hq).1, (hn q hq).2, fun t m => ?_⟩
    have := (ht t m).1
    rw [Nat.zero_add] at this
    exact this
  · obtain ⟨q', r', b, er, hr, hq, hb, hqb, ht⟩ := h.at (base := 0) (Nat.zero_add _) i _ hi
    obtain ⟨rfl, rfl⟩ := List.cons.inj er
    refine ⟨⟨b, hb, hqb⟩, fun t m t0 => ?_⟩
    obtain ⟨b', hb', h1, h2⟩ := (ht t m).2 t0
    rw [Nat.sub_zero] at hb'
    refine ⟨fun ⟨b2, hb2, hz⟩ => ?_, fun z ⟨b2, hb2, hz⟩ => ?_⟩
    · rw [hb'] at hb2
      obtain rfl := Option.some.inj hb2
      exact h1 hz
    · rw [hb'] at hb2
      obtain rfl := Option.some.inj hb2
      exact ⟨b, hb, h2 z hz⟩
def spNodes (K : PySem.W.Frag) : Sp := fun vs H Q _ => ∃ (p nm : Addr) (c N : Nat) (e : Int) (sk : Bool) (nms : List Int), vs = [.ref p, .int (N : Int), .int e, .ref nm, .bl sk] ∧ PoolOk K p c H ∧ c + 1000 < LIM ∧ N ≤ 13 ∧ 1 ≤ e ∧ e ≤ 60 ∧
  H nm = some (.lst (nms.map V.int)) ∧ nms ≠ [] ∧ nms.length ≤ 48 ∧
  ∀ H' D as rows bels, H D = none → Gd H H' → PoolOk K p (c + 1000) H' → H' D = some (.lst (as.map V.ref)) → RowsAt H' as rows → rows.length = N → GoodS e N nms rows bels → Q (.ref D) H'
theorem Gd.but {H0 H H' : Hp} {D : Addr} (g : Gd H0 H) (n : H0 D = none) (k : ∀ b o, b ≠ D → H b = some o → H' b = some o) : Gd H0 H' :=
  ⟨fun b o np h => k b o (ne_of_none h n) (g.1 b o np h), fun b o pl h => let ⟨o', p', h'⟩ := g.2 b o pl h; ⟨o', p', k b o' (ne_of_none h n) h'⟩⟩
theorem PoolOk.but {K : PySem.W.Frag} {p D : Addr} {c : Nat} {H H' : Hp} {ys : List V} (h : PoolOk K p c H) (hD : H D = some (.lst ys)) (n : ¬ isPool (.lst ys)) (k : ∀ b o, b ≠ D → H b = some o → H' b = some o) : PoolOk K p c H' := by
  obtain ⟨sa, ns, c', i, b, s, h1, h2, h3⟩ := h
  refine ⟨sa, ns, c', i, b, s, ?_, k _ _ (fun e => ?_) h2, h3⟩
  · rcases h1 with ⟨o, h1⟩ | h1
    · exact .inl ⟨o, k _ _ (ne_of h1 hD (by intro z; cases z)) h1⟩
    · exact .inr h1
  · subst e
    rw [h2] at hD
    injection hD with hD
    exact n ⟨sa, c', i, b, s, hD.symm⟩
theorem at_int {l : List Int} {r : Int} (h0 : 0 ≤ r) (h1 : r < (l.length : Int)) : ∃ z, z ∈ l ∧ atI (l.map V.int) r = some (.int z) := by
  obtain ⟨j, rfl⟩ : ∃ j : Nat, r = (j : Int) := ⟨r.toNat, by omega⟩
  have hj : j < l.length := by omega
  exact ⟨l[j], List.getElem_mem hj, atI_nat (by rw [List.getElem?_map, List.getElem?_eq_getElem hj]; rfl)⟩
/-! ## web[i] in a try body -/
section
variable {X : Cx} {CX : CXT} {n : Nat} {f C : Addr} {fd : FuncData} {ps : List Str} {sp : Sp} {pins : List (Addr × Obj)} {σ : St} {H : Hp} {s : Shared}
theorem run_ownS {E : XK} {A : Around} {vs : List V} {us : List Value} {Q : VK} (F : FnOk X.prog X.w X.K X.mg X.base CX n f fd ps sp) (sb : Sub X n A) (hb : Binds X.K fd ps []) (hx : PassesAt CX X σ E)
    (I : Inv X pins σ H s) (r : Vals vs us) (h : sp vs H Q E) : wpAny (model X.prog X.w) A (call (.ref f) us) (EP X pins σ Q) X.xe s := by
  have e0 : Env0 X.prog X.w X.K X.mg X.base A X.stack s H := by
    have e := I.env0
    exact ⟨by rw [sb.fr]; exact e.frames, e.mod, e.bs, e.bsz, e.funs, e.frf, e.hok, e.bare⟩
  have hl := F.len _ _ _ _ h
  have hl2 : us.length = ps.length := by rw [← hl, r.length]
  refine wpAny_call (codeAny_mono (F.run A X.stack s H ⟨us, []⟩ us vs Q E sb.room e0 (by
    have := hb s us I.kIn (by simpa using hl2)
    simpa using this) r h) fun r' s' hq => ?_)
  cases r' with
  | error e => exact hx pins H s e s' I hq
  | ok fl =>
    cases fl with
    | ret w => exact I.after hq
    | next => exact False.elim hq
    | brk => exact False.elim hq
    | cont => exact False.elim hq
def tOwnIxS (C : Addr) (sp : Sp) (E : St → XK) (ta tb : TE) : TE := fun σ H Q => ta σ H fun x H1 => tb σ H1 fun y H2 => rOwnIx C sp (E σ) x y H2 Q
theorem pe_ownIxS {E : St → XK} {a b : Expr} {ta tb : TE} {pos : Pos} (F : FnOk X.prog X.w X.K X.mg X.base CX n f fd ps sp) (hr : Room (n + 1) X.A) (hs : PySem.W.findIn X.K (.ref C) "__getitem__" = some (some (.ref f))) (hfn : PySem.W.fnIn X.K f = true) (hf : PySem.W.isFn X.K (.ref f) = true)
    (hb : Binds X.K fd ps []) (hx : ∀ σ, PassesAt CX X σ (E σ)) (ha : PE X a ta) (hb' : PE X b tb)
    (hsl : ∀ x i, subscripted b true (.ref x) i = runValue (.builtin "lifetime.subscript" ⟨[.ref x, i], []⟩) := by intro _ _; with_unfolding_all rfl) : PE X (.Subscript a b pos) (tOwnIxS C sp E ta tb) := by
  refine ⟨fun pins s σ H Q I h => ?_⟩
  refine Subscript_ (binT ha hb' I h fun v u s2 x y H2 I2 rx ry q => ?_)
  obtain ⟨c, dx, fs, rfl, hc, q⟩ := q
  cases rx
  obtain ⟨mB, J', _⟩ := ins_get I2.hok hc
  obtain ⟨od', J', _⟩ := J'.look
  obtain ⟨m, hF⟩ := I2.fr
  have sb : Sub X (n + 1) X.A := ⟨hr, rfl⟩
  exact PySem.W.sub_K hF I2.ok.mod.kin J' hs hfn hf (run_ownS (vs := [.ref c, y]) F sb.in1 hb (hx σ) I2 (.cons rfl (.cons ry .nil)) q) (hsl _ _)
end
/-- web[at] -/
def spItem (C CN : Addr) : Sp := fun vs H Q E => ∃ (x : Addr) (rows : List (List Int)) (e o z : Int), vs = [.ref x, .int z] ∧ WebAt C H x rows e o ∧ Bd z ∧
  ((0 ≤ z ∧ z < rows.length) → ∀ t row, rows[z.toNat]? = some row → H t = some (.tup (row.map V.int)) → Q (.ref t) H) ∧
  (¬ (0 ≤ z ∧ z < rows.length) → ∀ d H', H d = none → Same H H' → H' d = some (.xd [("index", .int z)]) → E (.ref CN) (some d) H')
/-! equality of tuples of tuples -/
def rowD (r : List Int) : PyData := .tuple (r.map PyData.int)
theorem dpAll_rows {K : PySem.W.Frag} {H : Hp} : ∀ {as : List Addr} {rows : List (List Int)}, RowsAt H as rows → DpAll K H (as.map V.ref) (rows.map rowD)
  | [], [], _ => .nil
  | [], _ :: _, h => by cases h.1
  | _ :: _, [], h => by cases h.1
  | a :: as, r :: rows, h => .cons (.tup (tup_of (h.2 0 a r rfl rfl)) (dpAll_ints r)) (dpAll_rows ⟨by have := h.1; simpa using this, fun j b row h1 h2 => h.2 (j + 1) b row h1 h2⟩)
theorem canLay_rows : ∀ rows : List (List Int), PyData.canLayAll0 (rows.map rowD) = true
  | [] => by rw [List.map_nil, PyData.canLayAll0]
  | n :: r => by
    rw [List.map_cons, PyData.canLayAll0, canLay_rows r]
    simp [rowD, PyData.canLay0, canLay_ints]
theorem depth_rows : ∀ rows : List (List Int), PyData.depthAll (rows.map rowD) ≤ 1
  | [] => by rw [List.map_nil, PyData.depthAll]; decide
  | n :: r => by
    have := depth_rows r
    rw [List.map_cons, PyData.depthAll]
    simp [rowD, PyData.depth, depth_ints]
    omega
theorem shR (rows : List (List Int)) : SeqAt.shaped (.tuple (rows.map rowD)) = true := by
  have := depth_rows rows
  simp [SeqAt.shaped, PyData.canLay0, canLay_rows, PyData.depth]
  omega
theorem ev_rows : ∀ rows rows2 : List (List Int), PyData.eqvAll (rows.map rowD) (rows2.map rowD) = decide (rows = rows2)
  | [], [] => by rw [List.map_nil, PyData.eqvAll]; rfl
  | [], _ :: _ => by rw [List.map_nil, List.map_cons, PyData.eqvAll]; rfl
  | _ :: _, [] => by rw [List.map_nil, List.map_cons, PyData.eqvAll]; rfl
  | a :: r, b :: s => by
    rw [List.map_cons, List.map_cons, PyData.eqvAll, ev_rows r s]
    unfold rowD
    rw [evT, Bool.eq_iff_iff, Bool.and_eq_true, decide_eq_true_eq, decide_eq_true_eq, decide_eq_true_eq, List.cons.injEq]
theorem eqD_rows {K : PySem.W.Frag} {H : Hp} {a b : Addr} {as bs : List Addr} {rows rows2 : List (List Int)} {Q : VK} (h1 : H a = some (.tup (as.map V.ref))) (h2 : H b = some (.tup (bs.map V.ref))) (r1 : RowsAt H as rows) (r2 : RowsAt H bs rows2) (q : Q (.bl (decide (rows = rows2))) H) : rEqD K (.ref a) (.ref b) H Q :=
  ⟨_, _, .tup (tup_of h1) (dpAll_rows r1), .tup (tup_of h2) (dpAll_rows r2), shR rows, shR rows2, by rw [PyData.eqv, ev_rows]; exact q⟩
theorem neD_rows {K : PySem.W.Frag} {H : Hp} {a b : Addr} {as bs : List Addr} {rows rows2 : List (List Int)} {Q : VK} (h1 : H a = some (.tup (as.map V.ref))) (h2 : H b = some (.tup (bs.map V.ref))) (r1 : RowsAt H as rows) (r2 : RowsAt H bs rows2) (q : Q (.bl (!decide (rows = rows2))) H) : rNeD K (.ref a) (.ref b) H Q :=
  ⟨_, _, .tup (tup_of h1) (dpAll_rows r1), .tup (tup_of h2) (dpAll_rows r2), shR rows, shR rows2, by rw [PyData.eqv, ev_rows]; exact q⟩
/-- web == other -/
def spEqW (C : Addr) : Sp := fun vs H Q _ => ∃ (x y : Addr) (rows rows2 : List (List Int)) (e o e2 o2 : Int), vs = [.ref x, .ref y] ∧ WebAt C H x rows e o ∧ WebAt C H y rows2 e2 o2 ∧ Q (.bl (decide (rows = rows2 ∧ e = e2 ∧ o = o2))) H
theorem neD_bad {K : PySem.W.Frag} {H : Hp} {x y : Addr} {s : Str} {z : Int} {Q : VK} (h1 : SqT K H x [.str s, .int z]) (h2 : SqT K H y [.str s, .int z]) (q : Q (.bl false) H) (hs : PyData.strOk s = true := by decide +kernel) : rNeD K (.ref x) (.ref y) H Q := by
  refine ⟨_, _, .tup h1 (.cons (.str s) (.cons (.int z) .nil)), .tup h2 (.cons (.str s) (.cons (.int z) .nil)), ?_, ?_, ?_⟩
  · simp [SeqAt.shaped, PyData.canLay0, PyData.canLayAll0, PyData.depth, PyData.depthAll, hs]
  · simp [SeqAt.shaped, PyData.canLay0, PyData.canLayAll0, PyData.depth, PyData.depthAll, hs]
  · rw [show PyData.eqv (.tuple [.str s, .int z]) (.tuple [.str s, .int z]) = true by simp [PyData.eqv, PyData.eqvAll]]
    exact q
def spSameW (C : Addr) : Sp := fun vs H Q _ => ∃ (x q : Addr) (as : List Addr) (rows : List (List Int)) (e o : Int), vs = [.ref x, .ref q, .int e, .int o] ∧ WebAt C H x rows e o ∧ H q = some (.lst (as.map V.ref)) ∧ RowsAt H as rows ∧ rows.length ≤ 400 ∧ 1 ≤ e ∧ e ≤ 60 ∧ ∀ H', Same H H' → Q (.bl true) H'
end L2

namespace L2
open PySem PySem.Spec PyProof.Rows
/-! ## webs with one row changed -/
theorem GoodW.more {rows : List (List Int)} {e o : Int} (h : GoodW rows e o) (he : e < 60) : GoodW rows (e + 1) o := by
  refine ⟨by have := h.e1; omega, by omega, h.len, fun i row hi => ?_, by have := h.o1; omega, h.o2, h.cert⟩
  obtain ⟨q, r, e1, h1, h2, h3, h4⟩ := h.row i row hi
  exact ⟨q, r, e1, h1, h2, h3, fun t m => by obtain ⟨x, y, z⟩ := h4 t m; exact ⟨by omega, y, z⟩⟩
theorem GoodW.from {rows : List (List Int)} {e o : Int} {o' : Int} (h : GoodW rows e o) (h1 : -e ≤ o') (h2 : o' < rows.length) : GoodW rows e o' := ⟨h.e1, h.e2, h.len, h.row, h1, h2, h.cert⟩
theorem GoodW.put {rows : List (List Int)} {e o : Int} {k : Nat} {q q' : Int} {r r' : List Int} (h : GoodW rows e o) (hk : rows[k]? = some (q :: r)) (hl : r'.length = 2 ∨ r'.length = 3) (q0 : 0 ≤ q') (q1 : q' < 48)
    (hq : q' = q ∨ ∀ (i : Nat) (z : Int) (s : List Int), rows[i]? = some (z :: s) → z ≠ q') (hr : ∀ t ∈ r', (0 ≤ t → t ∈ r) ∧ -e ≤ t) : GoodW (rows.set k (q' :: r')) e o := by
  obtain ⟨A, hA⟩ := h.cert
  have hkl : k < rows.length := (List.getElem?_eq_some_iff.mp hk).1
  have tok : ∀ t ∈ r', -e ≤ t ∧ t < (rows.length : Int) ∧ ¬ (0 ≤ t ∧ t ≤ k) := fun t m => by
    obtain ⟨h1, h2⟩ := hr t m
    by_cases t0 : 0 ≤ t
    · obtain ⟨q2, r2, e2, _, _, _, h3⟩ := h.row k _ hk
      obtain ⟨rfl, rfl⟩ := List.cons.inj e2
      exact h3 t (h1 t0)
    · exact ⟨h2, by omega, by omega⟩
  refine ⟨h.e1, h.e2, by rw [List.length_set]; exact h.len, fun i row hi => ?_, h.o1, by rw [List.length_set]; exact h.o2, ?_⟩
  · rw [List.length_set]
    by_cases hik : k = i
    · subst hik
      rw [List.getElem?_set_self hkl] at hi
      obtain rfl := Option.some.inj hi
      exact ⟨q', r', rfl, hl, q0, q1, tok⟩
    · rw [List.getElem?_set_ne hik] at hi
      exact h.row i row hi
  · rcases hq with rfl | hq
    · refine ⟨A, fun i z s hi => ?_⟩
      by_cases hik : k = i
      · subst hik
        rw [List.getElem?_set_self hkl] at hi
        obtain ⟨rfl, rfl⟩ := List.cons.inj (Option.some.inj hi)
        obtain ⟨a1, a2⟩ := hA k _ _ hk
        exact ⟨a1, fun t m t0 => a2 t ((hr t m).1 t0) t0⟩
      · rw [List.getElem?_set_ne hik] at hi
        exact hA i z s hi
    · refine ⟨fun i z => (A i z ∧ z ≠ q') ∨ (z = q' ∧ i ≤ k), fun i z s hi => ?_⟩
      by_cases hik : k = i
      · subst hik
        rw [List.getElem?_set_self hkl] at hi
        obtain ⟨rfl, rfl⟩ := List.cons.inj (Option.some.inj hi)
        refine ⟨.inr ⟨rfl, Nat.le_refl _⟩, fun t m t0 => ?_⟩
        have ht := (tok t m).2.2
        have tk : k < t.toNat := by omega
        refine ⟨fun hh => ?_, fun y hy => ?_⟩
        · rcases hh with ⟨_, h2⟩ | ⟨_, h2⟩
          · exact h2 rfl
          · omega
        · rcases hy with ⟨h1, h2⟩ | ⟨_, h2⟩
          · exact .inl ⟨((hA k _ _ hk).2 t ((hr t m).1 t0) t0).2 y h1, h2⟩
          · omega
      · rw [List.getElem?_set_ne hik] at hi
        have zq := hq i z s hi
        obtain ⟨a1, a2⟩ := hA i z s hi
        refine ⟨.inl ⟨a1, zq⟩, fun t m t0 => ?_⟩
        obtain ⟨b1, b2⟩ := a2 t m t0
        have ht : ¬ (0 ≤ t ∧ t ≤ i) := by
          obtain ⟨q2, r2, e2, _, _, _, h3⟩ := h.row i _ hi
          obtain ⟨rfl, rfl⟩ := List.cons.inj e2
          exact (h3 t m).2.2
        refine ⟨fun hh => ?_, fun y hy => ?_⟩
        · rcases hh with ⟨h1, _⟩ | ⟨h1, _⟩
          · exact b1 h1
          · exact zq h1
        · rcases hy with ⟨h1, h2⟩ | ⟨h1, h2⟩
          · exact .inl ⟨b2 y h1, h2⟩
          · exact .inr ⟨h1, by omega⟩
theorem GoodW.snoc {rows : List (List Int)} {e o q : Int} (h : GoodW rows e o) (hl : rows.length < 400) (q0 : 0 ≤ q) (q1 : q < 48) : GoodW (rows ++ [[q, -1, -1]]) e o := by
  obtain ⟨A, hA⟩ := h.cert
  have e1 := h.e1
  have ll : (rows ++ [[q, -1, -1]]).length = rows.length + 1 := by rw [List.length_append]; rfl
  have cs : ∀ {i : Nat} {row : List Int}, (rows ++ [[q, -1, -1]])[i]? = some row → (i < rows.length ∧ rows[i]? = some row) ∨ (i = rows.length ∧ row = [q, -1, -1]) := fun {i row} hi => by
    by_cases hj : i < rows.length
    · rw [List.getElem?_append_left hj] at hi
      exact .inl ⟨hj, hi⟩
    · rw [List.getElem?_append_right (by omega)] at hi
      have h0 : i - rows.length = 0 := by
        have := (List.getElem?_eq_some_iff.mp hi).1
        rw [List.length_singleton] at this
        omega
      rw [h0] at hi
      exact .inr ⟨by omega, (Option.some.inj hi).symm⟩
  refine ⟨e1, h.e2, by rw [ll]; omega, fun i row hi => ?_, h.o1, by have := h.o2; rw [ll]; omega, fun i z => if i < rows.length then A i z else z = q, fun i z s hi => ?_⟩
  · rw [ll]
    rcases cs hi with ⟨_, hi⟩ | ⟨rfl, rfl⟩
    · obtain ⟨q2, r2, e2, h1, h2, h3, h4⟩ := h.row i row hi
      exact ⟨q2, r2, e2, h1, h2, h3, fun t m => by obtain ⟨x, y, z⟩ := h4 t m; exact ⟨x, by omega, z⟩⟩
    · exact ⟨q, [-1, -1], rfl, .inl rfl, q0, q1, fun t m => by
        have : t = -1 := by simpa using m
        omega⟩
  · show (if i < rows.length then A i z else z = q) ∧ ∀ t, t ∈ s → 0 ≤ t → ¬ (if t.toNat < rows.length then A t.toNat z else z = q) ∧ ∀ y, (if t.toNat < rows.length then A t.toNat y else y = q) → (if i < rows.length then A i y else y = q)
    rcases cs hi with ⟨hil, hi⟩ | ⟨rfl, hi2⟩
    · obtain ⟨a1, a2⟩ := hA i z s hi
      simp only [if_pos hil]
      refine ⟨a1, fun t m t0 => ?_⟩
      have ht : t < rows.length := by
        obtain ⟨q2, r2, e2, _, _, _, h3⟩ := h.row i _ hi
        obtain ⟨rfl, rfl⟩ := List.cons.inj e2
        exact (h3 t m).2.1
      simp only [if_pos (show t.toNat < rows.length by omega)]
      exact a2 t m t0
    · obtain ⟨rfl, rfl⟩ := List.cons.inj hi2
      simp only [if_neg (Nat.lt_irrefl _)]
      refine ⟨trivial, fun t m t0 => ?_⟩
      have : t = -1 := by simpa using m
      omega
theorem set_eq_iff {rows : List (List Int)} {k : Nat} {row row' : List Int} (hk : rows[k]? = some row) : rows = rows.set k row' ↔ row' = row := by
  have hkl : k < rows.length := (List.getElem?_eq_some_iff.mp hk).1
  constructor
  · intro h
    have h2 : (rows.set k row')[k]? = some row' := List.getElem?_set_self hkl
    rw [← h, hk] at h2
    exact (Option.some.inj h2).symm
  · rintro rfl
    refine List.ext_getElem? fun i => ?_
    by_cases hik : k = i
    · subst hik; rw [List.getElem?_set_self hkl, hk]
    · rw [List.getElem?_set_ne hik]
theorem cut_set {α : Type} (l : List α) {k : Nat} (hk : k < l.length) (x : α) : l.take k ++ [x] ++ l.drop (k + 1) = l.set k x := by
  rw [List.set_eq_take_append_cons_drop, if_pos hk, List.append_assoc]
  rfl
/-- a comprehension within one: nothing free in it -/
theorem blkOk_any {N : List Str} {sc0 sc scope : Scope} {own : List (Str × Nat)} (h : blkC N sc0 scope own = true) (hf : (scope.names.all fun y => match y.2 with | NameKind.free => false | _ => true) = true) : BlkOk N sc scope own :=
  let b := blkOk_by h
  have hfree : ∀ y ∈ scope.names, y.2 = NameKind.free → List.lookup y.1 sc.names = some NameKind.cell ∨ List.lookup y.1 sc.names = some NameKind.free := fun y hy e => by
    have := List.all_eq_true.mp hf y hy
    rw [e] at this
    cases this
  ⟨b.kind, b.uniq, b.ix, hfree, b.own⟩
end L2

namespace L2
open PySem PySem.Spec PyProof.Rows
/-! ## operators of an own object and a whole number -/
section
variable {X : Cx} {n : Nat} {CX : CXT} {C f : Addr} {fd : FuncData} {ps : List Str} {sp : Sp} {E : XK} {pins : List (Addr × Obj)} {σ : St} {H : Hp} {s : Shared}
def rOwnI (C : Addr) (sp : Sp) (E : XK) : R2 := fun x y H Q => ∃ a dx fs i, x = .ref a ∧ y = .int i ∧ H a = some (.ins C dx fs) ∧ sp [.ref a, .int i] H Q E
theorem op_ownI {op : Operator} {fo ro rc : Option Value} (F : FnOk X.prog X.w X.K X.mg X.base CX n f fd ps sp) (hr : Room n X.A) (hs : PySem.W.findIn X.K (.ref C) (PySem.dunder op.info.2) = some (some (.ref f))) (hf : PySem.W.isFn X.K (.ref f) = true)
    (hc : PySem.W.selfFirst X.K C = true) (hrr : PySem.W.findIn X.K (.ref C) (dunderR op.info.2) = some rc) (hp : rc = none ∨ ∃ g : Addr, rc = some (.ref g)) (h1 : PySem.W.findIn X.K (.type "int") (PySem.dunder op.info.2) = some fo) (h2 : PySem.W.findIn X.K (.type "int") (dunderR op.info.2) = some ro)
    (hsub : PySem.W.subIn X.K (.type "int") (.ref C) = some false) (hb : Binds X.K fd ps []) (hx : Passes CX X E) : OpR X (binaryOp op) (rOwnI C sp E) := by
  intro pins s σ H x y v u Q I rx ry h
  obtain ⟨a, dx, fs, i, rfl, rfl, ha, h⟩ := h
  cases rx
  obtain ⟨t, rfl⟩ := ry
  obtain ⟨mA, J, _⟩ := ins_get I.hok ha
  obtain ⟨od, J, _⟩ := J.look
  obtain ⟨m, hF⟩ := I.fr
  refine PySem.W.ksp_binT hF I.ok.mod.kin J rfl hc hs hf hrr hp h1 h2 hsub ?_
  exact thn (run_own (vs := [.ref a, .int i]) F ⟨hr, rfl⟩ hb hx I (.cons rfl (.cons ⟨t, rfl⟩ .nil)) h) fun u s' q => back_ep q
end
end L2
namespace PySem
open PySem PySem.Spec PyProof.Rows L2
/-- the whole number's own operator, asked about another thing -/
theorem meets_intBin {name : String} {f : Int → Int → Sem Fin} {i : Int} {t : Tok} {x : Addr} :
    Meets (Builtin.Int.intBinary name f (reflected := false) ⟨[.int i t, .ref x], []⟩) fun A R s => (∃ o, s.heap.get? x = some o ∧ ∀ j u, o.data ≠ .prim (.int j u)) ∧ R (.ok (.ret .notImplemented)) s := by
  intro prog w A R s ⟨⟨o, ho, hd⟩, hR⟩
  unfold Builtin.Int.intBinary
  refine wpAny_bind (wpAny_of_eq (a := ((Value.int i t, [Value.ref x]) : Value × List Value)) rfl ?_)
  refine wpAny_bind (wpAny_of_eq (a := i) rfl ?_)
  refine wpAny_bind (m := asInt? (.ref x)) ?_
  unfold asInt?
  refine wpAny_bind (wpAny_load' ho ?_)
  obtain ⟨oc, odi, data, osl⟩ := o
  have fin : ∀ g : Option Int → Sem Fin, g none = (do rule "int.binary.not-an-int"; ret .notImplemented) → wpAny (model prog w) A.in1 (pure none : Sem (Option Int)) (fun a s' => wpAny (model prog w) A.in1 (g a) (fun fin s' => match fin with
        | Fin.done f => R (Except.ok f) s'
        | Fin.again c' => c'.quiet = true ∧ codeAny (model prog w) A c' R s') (fun e s' => R (Except.error e) s') s') (fun e s' => R (Except.error e) s') s := fun g hg => by
    refine wpAny_pure ?_
    rw [hg]
    exact wpAny_bind (wpAny_rule (wpAny_pure hR))
  cases data with
  | prim v => cases v <;> first | exact fin _ rfl | exact (hd _ _ rfl).elim
  | _ => exact fin _ rfl
end PySem
namespace PySem.W
open PySem PySem.Spec PyProof.Rows L2
section
variable {prog : Program} {w : World} {M : Model} {A : Around} {E : Value → Shared → Prop} {s : Shared} {K : Frag} {x C L f f0 : Addr} {h₀ : Heap} {m : Str → Option Value} {ox : Obj} {od : Option Obj} {nm T : String}
theorem try_int {id : String} {name : Str} {i : Int} {t : Tok} {B : Builtin} {Q : Option Value → Shared → Prop} (slot : Slot "int" name id) (entry : entryFor table id = some B) (args : argsOk id ⟨[.int i t, .ref x], []⟩)
    (me : Meets (B ⟨[.int i t, .ref x], []⟩) fun A R s => (∃ o, s.heap.get? x = some o ∧ ∀ j u, o.data ≠ .prim (.int j u)) ∧ R (.ok (.ret .notImplemented)) s)
    (hx : s.heap.get? x = some ox) (hd : ∀ j u, ox.data ≠ .prim (.int j u)) (q : Q none s) : wpAny (model prog w) A (tryMethod (.int i t) name (.ref x)) Q E s := by
  unfold tryMethod callSpecial?
  refine wpAny_bind ?_
  refine wpAny_bind (wpAny_of_eq (a := some (.builtin id)) (show specialOf (.int i t) name = pure (some (.builtin id)) from slot.lookup) ?_)
  refine wpAny_holding ?_
  refine wpAny_bind (wpAny_of_eq (a := ((Value.builtin id, [Value.int i t]) : Value × List Value)) (slot.bind _) ?_)
  refine wpAny_bind (call_meets slot (typeIs_int s i t) entry args me ⟨⟨ox, hx, hd⟩, ?_⟩)
  exact wpAny_pure (wpAny_pure q)
theorem ksp_binR {op : Operator} {i : Int} {t : Tok} {id : String} {B : Builtin} {Q : Value → Shared → Prop} (F : Fr h₀ L s.heap m) (X₀ : K.In h₀) (I : InstAt s.heap x ox C od) (hd : ∀ j u, ox.data ≠ .prim (.int j u)) (hc : selfFirst K C = true)
    (hs : findIn K (.ref C) (PySem.dunder op.info.2) = some (some (.ref f0))) (hr : findIn K (.ref C) (dunderR op.info.2) = some (some (.ref f))) (hf : isFn K (.ref f) = true)
    (fills : fillsNumberSlot (.type "int") op.info.2 = pure true) (slot : Slot "int" (PySem.dunder op.info.2) id) (entry : entryFor table id = some B) (args : argsOk id ⟨[.int i t, .ref x], []⟩)
    (me : Meets (B ⟨[.int i t, .ref x], []⟩) fun A R s => (∃ o, s.heap.get? x = some o ∧ ∀ j u, o.data ≠ .prim (.int j u)) ∧ R (.ok (.ret .notImplemented)) s)
    (hsub : subIn K (.ref C) (.type "int") = some false)
    (h : wpAny (model prog w) A (call (.ref f) [.ref x, .int i t]) (CmpBack Q) E s) : wpAny (model prog w) A (binaryOp op (.int i t) (.ref x)) Q E s := by
  have X := X₀.keeps F.keep
  obtain ⟨cd, rest, hcd, hm⟩ := ksp_first hc
  rcases hi : op.info with ⟨sym, nm'⟩
  rw [hi] at hs hr fills slot
  dsimp only at hs hr fills slot
  have hxx := I.at_
  have two := ksp_try (b := .int i t) X I hr hf h
  obtain ⟨hh, g, d, tt, os⟩ := s
  have one : ∀ {Q : Option Value → Shared → Prop}, Q none ⟨hh, g, d, tt, os⟩ → wpAny (model prog w) A (tryMethod (.int i t) (PySem.dunder nm') (.ref x)) Q E ⟨hh, g, d, tt, os⟩ := fun q => try_int slot entry args me hxx hd q
  have L1 : Looks (model prog w) hh (typeOf (.int i t)) (.type "int") := Looks.of_pure rfl
  have L2 : Looks (model prog w) hh (typeOf (.ref x)) (.ref C) := I.type
  have L3 : Looks (model prog w) hh (fillsNumberSlot (.type "int") nm') true := Looks.of_pure fills
  have L4 : Looks (model prog w) hh (fillsNumberSlot (.ref C) nm') true := fills_K X hcd hm hs
  have L5 : Looks (model prog w) hh (isSubtype (.ref C) (.type "int")) false := looks_subIn X hsub
  have L7 : Looks (model prog w) hh (numberSlotInPython (.type "int") nm') false := Looks.of_pure rfl
  have hne : (Value.type "int" == Value.ref C) = false := Bool.eq_false_iff.mpr fun q => by cases beq_iff_eq.mp q
  simp only [binaryOp, hi]
  refine wpAny_holding (wpAny_bind ?_)
  unfold binaryOp1
  refine wpAny_bind (L1.at (wpAny_bind (L2.at (wpAny_bind (L3.at ?_)))))
  simp only [hne, Bool.false_eq_true, if_false]
  ksp_lk
  refine one ?_
  ksp_lk
  refine wpAny_mono two (fun r s' hr' => ?_) fun _ _ e => e
  obtain ⟨v, rfl, hq⟩ := hr'
  ksp_lk
  exact hq
end
end PySem.W
namespace L2
open PySem PySem.Spec PyProof.Rows
section
variable {X : Cx} {n : Nat} {CX : CXT} {C f f0 : Addr} {fd : FuncData} {ps : List Str} {sp : Sp} {E : XK} {pins : List (Addr × Obj)} {σ : St} {H : Hp} {s : Shared}
/-- a whole number and an own object: the own reflected method -/
def rIOwn (C : Addr) (sp : Sp) (E : XK) : R2 := fun x y H Q => ∃ a dx fs i, x = .int i ∧ y = .ref a ∧ H a = some (.ins C dx fs) ∧ sp [.ref a, .int i] H Q E
theorem op_IOwn {op : Operator} {id : String} {B : Builtin} (F : FnOk X.prog X.w X.K X.mg X.base CX n f fd ps sp) (hr : Room n X.A) (hs : PySem.W.findIn X.K (.ref C) (PySem.dunder op.info.2) = some (some (.ref f0))) (hrr : PySem.W.findIn X.K (.ref C) (dunderR op.info.2) = some (some (.ref f))) (hf : PySem.W.isFn X.K (.ref f) = true)
    (hc : PySem.W.selfFirst X.K C = true) (fills : fillsNumberSlot (.type "int") op.info.2 = pure true) (slot : Slot "int" (PySem.dunder op.info.2) id) (entry : entryFor table id = some B) (args : ∀ a b : Value, argsOk id ⟨[a, b], []⟩)
    (me : ∀ (i : Int) (t : Tok) (x : Addr), Meets (B ⟨[.int i t, .ref x], []⟩) fun A R s => (∃ o, s.heap.get? x = some o ∧ ∀ j u, o.data ≠ .prim (.int j u)) ∧ R (.ok (.ret .notImplemented)) s)
    (hsub : PySem.W.subIn X.K (.ref C) (.type "int") = some false) (hb : Binds X.K fd ps []) (hx : Passes CX X E) : OpR X (binaryOp op) (rIOwn C sp E) := by
  intro pins s σ H x y v u Q I rx ry h
  obtain ⟨a, dx, fs, i, rfl, rfl, ha, h⟩ := h
  obtain ⟨t, rfl⟩ := rx
  cases ry
  obtain ⟨mA, J, _⟩ := ins_get I.hok ha
  obtain ⟨od, J, _⟩ := J.look
  obtain ⟨m, hF⟩ := I.fr
  refine PySem.W.ksp_binR hF I.ok.mod.kin J (fun j u h => by cases h) hc hs hrr hf fills slot entry (args _ _) (me i t a) hsub ?_
  exact thn (run_own (vs := [.ref a, .int i]) F ⟨hr, rfl⟩ hb hx I (.cons rfl (.cons ⟨t, rfl⟩ .nil)) h) fun u s' q => back_ep q
def rNegOwn (C : Addr) (sp : Sp) (E : XK) : V → Hp → VK → Prop := fun x H Q => ∃ a dx fs, x = .ref a ∧ H a = some (.ins C dx fs) ∧ sp [.ref a] H Q E
theorem un_negOwn (F : FnOk X.prog X.w X.K X.mg X.base CX n f fd ps sp) (hr : Room n X.A) (hs : PySem.W.findIn X.K (.ref C) "__neg__" = some (some (.ref f))) (hf : PySem.W.isFn X.K (.ref f) = true)
    (hb : Binds X.K fd ps []) (hx : Passes CX X E) : UnR X (unaryOp .USub) (rNegOwn C sp E) := by
  intro pins s σ H x v Q I rx h
  obtain ⟨a, dx, fs, rfl, ha, h⟩ := h
  cases rx
  obtain ⟨mA, J, _⟩ := ins_get I.hok ha
  obtain ⟨od, J, _⟩ := J.look
  obtain ⟨m, hF⟩ := I.fr
  exact PySem.W.ksp_neg hF I.ok.mod.kin J hs hf (run_own (vs := [.ref a]) F ⟨hr, rfl⟩ hb hx I (.cons rfl .nil) h)
end
section
variable {X : Cx} {n : Nat} {CX : CXT} {C f f0 : Addr} {fd : FuncData} {ps : List Str} {sp : Sp} {E : XK}
theorem op_addIOwn (F : FnOk X.prog X.w X.K X.mg X.base CX n f fd ps sp) (hr : Room n X.A) (hs : PySem.W.findIn X.K (.ref C) "__add__" = some (some (.ref f0))) (hrr : PySem.W.findIn X.K (.ref C) "__radd__" = some (some (.ref f))) (hf : PySem.W.isFn X.K (.ref f) = true)
    (hc : PySem.W.selfFirst X.K C = true) (hsub : PySem.W.subIn X.K (.ref C) (.type "int") = some false) (hb : Binds X.K fd ps []) (hx : Passes CX X E) : OpR X (binaryOp .Add) (rIOwn C sp E) :=
  op_IOwn F hr hs hrr hf hc PySem.F.fills_int_add PySem.F.slot_int_add PySem.F.entry_int_add PySem.F.args_int_add_2 (fun _ _ _ => meets_intBin) hsub hb hx
theorem op_subIOwn (F : FnOk X.prog X.w X.K X.mg X.base CX n f fd ps sp) (hr : Room n X.A) (hs : PySem.W.findIn X.K (.ref C) "__sub__" = some (some (.ref f0))) (hrr : PySem.W.findIn X.K (.ref C) "__rsub__" = some (some (.ref f))) (hf : PySem.W.isFn X.K (.ref f) = true)
    (hc : PySem.W.selfFirst X.K C = true) (hsub : PySem.W.subIn X.K (.ref C) (.type "int") = some false) (hb : Binds X.K fd ps []) (hx : Passes CX X E) : OpR X (binaryOp .Sub) (rIOwn C sp E) :=
  op_IOwn F hr hs hrr hf hc PySem.F.fills_int_sub PySem.F.slot_int_sub PySem.F.entry_int_sub PySem.F.args_int_sub_2 (fun _ _ _ => meets_intBin) hsub hb hx
theorem op_mulIOwn (F : FnOk X.prog X.w X.K X.mg X.base CX n f fd ps sp) (hr : Room n X.A) (hs : PySem.W.findIn X.K (.ref C) "__mul__" = some (some (.ref f0))) (hrr : PySem.W.findIn X.K (.ref C) "__rmul__" = some (some (.ref f))) (hf : PySem.W.isFn X.K (.ref f) = true)
    (hc : PySem.W.selfFirst X.K C = true) (hsub : PySem.W.subIn X.K (.ref C) (.type "int") = some false) (hb : Binds X.K fd ps []) (hx : Passes CX X E) : OpR X (binaryOp .Mult) (rIOwn C sp E) :=
  op_IOwn F hr hs hrr hf hc PySem.F.fills_int_mul PySem.F.slot_int_mul PySem.F.entry_int_mul PySem.F.args_int_mul_2 (fun _ _ _ => meets_intBin) hsub hb hx
end
end L2
namespace PySem.W
open PySem PySem.Spec PyProof.Rows L2
section
variable {prog : Program} {w : World} {M : Model} {A : Around} {E : Value → Shared → Prop} {s : Shared} {K : Frag} {x C L f f0 : Addr} {h₀ : Heap} {m : Str → Option Value} {ox : Obj} {od : Option Obj}
theorem ifBound_int {id : String} {name : Str} {i : Int} {t : Tok} {Q : Option Value → Shared → Prop} (slot : Slot "int" name id)
    (h : wpAny M A (call (.builtin id) [.int i t, .ref x]) (fun v => Q (some v)) E s) : wpAny M A (callSpecialIfBound? (.int i t) name [.ref x]) Q E s := by
  simp only [callSpecialIfBound?, bindSpecialIfBound?]
  refine wpAny_holding (wpAny_bind (wpAny_bind (wpAny_of_eq (a := some (.builtin id)) (show specialOf (.int i t) name = pure (some (.builtin id)) from slot.lookup) ?_)))
  refine wpAny_bind (wpAny_askSetting (wpAny_ite ?_))
  have fin : wpAny M A (call (.builtin id) ([.int i t] ++ [.ref x]) >>= fun v => pure (some v)) Q E s := wpAny_bind (wpAny_mono h (fun v s' h' => wpAny_pure h') fun _ _ h' => h')
  split
  · exact wpAny_bind (wpAny_of_eq (slot.bind _) (wpAny_pure (by exact fin)))
  · exact wpAny_tryCatch (wpAny_bind (wpAny_of_eq (slot.bind _) (wpAny_pure (by exact fin))))
theorem tryc_int {id : String} {name : Str} {i : Int} {t : Tok} {B : Builtin} {Q : Option Value → Shared → Prop} (slot : Slot "int" name id) (entry : entryFor table id = some B) (args : argsOk id ⟨[.int i t, .ref x], []⟩)
    (me : Meets (B ⟨[.int i t, .ref x], []⟩) fun A R s => (∃ o, s.heap.get? x = some o ∧ ∀ j u, o.data ≠ .prim (.int j u)) ∧ R (.ok (.ret .notImplemented)) s)
    (hx : s.heap.get? x = some ox) (hd : ∀ j u, ox.data ≠ .prim (.int j u)) (q : Q none s) : wpAny (model prog w) A (tryCompare (.int i t) name (.ref x)) Q E s := by
  unfold tryCompare
  refine wpAny_bind (ifBound_int slot ?_)
  refine call_meets slot (typeIs_int s i t) entry args me ⟨⟨ox, hx, hd⟩, ?_⟩
  exact wpAny_pure q
theorem ksp_cmpR {op : CmpOp} {i : Int} {t : Tok} {id : String} {B : Builtin} {Q : Value → Shared → Prop} (hu : A.units < cLine) (F : Fr h₀ L s.heap m) (X₀ : K.In h₀) (I : InstAt s.heap x ox C od) (hd : ∀ j u, ox.data ≠ .prim (.int j u))
    (hr : findIn K (.ref C) (cmpInfo op).2.2 = some (some (.ref f))) (hf : isFn K (.ref f) = true) (slot : Slot "int" (cmpInfo op).2.1 id) (entry : entryFor table id = some B) (args : argsOk id ⟨[.int i t, .ref x], []⟩)
    (me : Meets (B ⟨[.int i t, .ref x], []⟩) fun A R s => (∃ o, s.heap.get? x = some o ∧ ∀ j u, o.data ≠ .prim (.int j u)) ∧ R (.ok (.ret .notImplemented)) s)
    (hsub : subIn K (.ref C) (.type "int") = some false)
    (h : wpAny (model prog w) A (call (.ref f) [.ref x, .int i t]) (CmpBack Q) E s) : wpAny (model prog w) A (richCompare op (.int i t) (.ref x)) Q E s := by
  have X := X₀.keeps F.keep
  have two : wpAny (model prog w) A (tryCompare (.ref x) (cmpInfo op).2.2 (.int i t)) (fun r s' => ∃ v, r = some v ∧ Q v s') E s := by
    unfold tryCompare
    refine wpAny_bind (ifBound_K X I hr hf (wpAny_mono h (fun v s' hv => ?_) fun _ _ e => e))
    cases v <;> first | exact hv.elim | exact wpAny_pure ⟨_, rfl, hv⟩
  have hxx := I.at_
  have hne : (Value.type "int" != Value.ref C) = true := by rfl
  unfold richCompare
  have h1 : oneThing? op (.int i t) (.ref x) = none := by cases op <;> rfl
  simp only [h1]
  refine wpAny_holding (wpAny_bind (wpAny_cRoomFor hu ?_))
  refine wpAny_bind (wpAny_of_eq (a := Value.type "int") rfl ?_)
  refine wpAny_bind (I.type.here ?_)
  rw [if_pos hne]
  refine wpAny_bind ((looks_subIn X hsub).here ?_)
  simp only [Bool.false_eq_true, if_false]
  refine wpAny_bind (tryc_int slot entry args me hxx hd ?_)
  refine wpAny_bind (wpAny_mono two (fun r s' z => ?_) fun _ _ e => e)
  obtain ⟨v, rfl, hq⟩ := z
  exact wpAny_pure hq
end
end PySem.W
namespace L2
open PySem PySem.Spec PyProof.Rows
section
variable {X : Cx} {n : Nat} {CX : CXT} {C f : Addr} {fd : FuncData} {ps : List Str} {sp : Sp} {E : XK}
/-- own object < whole number .. -/
theorem cmp_ownI {op : CmpOp} (F : FnOk X.prog X.w X.K X.mg X.base CX n f fd ps sp) (hr : Room n X.A) (hs : PySem.W.findIn X.K (.ref C) (PySem.cmpInfo op).2.1 = some (some (.ref f))) (hf : PySem.W.isFn X.K (.ref f) = true)
    (hsub : PySem.W.subIn X.K (.type "int") (.ref C) = some false) (hb : Binds X.K fd ps []) (hx : Passes CX X E) : OpR X (richCompare op) (rOwnI C sp E) := by
  intro pins s σ H x y v u Q I rx ry h
  obtain ⟨a, dx, fs, i, rfl, rfl, ha, h⟩ := h
  cases rx
  obtain ⟨t, rfl⟩ := ry
  obtain ⟨mA, J, _⟩ := ins_get I.hok ha
  obtain ⟨od, J, _⟩ := J.look
  obtain ⟨m, hF⟩ := I.fr
  refine PySem.W.cmp_K hr.units0 hF I.ok.mod.kin J (PySem.W.Looks.of_pure rfl) (by unfold PySem.W.notFirst; rw [hsub]; rfl) hs hf ?_
  exact thn (run_own (vs := [.ref a, .int i]) F ⟨hr, rfl⟩ hb hx I (.cons rfl (.cons ⟨t, rfl⟩ .nil)) h) fun u s' q => back_ep q
/-- whole number < own object .., by the own method of the other direction -/
theorem cmp_IOwn {op : CmpOp} {id : String} {B : Builtin} (F : FnOk X.prog X.w X.K X.mg X.base CX n f fd ps sp) (hr : Room n X.A) (hs : PySem.W.findIn X.K (.ref C) (PySem.cmpInfo op).2.2 = some (some (.ref f))) (hf : PySem.W.isFn X.K (.ref f) = true)
    (slot : Slot "int" (PySem.cmpInfo op).2.1 id) (entry : entryFor table id = some B) (args : ∀ a b : Value, argsOk id ⟨[a, b], []⟩)
    (me : ∀ (i : Int) (t : Tok) (x : Addr), Meets (B ⟨[.int i t, .ref x], []⟩) fun A R s => (∃ o, s.heap.get? x = some o ∧ ∀ j u, o.data ≠ .prim (.int j u)) ∧ R (.ok (.ret .notImplemented)) s)
    (hsub : PySem.W.subIn X.K (.ref C) (.type "int") = some false) (hb : Binds X.K fd ps []) (hx : Passes CX X E) : OpR X (richCompare op) (rIOwn C sp E) := by
  intro pins s σ H x y v u Q I rx ry h
  obtain ⟨a, dx, fs, i, rfl, rfl, ha, h⟩ := h
  obtain ⟨t, rfl⟩ := rx
  cases ry
  obtain ⟨mA, J, _⟩ := ins_get I.hok ha
  obtain ⟨od, J, _⟩ := J.look
  obtain ⟨m, hF⟩ := I.fr
  refine PySem.W.ksp_cmpR hr.units0 hF I.ok.mod.kin J (fun j u h => by cases h) hs hf slot entry (args _ _) (me i t a) hsub ?_
  exact thn (run_own (vs := [.ref a, .int i]) F ⟨hr, rfl⟩ hb hx I (.cons rfl (.cons ⟨t, rfl⟩ .nil)) h) fun u s' q => back_ep q
theorem cmp_ltIOwn (F : FnOk X.prog X.w X.K X.mg X.base CX n f fd ps sp) (hr : Room n X.A) (hs : PySem.W.findIn X.K (.ref C) "__gt__" = some (some (.ref f))) (hf : PySem.W.isFn X.K (.ref f) = true) (hsub : PySem.W.subIn X.K (.ref C) (.type "int") = some false) (hb : Binds X.K fd ps []) (hx : Passes CX X E) : OpR X (richCompare .Lt) (rIOwn C sp E) :=
  cmp_IOwn F hr hs hf PySem.F.slot_int_lt PySem.F.entry_int_lt PySem.F.args_int_lt_2 (fun _ _ _ => meets_intBin) hsub hb hx
theorem cmp_leIOwn (F : FnOk X.prog X.w X.K X.mg X.base CX n f fd ps sp) (hr : Room n X.A) (hs : PySem.W.findIn X.K (.ref C) "__ge__" = some (some (.ref f))) (hf : PySem.W.isFn X.K (.ref f) = true) (hsub : PySem.W.subIn X.K (.ref C) (.type "int") = some false) (hb : Binds X.K fd ps []) (hx : Passes CX X E) : OpR X (richCompare .LtE) (rIOwn C sp E) :=
  cmp_IOwn F hr hs hf PySem.F.slot_int_le PySem.F.entry_int_le PySem.F.args_int_le_2 (fun _ _ _ => meets_intBin) hsub hb hx
theorem cmp_gtIOwn (F : FnOk X.prog X.w X.K X.mg X.base CX n f fd ps sp) (hr : Room n X.A) (hs : PySem.W.findIn X.K (.ref C) "__lt__" = some (some (.ref f))) (hf : PySem.W.isFn X.K (.ref f) = true) (hsub : PySem.W.subIn X.K (.ref C) (.type "int") = some false) (hb : Binds X.K fd ps []) (hx : Passes CX X E) : OpR X (richCompare .Gt) (rIOwn C sp E) :=
  cmp_IOwn F hr hs hf PySem.F.slot_int_gt PySem.F.entry_int_gt PySem.F.args_int_gt_2 (fun _ _ _ => meets_intBin) hsub hb hx
theorem cmp_geIOwn (F : FnOk X.prog X.w X.K X.mg X.base CX n f fd ps sp) (hr : Room n X.A) (hs : PySem.W.findIn X.K (.ref C) "__le__" = some (some (.ref f))) (hf : PySem.W.isFn X.K (.ref f) = true) (hsub : PySem.W.subIn X.K (.ref C) (.type "int") = some false) (hb : Binds X.K fd ps []) (hx : Passes CX X E) : OpR X (richCompare .GtE) (rIOwn C sp E) :=
  cmp_IOwn F hr hs hf PySem.F.slot_int_ge PySem.F.entry_int_ge PySem.F.args_int_ge_2 (fun _ _ _ => meets_intBin) hsub hb hx
theorem cmp_eqIOwn (F : FnOk X.prog X.w X.K X.mg X.base CX n f fd ps sp) (hr : Room n X.A) (hs : PySem.W.findIn X.K (.ref C) "__eq__" = some (some (.ref f))) (hf : PySem.W.isFn X.K (.ref f) = true) (hsub : PySem.W.subIn X.K (.ref C) (.type "int") = some false) (hb : Binds X.K fd ps []) (hx : Passes CX X E) : OpR X (richCompare .Eq) (rIOwn C sp E) :=
  cmp_IOwn F hr hs hf PySem.F.slot_int_eq PySem.F.entry_int_eq PySem.F.args_int_eq_2 (fun _ _ _ => meets_intBin) hsub hb hx
end
end L2
namespace L2
open PySem PySem.Spec PyProof.Rows
theorem op_or2 {X : Cx} {f : Value → Value → Sem Value} {r1 r2 : R2} (h1 : OpR X f r1) (h2 : OpR X f r2) : OpR X f (fun x y H Q => r1 x y H Q ∨ r2 x y H Q) :=
  fun pins s σ H x y v u Q I rx ry h => h.elim (h1 pins s σ H x y v u Q I rx ry) (h2 pins s σ H x y v u Q I rx ry)
/-! ratios -/
def RatAt (C : Addr) (H : Hp) (x : Addr) (t b : Int) : Prop := ∃ dx, H x = some (.ins C dx [("top", .int t), ("bottom", .int b)])
def Nrm (t b : Int) : Prop := 0 < b ∧ Nat.gcd t.natAbs b.natAbs = 1
/-- t / b is p / q -/
def IsR (t b p q : Int) : Prop := Nrm t b ∧ t * q = p * b
def RV (C : Addr) (H : Hp) (y : V) (p q : Int) : Prop := (y = .int p ∧ q = 1) ∨ ∃ b, y = .ref b ∧ RatAt C H b p q
theorem RatAt.same {C : Addr} {H H' : Hp} {x : Addr} {t b : Int} (s : Same H H') (h : RatAt C H x t b) : RatAt C H' x t b := let ⟨dx, e⟩ := h; ⟨dx, s _ _ e⟩
theorem RV.same {C : Addr} {H H' : Hp} {y : V} {p q : Int} (s : Same H H') (h : RV C H y p q) : RV C H' y p q := h.elim (fun h => .inl h) fun ⟨b, e, h⟩ => .inr ⟨b, e, h.same s⟩
theorem putR1 {v : V} : putF ("top" : Str) v [] = [(("top" : Str), v)] := by rfl
theorem putR2 {u v : V} : putF ("bottom" : Str) v [(("top" : Str), u)] = [(("top" : Str), u), (("bottom" : Str), v)] := by rfl
theorem nrm_div {p q : Int} (hq : q ≠ 0) {g : Nat} (hg : g = Nat.gcd p.natAbs q.natAbs) : IsR (p / (if 0 < q then (g : Int) else -(g : Int))) (q / (if 0 < q then (g : Int) else -(g : Int))) p q := by
  have g0 : 0 < g := by rw [hg]; exact Nat.gcd_pos_of_pos_right _ (by omega)
  obtain ⟨p', hp'⟩ : (g : Int) ∣ p := Int.ofNat_dvd_left.mpr (by rw [hg]; exact Nat.gcd_dvd_left _ _)
  obtain ⟨q', hq'⟩ : (g : Int) ∣ q := Int.ofNat_dvd_left.mpr (by rw [hg]; exact Nat.gcd_dvd_right _ _)
  have cop : Nat.gcd p'.natAbs q'.natAbs = 1 := by
    have h1 := congrArg Int.natAbs hp'
    have h2 := congrArg Int.natAbs hq'
    rw [Int.natAbs_mul, Int.natAbs_natCast] at h1 h2
    rw [h1, h2, Nat.gcd_mul_left] at hg
    exact Nat.eq_of_mul_eq_mul_left g0 (by rw [← hg, Nat.mul_one])
  have gi : (g : Int) ≠ 0 := by omega
  clear hg
  split
  · rename_i h
    have e1 : p / (g : Int) = p' := by rw [hp', Int.mul_ediv_cancel_left _ gi]
    have e2 : q / (g : Int) = q' := by rw [hq', Int.mul_ediv_cancel_left _ gi]
    rw [e1, e2]
    refine ⟨⟨?_, cop⟩, ?_⟩
    · refine Int.not_le.mp fun z => ?_
      have := Int.mul_nonneg (a := (g : Int)) (b := -q') (by omega) (by omega)
      rw [Int.mul_neg] at this
      omega
    · rw [hp', hq']
      simp [Int.mul_comm, Int.mul_left_comm, Int.mul_assoc]
  · rename_i h
    have e1 : p / -(g : Int) = -p' := by rw [hp', Int.ediv_neg, Int.mul_ediv_cancel_left _ gi]
    have e2 : q / -(g : Int) = -q' := by rw [hq', Int.ediv_neg, Int.mul_ediv_cancel_left _ gi]
    rw [e1, e2]
    refine ⟨⟨?_, by rw [Int.natAbs_neg, Int.natAbs_neg]; exact cop⟩, ?_⟩
    · have : q' < 0 := by
        refine Int.not_le.mp fun z => h ?_
        have h1 : 0 ≤ (g : Int) * q' := Int.mul_nonneg (by omega) z
        omega
      omega
    · rw [hp', hq']
      grind
end L2
namespace L2
open PySem PySem.Spec PyProof.Rows
def Sz (k : Nat) (i : Int) : Prop := i.natAbs < 2 ^ k
theorem Sz.mono {k l : Nat} {i : Int} (h : Sz k i) (e : k ≤ l) : Sz l i := Nat.lt_of_lt_of_le h (Nat.pow_le_pow_right (by decide) e)
theorem Sz.mul {k l : Nat} {i j : Int} (a : Sz k i) (b : Sz l j) : Sz (k + l) (i * j) := by
  unfold Sz at *
  rw [Int.natAbs_mul, Nat.pow_add]
  exact Nat.mul_lt_mul'' a b
theorem Sz.add {k : Nat} {i j : Int} (a : Sz k i) (b : Sz k j) : Sz (k + 1) (i + j) := by
  unfold Sz at *
  have := Int.natAbs_add_le i j
  rw [Nat.pow_succ]
  omega
theorem Sz.neg {k : Nat} {i : Int} (a : Sz k i) : Sz k (-i) := by
  unfold Sz at *
  rwa [Int.natAbs_neg]
theorem Sz.le {k : Nat} {i j : Int} (a : Sz k i) (h : j.natAbs ≤ i.natAbs) : Sz k j := Nat.lt_of_le_of_lt h a
theorem Sz.mulW {k l : Nat} {i j : Int} (a : Sz k i) (b : Sz l j) (h : k + l ≤ 900) : CMulW i j :=
  wide_mul (a := k + 1) (b := l + 1) (a.mono (Nat.le_succ _)) (b.mono (Nat.le_succ _)) (Nat.succ_pos _) (Nat.succ_pos _) (by omega)
theorem isR_int {t b i : Int} (h : IsR t b i 1) : b = 1 ∧ t = i := by
  obtain ⟨⟨h0, hg⟩, e⟩ := h
  rw [Int.mul_one] at e
  have : b.natAbs ∣ t.natAbs := by rw [e, Int.natAbs_mul]; exact Nat.dvd_mul_left _ _
  rw [Nat.gcd_comm, Nat.gcd_eq_left this] at hg
  have hb : b = 1 := by omega
  exact ⟨hb, by rw [e, hb, Int.mul_one]⟩
def spRInit (C : Addr) : Sp := fun vs H Q _ => ∃ (x dx : Addr) (p q : Int), vs = [.ref x, .int p, .int q] ∧ H x = some (.ins C dx []) ∧ 0 < q ∧ Sz 900 q ∧
  ∀ H' t b, RatAt C H' x t b → (∀ c u, c ≠ x → H c = some u → H' c = some u) → IsR t b p q → t.natAbs ≤ p.natAbs → b.natAbs ≤ q.natAbs → Q .non H'
def spRof (C : Addr) : Sp := fun vs H Q _ => ∃ (y : V) (p q : Int), vs = [y] ∧ RV C H y p q ∧ ∀ H' r, Same H H' → RatAt C H' r p q → Q (.ref r) H'
def spRNew (C : Addr) (H : Hp) (p q : Int) (Q : VK) : Prop := ∀ H' r t b, Same H H' → RatAt C H' r t b → IsR t b p q → t.natAbs ≤ p.natAbs → b.natAbs ≤ q.natAbs → Q (.ref r) H'
def spRAdd (C : Addr) : Sp := fun vs H Q _ => ∃ (x : Addr) (y : V) (t1 b1 t2 b2 : Int), vs = [.ref x, y] ∧ RatAt C H x t1 b1 ∧ RV C H y t2 b2 ∧ 0 < b1 ∧ 0 < b2 ∧ Sz 400 t1 ∧ Sz 400 b1 ∧ Sz 400 t2 ∧ Sz 400 b2 ∧ spRNew C H (t1 * b2 + t2 * b1) (b1 * b2) Q
def spRNeg (C : Addr) : Sp := fun vs H Q _ => ∃ (x : Addr) (t1 b1 : Int), vs = [.ref x] ∧ RatAt C H x t1 b1 ∧ 0 < b1 ∧ Sz 400 b1 ∧ spRNew C H (-t1) b1 Q
def spRSub (C : Addr) : Sp := fun vs H Q _ => ∃ (x : Addr) (y : V) (t1 b1 t2 b2 : Int), vs = [.ref x, y] ∧ RatAt C H x t1 b1 ∧ RV C H y t2 b2 ∧ Nrm t1 b1 ∧ Nrm t2 b2 ∧ Sz 400 t1 ∧ Sz 400 b1 ∧ Sz 400 t2 ∧ Sz 400 b2 ∧ spRNew C H (t1 * b2 + -t2 * b1) (b1 * b2) Q
/-- a comparison of fractions -/
def spRCmp (C : Addr) (f : Int → Int → Bool) : Sp := fun vs H Q _ => ∃ (x : Addr) (y : V) (t1 b1 t2 b2 : Int), vs = [.ref x, y] ∧ RatAt C H x t1 b1 ∧ RV C H y t2 b2 ∧ Nrm t1 b1 ∧ Nrm t2 b2 ∧ Sz 400 t1 ∧ Sz 400 b1 ∧ Sz 400 t2 ∧ Sz 400 b2 ∧ ∀ H', Same H H' → Q (.bl (f (t1 * b2) (t2 * b1))) H'
end L2
namespace L2
open PySem PySem.Spec PyProof.Rows
/-- a def with defaults that lets no error out -/
theorem FunD.ok0 {P : Program} {w : World} {K : PySem.W.Frag} {mg : Str → Option Value} {base : Heap} {x qual : Str} {params : Arguments} {body : List Stmt} {scope : Scope} {dvs : List V} {kws : List (Str × V)} {f : Addr} {fd : FuncData} {N ps : List Str} {k : Nat} {sp : Sp} (F : FunD K x qual params body scope dvs kws f fd) (S : FnScope N ps scope) (len : ∀ vs H Q E, sp vs H Q E → vs.length = ps.length)
    (hbody : ∀ (cdv : Value) (A : Around) (outer : List Env) (s : Shared) (H : Hp) (vs : List V) (Q : VK) (E : XK), Room k (A.deeper (envOfC qual scope s.heap.objs.size f cdv)) → sp vs H Q E →
      ∃ t, PSs (cxOf CX0 P w K mg base N qual scope f cdv A outer s H E).nox body t ∧ t { nx := fun _ H' => Q .non H', rt := Q } (start N vs) H) : FnOk P w K mg base CX0 (k + 1) f fd ps sp := by
  obtain ⟨oc, od, dV, kV, doc, pm, an, cdv, ct, osl, rfl, lk, hcd, _, _⟩ := F.ex
  refine fn_of lk hcd S len fun A outer s H vs Q E hr hsp => ?_
  obtain ⟨t, h, q⟩ := hbody cdv A outer s H vs Q E hr hsp
  exact ⟨t, h.nox, q⟩
end L2
namespace L2
open PySem PySem.Spec PyProof.Rows
theorem kit_int {K : PySem.W.Frag} {C : Addr} (h2 : PySem.W.isClsIn K C = true) (h3 : PySem.W.typeIn K (.ref C) = some (.type "type")) : PySem.W.kitOne K (.type "int") (.ref C) = some false := by
  unfold PySem.W.kitOne
  split
  · rename_i h
    cases h
  · show (if ((PySem.W.clsIn K C).isSome && PySem.W.typeIn K (.ref C) == some (.type "type")) = true then PySem.W.subIn K (.type "int") (.ref C) else none) = some false
    rw [show (PySem.W.clsIn K C).isSome = true from h2, h3]
    rfl
end L2

namespace L2
open PySem PySem.Spec PyProof.Rows
section
variable {X : Cx}
/-- sum(t) of a tuple of ints -/
def rSumT (K : PySem.W.Frag) : List V → Hp → VK → Prop := fun vs H Q => ∃ (a : Addr) (ns : List Int), vs = [V.ref a] ∧ SqT K H a (ns.map V.int) ∧ Q (.int ns.sum) H
theorem cr_sumT (hc : X.calm = true) : CallR X (.builtin "sum") (rSumT X.K) := by
  intro pins s σ H vs us Q I r h
  obtain ⟨a, ns, rfl, hs, q⟩ := h
  obtain ⟨its, rv, hl, _⟩ := I.tuple hs
  rw [Vals.ref1 r]
  have hi : IntsAre its ns := rv.ints
  obtain ⟨xs, hx⟩ := hi.allInts.items
  have hn : numsOf its.toArray.toList = ns := by rw [show its.toArray.toList = its from rfl, hi.numsOf]
  have hl' : s.heap.IsTuple a its.toArray := hl
  rw [hx] at hl' hn
  rw [nums_intItems] at hn
  refine PySem.W.ktm_sumG (I.ok.hd hc) hl' fun h' tk t' hk => ?_
  rw [preSum_eq, List.take_of_length_le (by simp), hn]
  exact ⟨.int _, H, I.kept hk, ⟨_, rfl⟩, q⟩
/-- a tuple times 1 -/
theorem tuple_mul1 (l : Addr) (items : Array Value) (n : Nat) (dd : Option Addr) (sl : Array (Option Value)) (u : Tok) (c1 : items.isEmpty = false) :
    Meets (Builtin.«tuple.__mul__» ⟨[.ref l, .int 1 u], []⟩) (fun _ R s => s.heap.get? l = some { cls := .type "tuple", dict := dd, data := .seq items n, slots := sl } ∧ R (.ok (.ret (Value.ref l))) s) :=
  .of_wp fun prog w A R s h => by
    obtain ⟨hp, g, d, tk, os⟩ := s
    obtain ⟨hl, h⟩ := h
    have c0 : (decide ((1 : Int) < -(2 ^ 63)) || decide ((1 : Int) ≥ 2 ^ 63)) = false := by decide
    have c2 : (items.isEmpty || (1 : Int) == 1) = true := by rw [c1]; rfl
    wp_walk using wpAny_loadPart' hl
    exact ⟨_, rfl, h⟩
def rRepT1 (K : PySem.W.Frag) : R2 := fun x y H Q => ∃ l xs, x = .ref l ∧ y = .int 1 ∧ SqT K H l xs ∧ xs ≠ [] ∧ Q (.ref l) H
theorem op_repT1 : OpR X (binaryOp .Mult) (rRepT1 X.K) := by
  intro pins s σ H x y v u Q I rx ry h
  obtain ⟨l, xs, rfl, rfl, hT, hne, q⟩ := h
  cases rx
  obtain ⟨t, rfl⟩ := ry
  obtain ⟨its, r, ⟨⟨cls, dd, data, sl⟩, ho, hc, n, hd⟩, hs⟩ := I.tuple hT
  simp only at hc hd
  subst hc hd
  have hle : its.length = xs.length := r.length.symm
  have hi : its.toArray.isEmpty = false := by
    cases its with
    | nil => exact absurd (List.eq_nil_of_length_eq_zero hle.symm) hne
    | cons a b => rfl
  exact wpAny_binaryOp_repeat_ref (T := "tuple") (U := "int") (by decide) ⟨_, ho, rfl⟩ (fun s' => typeIs_int s' 1 t) noFill_tuple_mul F.fills_int_mul F.slot_int_rmul repeat_tuple F.slot_int_index.lookup
    (call_meets F.slot_int_rmul (typeIs_int s 1 t) F.entry_int_rmul (F.args_int_rmul_2 _ _) (int_rmul_tuple 1 t l its.toArray n dd sl)
      ⟨ho, rfl, ⟨_, ho, rfl⟩, call_meets F.slot_tuple_mul ⟨_, ho, rfl⟩ F.entry_tuple_mul (F.args_tuple_mul_2 _ _) (tuple_mul1 l its.toArray n dd sl t hi) ⟨ho, ⟨.ref l, H, I, rfl, q⟩⟩⟩)
theorem pe_makeN0 {CX : CXT} {k n : Nat} {f C : Addr} {fd : FuncData} {ps ks : List Str} {sp : Sp} {E : St → XK} {x : Str} {p pos : Pos} {kws : List Keyword} {tk : TA} {g : List Value → List Value → List Value} {gV : List V → List V → List V}
    (M : Mk X.K C f) (F : FnOk X.prog X.w X.K X.mg X.base CX k f fd ps sp) (hr : Room (k + 1) X.A) (hg : Gl X x) (hm : X.mg x = some (.ref C)) (hb : KBn X.K fd ps n ks g gV) (hx : ∀ σ, PassesAt CX X σ (E σ))
    (hk : PK X kws tk) (h1 : ((backToKw pos (keywordEach kws X.env)).all fun x => x.fst.isSome) = true := by rfl) (h2 : List.filterMap (fun x => x.fst) (backToKw pos (keywordEach kws X.env)) = ks := by rfl)
    (hdb : (x == ("__debug__" : Str)) = false := by decide)
    (hpl : ((((backTo pos (starEach [] X.env)).any fun x => x.fst) || (backToKw pos (keywordEach kws X.env)).any fun x => x.fst.isNone) = false) := by rfl) :
    PE X (.Call (.Name x p) [] kws pos) (tMakeN C n ks.length sp gV E tNil tk) := by
  refine ⟨fun pins s σ H Q I h => wpAny_Call_Name_kw (ld_glob I hg hm ?_ hdb)⟩
  refine PySem.W.callWith_KW0 (h₀ := X.base) I.ok.mod.kin M.kp h1 (thn (hk.run pos pins s σ H _ I h) fun ws s2 hh => ?_) hpl
  obtain ⟨zs, H2, I2, rz, hn, hz, q⟩ := hh
  refine ⟨I2.kIn, ?_⟩
  rw [h2]
  exact run_makeN M F hr hb (hx σ) I2 .nil rz hn hz q
end
end L2

/-! a piece of code that holds with every sleeping generator shut leaves the sleeping ones as they are -/
namespace Gk
open PySem PyProof.Rows
open Sem (wp)
def sus : GenState → Bool
  | .suspended .. => true
  | _ => false
/-- shut: who wakes it is stuck -/
def stk : GenState → GenState
  | .suspended _ l c p fs cl => .suspended (fun _ => .unsupported "") l c p fs cl
  | x => x
def sel (Y : Array GenState) (i : Nat) (x : GenState) : GenState := match Y[i]? with
  | some y => bif sus y then y else x
  | none => x
def put (Y a : Array GenState) : Array GenState := a.mapIdx (sel Y)
def pt (Y : Array GenState) (s : Shared) : Shared := { s with gens := put Y s.gens }
/-- the generator g was not asleep -/
def Up (Y : Array GenState) (g : Nat) : Prop := ∀ y, Y[g]? = some y → sus y = false
theorem put_get {Y a : Array GenState} {i : Nat} : (put Y a)[i]? = a[i]?.map (sel Y i) := by
  unfold put
  rw [Array.getElem?_mapIdx]
theorem sel_up {Y : Array GenState} {g : Nat} {x : GenState} (h : Up Y g) : sel Y g x = x := by
  unfold sel
  split
  · rename_i y e
    rw [h y e]; rfl
  · rfl
theorem put_size {Y a : Array GenState} : (put Y a).size = a.size := by unfold put; simp
theorem put_set {Y a : Array GenState} {g : Nat} {x : GenState} (h : Up Y g) : put Y (a.setIfInBounds g x) = (put Y a).setIfInBounds g x := by
  refine Array.ext_getElem? fun i => ?_
  rw [put_get, Array.getElem?_setIfInBounds, Array.getElem?_setIfInBounds, put_get, put_size]
  by_cases hg : g = i
  · subst hg
    by_cases hs : g < a.size
    · simp [hs, sel_up h]
    · simp [hs]
  · simp [hg]
theorem put_push {Y a : Array GenState} {x : GenState} (h : Y.size ≤ a.size) : put Y (a.push x) = (put Y a).push x := by
  refine Array.ext_getElem? fun i => ?_
  rw [put_get, Array.getElem?_push, Array.getElem?_push, put_get, put_size]
  by_cases hi : i = a.size
  · subst hi
    have : Up Y a.size := fun y e => by
      have := (Array.getElem?_eq_some_iff.mp e).1
      omega
    simp [sel_up this]
  · simp [hi]
structure GOk (Y a : Array GenState) : Prop where
  size : Y.size ≤ a.size
  st : ∀ (i : Nat) y, Y[i]? = some y → sus y = true → a[i]? = some (stk y)
  ng : ∀ (i : Nat) k l c p fs cl, a[i]? = some (.suspended k l c p fs cl) → Up Y i → splitAtGen fs = none
def FOk (Y : Array GenState) (fs : List Frame) : Prop := ∀ g k l c p, Frame.gen g k l c p ∈ fs → Up Y g
def EOk : End → Prop
  | .ret _ => True
  | .susp _ _ _ _ _ _ fs => splitAtGen fs = none
theorem GOk.set {Y a : Array GenState} {g : Nat} {x : GenState} (o : GOk Y a) (h : Up Y g) (hx : ∀ k l c p fs cl, x = .suspended k l c p fs cl → splitAtGen fs = none) : GOk Y (a.setIfInBounds g x) := by
  refine ⟨by simp only [Array.size_setIfInBounds]; exact o.size, fun i y e hy => ?_, fun i k l c p fs cl e u => ?_⟩
  · have hg : g ≠ i := fun z => by
      subst z
      rw [h y e] at hy
      cases hy
    rw [Array.getElem?_setIfInBounds_ne hg]
    exact o.st i y e hy
  · by_cases hg : g = i
    · subst hg
      by_cases hs : g < a.size
      · rw [Array.getElem?_setIfInBounds] at e
        simp only [if_true, hs] at e
        exact hx _ _ _ _ _ _ (Option.some.inj e)
      · rw [Array.getElem?_setIfInBounds] at e
        simp [hs] at e
    · rw [Array.getElem?_setIfInBounds_ne hg] at e
      exact o.ng i k l c p fs cl e u
theorem GOk.push {Y a : Array GenState} {c : Code} (o : GOk Y a) : GOk Y (a.push (.fresh c)) := by
  refine ⟨by rw [Array.size_push]; exact Nat.le_succ_of_le o.size, fun i y e hy => ?_, fun i k l c' p fs cl e u => ?_⟩
  · have hi : i < Y.size := (Array.getElem?_eq_some_iff.mp e).1
    have hs := o.size
    rw [Array.getElem?_push, if_neg (by omega)]
    exact o.st i y e hy
  · rw [Array.getElem?_push] at e
    split at e
    · cases e
    · exact o.ng i k l c' p fs cl e u
theorem split_app : ∀ {a b : List Frame}, splitAtGen a = none → splitAtGen b = none → splitAtGen (a ++ b) = none
  | [], _, _, h => h
  | .gen .. :: _, _, h, _ => by cases h
  | .ret .. :: r, b, h, h2 => by
    simp only [splitAtGen, Option.map_eq_none_iff, List.cons_append] at h ⊢
    exact split_app h h2
theorem split_mem : ∀ {l pre rest : List Frame} {g : Nat} {k : GenResult → Sem PySem.Fin} {c : Code} {p : Pos}, splitAtGen l = some (pre, (g, k, c, p), rest) → splitAtGen pre = none ∧ (∃ lv, Frame.gen g k lv c p ∈ l) ∧ ∀ f ∈ rest, f ∈ l
  | [], _, _, _, _, _, _, h => by cases h
  | .gen g k lv c p :: r, _, _, _, _, _, _, h => by
    simp only [splitAtGen, Option.some.injEq, Prod.mk.injEq] at h
    obtain ⟨rfl, ⟨rfl, rfl, rfl, rfl⟩, rfl⟩ := h
    exact ⟨rfl, ⟨lv, List.mem_cons_self⟩, fun f hf => List.mem_cons_of_mem _ hf⟩
  | .ret k0 h0 g0 l0 c0 p0 kp :: r, pre, rest, g, k, c, p, h => by
    simp only [splitAtGen, Option.map_eq_some_iff] at h
    obtain ⟨⟨pre', x, rest'⟩, e, z⟩ := h
    simp only [Prod.mk.injEq] at z
    obtain ⟨rfl, rfl, rfl⟩ := z
    obtain ⟨h1, ⟨lv, h2⟩, h3⟩ := split_mem e
    refine ⟨?_, ⟨lv, List.mem_cons_of_mem _ h2⟩, fun f hf => List.mem_cons_of_mem _ (h3 f hf)⟩
    simp only [splitAtGen, h1, Option.map_none]
theorem none_fok {Y : Array GenState} {fs : List Frame} (h : splitAtGen fs = none) : FOk Y fs := fun g k l c p hm => by
  exfalso
  revert h
  induction fs with
  | nil => cases hm
  | cons f r ih =>
    intro h
    cases f with
    | gen => cases h
    | ret =>
      simp only [splitAtGen, Option.map_eq_none_iff] at h
      rcases List.mem_cons.mp hm with z | z
      · cases z
      · exact ih z h
theorem no_unsup {M : Model} {Γ : PySem.Ctx} {p : Pos} {t : Sem PySem.Fin} {fs : List Frame} {s s' : Shared} {e : End} (h : Runs M Γ p t fs s e s') : ∀ m, t ≠ .unsupported m := by
  induction h <;> intro m z <;> first | cases z | skip
  all_goals (rename_i z; exact z _ rfl)
theorem ns {x : GenState} (y : GenState) (hy : sus y = true) (hx : ∀ k l c p fs cl, x ≠ .suspended k l c p fs cl) : stk y ≠ x := fun z => by
  cases y with
  | suspended => exact hx _ _ _ _ _ _ z.symm
  | _ => cases hy
theorem stk_seen (y : GenState) : (stk y).seen = y.seen := by cases y <;> rfl
theorem GOk.look {Y a : Array GenState} {g : Nat} {x : GenState} (o : GOk Y a) (h : a[g]? = some x) : (put Y a)[g]? = some (sel Y g x) ∧ (sel Y g x).seen = x.seen := by
  refine ⟨by rw [put_get, h]; rfl, ?_⟩
  unfold sel
  split
  · rename_i y e
    cases hy : sus y with
    | false => rfl
    | true =>
      rw [o.st g y e hy] at h
      cases h
      exact (stk_seen y).symm
  · rfl
/-- who can be woken was not asleep before -/
theorem GOk.up {Y a : Array GenState} {g : Nat} {x : GenState} (o : GOk Y a) (h : a[g]? = some x) (hx : ∀ y, sus y = true → stk y ≠ x) : Up Y g := fun y e => by
  cases hy : sus y with
  | false => rfl
  | true =>
    rw [o.st g y e hy] at h
    exact absurd (Option.some.inj h) (hx y hy)
theorem GOk.upSel {Y a : Array GenState} {g : Nat} {x : GenState} (h : a[g]? = some x) (u : Up Y g) : (put Y a)[g]? = some x := by
  rw [put_get, h]
  exact congrArg some (sel_up u)
theorem pt_set {Y : Array GenState} {s : Shared} {g : Nat} {x : GenState} (u : Up Y g) : pt Y (s.setGen g x) = (pt Y s).setGen g x := by
  unfold pt Shared.setGen
  rw [put_set u]
theorem susSet {e : End} (h : EOk e) : ∀ k l c p fs cl, e.genState = .suspended k l c p fs cl → splitAtGen fs = none := fun k l c p fs cl z => by
  cases e with
  | ret r => cases z
  | susp => cases z; exact h
theorem runs_put {M : Model} {Γ : PySem.Ctx} {p : Pos} {t : Sem PySem.Fin} {fs : List Frame} {s s' : Shared} {e : End} (h : Runs M Γ p t fs s e s') :
    ∀ Y, GOk Y s.gens → FOk Y fs → Runs M Γ p t fs (pt Y s) e (pt Y s') ∧ GOk Y s'.gens ∧ EOk e := by
  induction h with
  | done => exact fun Y o f => ⟨.done, o, trivial⟩
  | raise => exact fun Y o f => ⟨.raise, o, trivial⟩
  | again hq _ ih => exact fun Y o f => let ⟨a, b, c⟩ := ih Y o f; ⟨.again hq a, b, c⟩
  | rule _ ih => exact fun Y o f => let ⟨a, b, c⟩ := ih Y o f; ⟨.rule a, b, c⟩
  | «at» _ ih => exact fun Y o f => let ⟨a, b, c⟩ := ih Y o f; ⟨.at a, b, c⟩
  | load ho _ ih => exact fun Y o f => let ⟨a, b, c⟩ := ih Y o f; ⟨.load ho a, b, c⟩
  | update ho _ ih => exact fun Y o f => let ⟨a, b, c⟩ := ih Y o f; ⟨.update ho a, b, c⟩
  | loadIfAlive _ ih => exact fun Y o f => let ⟨a, b, c⟩ := ih Y o f; ⟨.loadIfAlive a, b, c⟩
  | point _ ih => exact fun Y o f => let ⟨a, b, c⟩ := ih Y o f; ⟨.point a, b, c⟩
  | alloc _ ih => exact fun Y o f => let ⟨a, b, c⟩ := ih Y o f; ⟨.alloc a, b, c⟩
  | fresh _ ih => exact fun Y o f => let ⟨a, b, c⟩ := ih Y o f; ⟨.fresh a, b, c⟩
  | ask _ ih => exact fun Y o f => let ⟨a, b, c⟩ := ih Y o f; ⟨.ask a, b, c⟩
  | choose hn _ ih => exact fun Y o f => let ⟨a, b, c⟩ := ih Y o f; ⟨.choose hn a, b, c⟩
  | os _ ih => exact fun Y o f => let ⟨a, b, c⟩ := ih Y o f; ⟨.os a, b, c⟩
  | handled _ ih => exact fun Y o f => let ⟨a, b, c⟩ := ih Y o f; ⟨.handled a, b, c⟩
  | genState hg _ ih =>
    intro Y o f
    obtain ⟨a, b, c⟩ := ih Y o f
    obtain ⟨h1, h2⟩ := o.look hg
    exact ⟨.genState (st := _) h1 (by rw [h2]; exact a), b, c⟩
  | stack _ ih => exact fun Y o f => let ⟨a, b, c⟩ := ih Y o f; ⟨.stack a, b, c⟩
  | thread _ ih => exact fun Y o f => let ⟨a, b, c⟩ := ih Y o f; ⟨.thread a, b, c⟩
  | @newGen Γ p k s e s' c _ ih =>
    intro Y o f
    obtain ⟨a, b, d⟩ := ih Y o.push f
    refine ⟨.newGen ?_, b, d⟩
    have e1 : (pt Y s).gens.size = s.gens.size := put_size
    have e2 : pt Y { s with gens := s.gens.push (.fresh c) } = { pt Y s with gens := (pt Y s).gens.push (.fresh c) } := by
      unfold pt
      rw [put_push o.size]
    rw [e1, ← e2]
    exact a
  | call _ _ ih1 ih2 =>
    intro Y o f
    obtain ⟨a, b, _⟩ := ih1 Y o fun _ _ _ _ _ hm => by cases hm
    obtain ⟨a2, b2, c2⟩ := ih2 Y b f
    exact ⟨.call a a2, b2, c2⟩
  | callSusp _ ih =>
    intro Y o f
    obtain ⟨a, b, c⟩ := ih Y o fun _ _ _ _ _ hm => by cases hm
    exact ⟨.callSusp a, b, split_app c rfl⟩
  | yield => exact fun Y o f => ⟨.yield, o, rfl⟩
  | resumeFresh hg _ hq _ ih1 ih2 =>
    intro Y o f
    have u := o.up hg fun y hy => ns y hy (by intro _ _ _ _ _ _ z; cases z)
    obtain ⟨a, b, c⟩ := ih1 Y (o.set u fun _ _ _ _ _ _ z => by cases z) fun _ _ _ _ _ hm => by cases hm
    obtain ⟨a2, b2, c2⟩ := ih2 Y (b.set u (susSet c)) f
    rw [pt_set u] at a a2
    exact ⟨.resumeFresh (GOk.upSel hg u) a hq a2, b2, c2⟩
  | @resumeSuspended Γ p g r l k s k₀ l₀ c₀ p₀ fs cl e₁ s₁ e s' hg hr hq _ ih1 ih2 =>
    intro Y o f
    have u := o.up hg fun y hy z => by
      cases y with
      | suspended k' l' c' p' fs' cl' =>
        simp only [stk, GenState.suspended.injEq] at z
        obtain ⟨z, _⟩ := z
        subst z
        exact no_unsup hr _ rfl
      | _ => cases hy
    have hf := o.ng g _ _ _ _ _ _ hg u
    obtain ⟨a, b, c⟩ := ih1 Y (o.set u fun _ _ _ _ _ _ z => by cases z) (none_fok hf)
    obtain ⟨a2, b2, c2⟩ := ih2 Y (b.set u (susSet c)) f
    rw [pt_set u] at a a2
    exact ⟨.resumeSuspended (GOk.upSel hg u) a hq a2, b2, c2⟩
  | resumeJustStarted hg hv _ ih =>
    intro Y o f
    have u := o.up hg fun y hy => ns y hy (by intro _ _ _ _ _ _ z; cases z)
    obtain ⟨a, b, c⟩ := ih Y o f
    exact ⟨.resumeJustStarted (GOk.upSel hg u) hv a, b, c⟩
  | resumeThrowFresh hg _ ih =>
    intro Y o f
    have u := o.up hg fun y hy => ns y hy (by intro _ _ _ _ _ _ z; cases z)
    obtain ⟨a, b, c⟩ := ih Y (o.set u fun _ _ _ _ _ _ z => by cases z) f
    rw [pt_set u] at a
    exact ⟨.resumeThrowFresh (GOk.upSel hg u) a, b, c⟩
  | resumeRunning hg _ ih =>
    intro Y o f
    have u := o.up hg fun y hy => ns y hy (by intro _ _ _ _ _ _ z; cases z)
    obtain ⟨a, b, c⟩ := ih Y o f
    exact ⟨.resumeRunning (GOk.upSel hg u) a, b, c⟩
  | resumeFinished hg _ ih =>
    intro Y o f
    have u := o.up hg fun y hy => ns y hy (by intro _ _ _ _ _ _ z; cases z)
    obtain ⟨a, b, c⟩ := ih Y o f
    exact ⟨.resumeFinished (GOk.upSel hg u) a, b, c⟩
  | segRet _ _ ih1 ih2 =>
    intro Y o f
    obtain ⟨a, b, _⟩ := ih1 Y o fun _ _ _ _ _ hm => by cases hm
    obtain ⟨a2, b2, c2⟩ := ih2 Y b fun g k l c p hm => f g k l c p (List.mem_cons_of_mem _ hm)
    exact ⟨.segRet a a2, b2, c2⟩
  | segGen _ _ ih1 ih2 =>
    intro Y o f
    have u := f _ _ _ _ _ List.mem_cons_self
    obtain ⟨a, b, _⟩ := ih1 Y o fun _ _ _ _ _ hm => by cases hm
    obtain ⟨a2, b2, c2⟩ := ih2 Y (b.set u fun _ _ _ _ _ _ z => by cases z) fun g k l c p hm => f g k l c p (List.mem_cons_of_mem _ hm)
    rw [pt_set u] at a2
    exact ⟨.segGen a a2, b2, c2⟩
  | segSuspOut hs _ ih =>
    intro Y o f
    obtain ⟨a, b, c⟩ := ih Y o fun _ _ _ _ _ hm => by cases hm
    exact ⟨.segSuspOut hs a, b, split_app c hs⟩
  | segSuspGen hs _ hq _ ih1 ih2 =>
    intro Y o f
    obtain ⟨h1, ⟨lv, h2⟩, h3⟩ := split_mem hs
    have u := f _ _ _ _ _ h2
    obtain ⟨a, b, c⟩ := ih1 Y o fun _ _ _ _ _ hm => by cases hm
    obtain ⟨a2, b2, c2⟩ := ih2 Y (b.set u (susSet (e := .susp _ _ _ _ _ _ _) (split_app c h1))) fun g k l c p hm => f g k l c p (h3 _ hm)
    rw [pt_set u] at a2
    exact ⟨.segSuspGen hs a hq a2, b2, c2⟩

theorem wakes_put {M : Model} {Γ : PySem.Ctx} {p : Pos} {g : Nat} {r : Resume} {s s' : Shared} {res : GenResult} {Y : Array GenState} (o : GOk Y s.gens) (hw : Wakes M Γ p g r s res s') : Wakes M Γ p g r (pt Y s) res (pt Y s') ∧ GOk Y s'.gens := by
  unfold Wakes at hw ⊢
  cases hg : s.gens[g]? with
  | none => rw [hg] at hw; exact hw.elim
  | some x =>
    rw [hg] at hw
    cases x with
    | fresh c =>
      have u := o.up hg fun y hy => ns y hy (by intro _ _ _ _ _ _ z; cases z)
      rw [show (pt Y s).gens[g]? = some (.fresh c) from GOk.upSel hg u]
      cases r with
      | send v =>
        by_cases hv : v = .none
        · subst hv
          obtain ⟨e₁, s₁, hr, hq, hres, rfl⟩ := hw
          obtain ⟨a, b, c⟩ := runs_put hr Y (o.set u fun _ _ _ _ _ _ z => by cases z) fun _ _ _ _ _ hm => by cases hm
          rw [pt_set u] at a
          exact ⟨⟨e₁, _, a, hq, hres, pt_set u⟩, b.set u (susSet c)⟩
        · have hw : res = .justStarted ∧ s' = s := by
            cases v <;> first | exact absurd rfl hv | exact hw
          obtain ⟨h1, rfl⟩ := hw
          refine ⟨?_, o⟩
          cases v <;> first | exact absurd rfl hv | exact ⟨h1, rfl⟩
      | throw x =>
        obtain ⟨h1, rfl⟩ := hw
        exact ⟨⟨h1, pt_set u⟩, o.set u fun _ _ _ _ _ _ z => by cases z⟩
    | suspended k₀ l₀ c₀ p₀ fs cl =>
      obtain ⟨e₁, s₁, hr, hq, hres, rfl⟩ := hw
      have u := o.up hg fun y hy z => by
        cases y with
        | suspended k' l' c' p' fs' cl' =>
          simp only [stk, GenState.suspended.injEq] at z
          obtain ⟨z, _⟩ := z
          subst z
          exact no_unsup hr _ rfl
        | _ => cases hy
      rw [show (pt Y s).gens[g]? = some (.suspended k₀ l₀ c₀ p₀ fs cl) from GOk.upSel hg u]
      obtain ⟨a, b, c⟩ := runs_put hr Y (o.set u fun _ _ _ _ _ _ z => by cases z) (none_fok (o.ng g _ _ _ _ _ _ hg u))
      rw [pt_set u] at a
      exact ⟨⟨e₁, _, a, hq, hres, pt_set u⟩, b.set u (susSet c)⟩
    | running =>
      have u := o.up hg fun y hy => ns y hy (by intro _ _ _ _ _ _ z; cases z)
      rw [show (pt Y s).gens[g]? = some .running from GOk.upSel hg u]
      obtain ⟨h1, rfl⟩ := hw
      exact ⟨⟨h1, rfl⟩, o⟩
    | finished =>
      have u := o.up hg fun y hy => ns y hy (by intro _ _ _ _ _ _ z; cases z)
      rw [show (pt Y s).gens[g]? = some .finished from GOk.upSel hg u]
      obtain ⟨h1, rfl⟩ := hw
      exact ⟨⟨h1, rfl⟩, o⟩
theorem wp_put {α : Type} (M : Model) (Γ : PySem.Ctx) (t : Sem α) : ∀ (Y : Array GenState) (Q : α → Pos → Shared → Prop) (E : Value → Pos → Shared → Prop) (p : Pos) (s : Shared), GOk Y s.gens → wp M Γ t Q E p s →
    wp M Γ t (fun a p' s' => ∃ s2, s' = pt Y s2 ∧ GOk Y s2.gens ∧ Q a p' s2) (fun e p' s' => ∃ s2, s' = pt Y s2 ∧ GOk Y s2.gens ∧ E e p' s2) p (pt Y s) := by
  induction t with
  | pure a => exact fun Y Q E p s o h => ⟨s, rfl, o, h⟩
  | raise e => exact fun Y Q E p s o h => ⟨s, rfl, o, h⟩
  | unsupported _ => exact fun Y Q E p s _ h => h
  | finish _ => exact fun Y Q E p s _ h => h
  | rule _ k ih => exact fun Y Q E p s o h => ih () Y Q E p s o h
  | «at» p' k ih => exact fun Y Q E p s o h => ih () Y Q E p' s o h
  | load a _ k ih => exact fun Y Q E p s o ⟨ob, ho, h⟩ => ⟨ob, ho, ih ob Y Q E p s o h⟩
  | update a _ f k ih => exact fun Y Q E p s o h => ⟨h.1, ih () Y Q E p { s with heap := s.heap.update a f } o h.2⟩
  | loadIfAlive a k ih => exact fun Y Q E p s o h => ih _ Y Q E p s o h
  | point _ k ih => exact fun Y Q E p s o h => ih () Y Q E p s o h
  | register _ _ => exact fun Y Q E p s _ h => h
  | alloc ob k ih => exact fun Y Q E p s o h => ih _ Y Q E p { s with heap := s.heap.push ob } o h
  | fresh k ih => exact fun Y Q E p s o h => ih _ Y Q E p { s with toks := s.toks + 1 } o h
  | ask k ih => exact fun Y Q E p s o h => ih _ Y Q E p s o h
  | choose src m k ih => exact fun Y Q E p s o h => ⟨h.1, ih _ Y Q E p { s with drawn := s.drawn.bump src } o h.2⟩
  | os q _ k ih => exact fun Y Q E p s o h => ih _ Y Q E p { s with os := (Os.step s.os q).1 } o h
  | call c hd _ _ k ih =>
    rintro Y Q E p s o ⟨r, s', hr, h⟩
    obtain ⟨a, b, _⟩ := runs_put hr Y o fun _ _ _ _ _ hm => by cases hm
    exact ⟨r, pt Y s', a, ih r Y Q E p s' b h⟩
  | handled own k ih => exact fun Y Q E p s o h => ih _ Y Q E p s o h
  | genState g k ih =>
    rintro Y Q E p s o ⟨st, hs, h⟩
    obtain ⟨h1, h2⟩ := o.look hs
    exact ⟨_, h1, by rw [h2]; exact ih _ Y Q E p s o h⟩
  | newGen c k ih =>
    intro Y Q E p s o h
    have e1 : (pt Y s).gens.size = s.gens.size := put_size
    have e2 : pt Y { s with gens := s.gens.push (.fresh c) } = { pt Y s with gens := (pt Y s).gens.push (.fresh c) } := by
      unfold pt
      rw [put_push o.size]
    show wp M Γ (k (pt Y s).gens.size) _ _ p { pt Y s with gens := (pt Y s).gens.push (.fresh c) }
    rw [e1, ← e2]
    exact ih _ Y Q E p { s with gens := s.gens.push (.fresh c) } o.push h
  | resume g r _ k ih =>
    rintro Y Q E p s o ⟨res, s', hw, h⟩
    have main := wakes_put o hw
    exact ⟨res, pt Y s', main.1, ih res Y Q E p s' main.2 h⟩
  | yield _ _ _ _ => exact fun Y Q E p s _ h => h
  | stack k ih => exact fun Y Q E p s o h => ih _ Y Q E p s o h
  | fork _ _ => exact fun Y Q E p s _ h => h
  | thread k ih => exact fun Y Q E p s o h => ih _ Y Q E p s o h
  | await _ _ _ _ _ => exact fun Y Q E p s _ h => h
/-! a piece that holds with every sleeper shut -/
def shut (s : Shared) : Shared := { s with gens := s.gens.map stk }
theorem shut_ok (s : Shared) : GOk s.gens (shut s).gens := by
  refine ⟨by unfold shut; simp, fun i y e _ => ?_, fun i k l c p fs cl e u => ?_⟩
  · unfold shut
    rw [Array.getElem?_map, e]
    rfl
  · unfold shut at e
    rw [Array.getElem?_map, Option.map_eq_some_iff] at e
    obtain ⟨y, e1, e2⟩ := e
    have := u y e1
    cases y with
    | suspended => cases this
    | _ => cases e2
theorem pt_shut (s : Shared) : pt s.gens (shut s) = s := by
  have : put s.gens (s.gens.map stk) = s.gens := by
    refine Array.ext_getElem? fun i => ?_
    rw [put_get, Array.getElem?_map]
    cases e : s.gens[i]? with
    | none => rfl
    | some y =>
      show some (sel s.gens i (stk y)) = some y
      unfold sel
      rw [e]
      cases y <;> rfl
  unfold pt shut
  rw [this]
/-- who sleeps in s sleeps in s' as in s -/
def Slp (s s' : Shared) : Prop := ∀ (g : Nat) y, s.gens[g]? = some y → sus y = true → s'.gens[g]? = some y
theorem GOk.slp {s s2 : Shared} (o : GOk s.gens s2.gens) : Slp s (pt s.gens s2) := fun g y e h => by
  show (put s.gens s2.gens)[g]? = _
  rw [put_get, o.st g y e h]
  show some (sel s.gens g (stk y)) = some y
  unfold sel
  rw [e]
  show some (bif sus y then y else _) = _
  rw [h]
  rfl
theorem bare_stk {a : Array GenState} (h : AllBare a) : AllBare (a.map stk) := fun y hy => by
  obtain ⟨x, hx, rfl⟩ := Array.mem_map.mp hy
  have := h x hx
  cases x <;> exact this
theorem bare_put {Y a : Array GenState} (hY : AllBare Y) (h : AllBare a) : AllBare (put Y a) := fun y hy => by
  obtain ⟨i, hi, e⟩ := Array.mem_iff_getElem.mp hy
  have e2 : (put Y a)[i]? = some y := by rw [Array.getElem?_eq_getElem hi, e]
  rw [put_get, Option.map_eq_some_iff] at e2
  obtain ⟨x, e3, e4⟩ := e2
  unfold sel at e4
  split at e4
  · rename_i z ez
    cases hz : sus z with
    | true => rw [hz] at e4; exact e4 ▸ hY z (Array.mem_of_getElem? ez)
    | false => rw [hz] at e4; exact e4 ▸ h x (Array.mem_of_getElem? e3)
  · exact e4 ▸ h x (Array.mem_of_getElem? e3)
theorem wpAny_slp {α : Type} {M : Model} {A : Around} {t : Sem α} {Q : α → Shared → Prop} {E : Value → Shared → Prop} {s : Shared} (h : wpAny M A t Q E (shut s)) :
    wpAny M A t (fun a s' => ∃ s2, s' = pt s.gens s2 ∧ Slp s s' ∧ Q a s2) (fun e s' => ∃ s2, s' = pt s.gens s2 ∧ Slp s s' ∧ E e s2) s := fun Γ p hΓ => by
  have z := wp_put M Γ t s.gens _ _ p (shut s) (shut_ok s) (h Γ p hΓ)
  rw [pt_shut] at z
  refine Sem.wp_mono M Γ t ?_ ?_ p s z
  · rintro a p' s' ⟨s2, rfl, o, q⟩
    exact ⟨s2, rfl, o.slp, q⟩
  · rintro e p' s' ⟨s2, rfl, o, q⟩
    exact ⟨s2, rfl, o.slp, q⟩
end Gk

/-! a generator walked by a for: its body, segment by segment. Each waking starts from the consumer's heap anew -/
namespace Gg
open PySem PySem.Spec PyProof.Rows GenW L2
/-- the generator's data: Hg: what stood at its making and what it leans on; n, It: how many items, and which -/
structure GD where
  P : Program
  w : World
  K : PySem.W.Frag
  mg : Str → Option Value
  base : Heap
  N : List Str
  qual : Str
  scope : Scope
  f : Addr
  cd : Value
  A : Around
  outer : List Env
  L : Addr
  Hg : Hp
  n : Nat
  It : Nat → V → Hp → Prop
abbrev GD.env (G : GD) : Env := envOfC G.qual G.scope G.L G.f G.cd
def trunc (h : Heap) (L : Nat) : Heap := { h with objs := h.objs.extract 0 L }
theorem trunc_get {h : Heap} {L b : Nat} : (trunc h L).get? b = if b < L then h.get? b else none := by
  unfold trunc Heap.get?
  by_cases hb : b < L
  · rw [if_pos hb]
    have : (h.objs.extract 0 L)[b]? = h.objs[b]? := by
      rw [Array.getElem?_extract]
      by_cases h2 : b < h.objs.size
      · rw [if_pos (by omega), Nat.zero_add]
      · rw [if_neg (by omega), Array.getElem?_eq_none (by omega)]
    simp only [this]
  · rw [if_neg hb]
    have : (h.objs.extract 0 L)[b]? = none := by
      rw [Array.getElem?_extract, if_neg (by omega)]
    simp only [this]
theorem trunc_size {h : Heap} {L : Nat} : (trunc h L).objs.size ≤ L := by
  unfold trunc
  simp only [Array.size_extract]
  omega
theorem trunc_lt {h : Heap} {L b : Nat} {o : Obj} (e : (trunc h L).get? b = some o) : b < L ∧ h.get? b = some o := by
  rw [trunc_get] at e
  split at e
  · exact ⟨‹_›, e⟩
  · cases e
theorem trunc_of {h : Heap} {L b : Nat} {o : Obj} (hb : b < L) (e : h.get? b = some o) : (trunc h L).get? b = some o := by
  rw [trunc_get, if_pos hb]; exact e
/-- the heap of a waking: beside Hg all that is younger than the frame stands as it is -/
def Hw (G : GD) (s : Shared) : Hp := fun b => if G.L < b then (s.heap.get? b).map (fun o => .ext fun h => h.get? b = some o) else G.Hg b
def GD.X (G : GD) (s : Shared) : Cx where
  prog := G.P
  w := G.w
  K := G.K
  mg := G.mg
  base := G.base
  A := G.A.deeper G.env
  N := G.N
  s_0 := { s with heap := trunc s.heap G.L }
  H_0 := G.Hg
  env := G.env
  outer := G.outer
  stack := G.env :: G.outer
  ex := []
  fn := fun _ => true
  calm := true
  pn := []
  xe := fun _ _ => False
structure GOk (G : GD) : Prop where
  hd : G.A.handled = none
  kind : G.scope.kind = .function
  nk : ∀ x, G.scope.names.lookup x ≠ some .cell ∧ G.scope.names.lookup x ≠ some .free
  nc : cellsFrom (G.L + 1) G.scope.names [] = []
  bnd : ∀ b o, G.Hg b = some o → b < G.L
  frL : ∀ b ∈ frs G.outer, b < G.L
  bL : G.base.objs.size ≤ G.L
/-- it may be woken -/
structure Wk (G : GD) (oL : Obj) (s : Shared) : Prop where
  env : Env0 G.P G.w G.K G.mg G.base G.A G.outer s G.Hg
  own : s.heap.get? G.L = some oL
def LocL (G : GD) (oL : Obj) (σ : L2.St) : Prop := σ.length = G.N.length ∧ ∃ m, (∀ h : Heap, h.get? G.L = some oL → h.Ns G.L m) ∧
  ∀ (i : Nat) (x : Str) (v : V), G.N[i]? = some x → σ[i]? = some (some v) → Vis G.scope x → ∃ u, RelV v u ∧ G.env.kindOf x = some .local ∧ m x = some u
theorem funs_trunc {h base : Heap} {L : Nat} : ∀ {l : List Env}, (∀ b ∈ frs l, b < L) → h.FunFrames base l → (trunc h L).FunFrames base l
  | [], _, _ => trivial
  | env :: r, hl, ⟨hk, ⟨b, o, hf, hn, ho, hd⟩, hr⟩ => by
    have hb : b < L := hl b (by unfold frs; rw [List.filterMap_cons, hf]; exact List.mem_cons_self)
    refine ⟨hk, ⟨b, o, hf, hn, trunc_of hb ho, hd⟩, funs_trunc (fun c hc => hl c ?_) hr⟩
    unfold frs at hc ⊢
    rw [List.filterMap_cons, hf]
    exact List.mem_cons_of_mem _ hc
theorem hw_lt {G : GD} (ok : GOk G) {s : Shared} {b : Addr} {o : HO} (e : G.Hg b = some o) : Hw G s b = some o := by
  unfold Hw
  rw [if_neg (Nat.not_lt.mpr (Nat.le_of_lt (ok.bnd b o e)))]
  exact e
theorem hw_same {G : GD} (ok : GOk G) {s : Shared} : Same G.Hg (Hw G s) := fun b o e => hw_lt ok e
theorem hw_cases {G : GD} {s : Shared} {b : Addr} {o : HO} (e : Hw G s b = some o) : (G.L < b ∧ ∃ u, s.heap.get? b = some u ∧ o = .ext fun h => h.get? b = some u) ∨ (¬ G.L < b ∧ G.Hg b = some o) := by
  unfold Hw at e
  split at e
  · rw [Option.map_eq_some_iff] at e
    obtain ⟨u, h1, h2⟩ := e
    exact .inl ⟨‹_›, u, h1, h2.symm⟩
  · exact .inr ⟨‹_›, e⟩
theorem wake {G : GD} {oL : Obj} {s : Shared} {σ : L2.St} (ok : GOk G) (W : Wk G oL s) (lc : LocL G oL σ) : Inv (G.X s) [] σ (Hw G s) s := by
  obtain ⟨hl, m, hm, hv⟩ := lc
  have e0 := W.env
  have hL : G.Hg G.L = none := by
    cases e : G.Hg G.L with
    | none => rfl
    | some o => exact absurd (ok.bnd _ _ e) (Nat.lt_irrefl _)
  have nA : ∀ b : Addr, b ∉ (G.X s).ex := fun b z => absurd (show b ∈ ([] : List Addr) from z) (by simp)
  have nC : ∀ (x : Str) (c : Addr), (G.X s).env.cells.lookup x = some c → False := fun x c e => by
    have : (cellsFrom (G.L + 1) G.scope.names []).lookup x = some c := e
    rw [ok.nc] at this
    cases this
  have ld := trunc_size (h := s.heap) (L := G.L)
  refine ⟨⟨e0.mod, ok.kind, rfl, rfl, ld, fun x y c e _ => (nC x c e).elim, fun x hx => ?_, fun x c _ e => (nC x c e).elim, fun _ => ok.hd, Around.frames_deeper e0.frames, .inr ⟨rfl, rfl⟩, fun b z => absurd z (nA b), fun b o e => ?_, ?_, fun b _ _ => nA b, fun b z => absurd z (nA b), funs_trunc ok.frL e0.funs, e0.frf⟩,
    rfl, e0.bare, ?_, ⟨m, hm _ W.own, fun i x v h1 h2 h3 => ?_⟩, fun x c e => (nC x c e).elim, ?_, fun x c e => (nC x c e).elim, fun p hp => absurd (show p ∈ ([] : List (Addr × Obj)) from hp) (by simp), fun b o e => ?_, hl⟩
  · rcases hx with hx | hx
    · exact absurd hx (ok.nk x).1
    · exact absurd hx (ok.nk x).2
  · obtain ⟨h1, h2⟩ := e0.bs b o e
    exact ⟨trunc_of (Nat.lt_of_lt_of_le (Heap.lt_size e) ok.bL) h1, h2⟩
  · show G.base.objs.size ≤ (trunc s.heap G.L).objs.size
    have h1 := e0.bsz
    have h2 := ok.bL
    unfold trunc
    simp only [Array.size_extract]
    omega
  · refine ⟨fun b o q n _ _ => (trunc_lt q).2, fun b o q _ _ _ => ⟨o.slots, (trunc_lt q).2⟩, fun b o q n _ => ?_, fun b o q _ => ⟨o, (trunc_lt q).2⟩, fun b xs e => hw_lt ok e, fun b o u e => hw_lt ok e, fun b ps e => ⟨#[], by rw [hw_lt ok e]; simp⟩⟩
    unfold Hw
    rw [if_neg (Nat.not_lt.mpr (Nat.le_of_lt (trunc_lt q).1))]
    exact n
  · obtain ⟨u, r, k, e⟩ := hv i x v h1 h2 h3
    exact ⟨u, r, .inl ⟨k, e⟩⟩
  · show Hw G s G.L = none
    unfold Hw
    rw [if_neg (Nat.lt_irrefl _)]
    exact hL
  · rcases hw_cases e with ⟨h1, u, h2, rfl⟩ | ⟨_, h2⟩
    · exact ⟨h2, ⟨u, h2⟩, fun h1 h2 a b => b _ a⟩
    · exact (e0.hok b o h2).stay (fun _ _ _ y => y) (fun c y => hw_lt ok y) fun c xs y => hw_lt ok y
/-- a segment has ended -/
structure GEnd (G : GD) (s0 : Shared) (H : Hp) (s : Shared) : Prop where
  os : s.os = s0.os
  bare : AllBare s.gens
  un : Un (frs G.outer) [] G.Hg H (trunc s0.heap G.L) s.heap
  hok : HOk G.P G.w H s.heap
  lim : s.heap.NoLimit
  same : Same (Hw G s0) H
  fr : H G.L = none
theorem gend {G : GD} {s0 s : Shared} {σ : L2.St} {H : Hp} (I : Inv (G.X s0) [] σ H s) (e : Same (Hw G s0) H) : GEnd G s0 H s := ⟨I.os, I.bare, I.base, I.hok, I.nolimit, e, I.free⟩
theorem locL {G : GD} (ok : GOk G) {s0 s : Shared} {σ : L2.St} {H : Hp} (I : Inv (G.X s0) [] σ H s) : ∃ oL, s.heap.get? G.L = some oL ∧ (∀ v, oL.data ≠ .cell v) ∧ LocL G oL σ := by
  obtain ⟨m, ⟨o, es, ep, ho, r⟩, hv⟩ := I.loc
  refine ⟨o, ho, fun v q => (by rw [r.1] at q; cases q), I.len, m, fun h e => ⟨o, es, ep, e, r⟩, fun i x v h1 h2 h3 => ?_⟩
  obtain ⟨u, ru, q⟩ := hv i x v h1 h2 h3
  rcases q with ⟨k, e⟩ | ⟨k, c, e, _⟩
  · exact ⟨u, ru, k, e⟩
  · have : (cellsFrom (G.L + 1) G.scope.names []).lookup x = some c := e
    rw [ok.nc] at this
    cases this
def GY (G : GD) : Protocol := fun m s0 v s kap => ∃ x H j oL, m + 1 + j = G.n ∧ RelV x v ∧ GEnd G s0 H s ∧ G.It j x H ∧ s.heap.get? G.L = some oL ∧ (∀ v, oL.data ≠ .cell v) ∧ ∀ s', Wk G oL s' → kap (.send .none) s'
def GF (G : GD) (m : Nat) (s0 s : Shared) : Prop := m = 0 ∧ ∃ H, GEnd G s0 H s
def GR (G : GD) : GenEnd := fun m s0 r s => ((r = .ok (.ret .none) ∨ r = .ok .next) ∧ GF G m s0 s) ∨ ∃ e, r = .error e ∧ False
/-- what is wanted behind a statement: the items that are out, the heap of the waking, the slots, the heap -/
structure GE where
  nx : Nat → Hp → L2.St → Hp → Prop
  rt : Nat → Hp → VK := fun _ _ _ _ => False
  bk : Nat → Hp → L2.St → Hp → Prop := fun _ _ _ _ => False
  ct : Nat → Hp → L2.St → Hp → Prop := fun _ _ _ _ => False
abbrev GT := GE → Nat → Hp → L2.St → Hp → Prop
def GE.at (D : GE) (j : Nat) (H0 : Hp) : Ends := { nx := D.nx j H0, rt := D.rt j H0, bk := D.bk j H0, ct := D.ct j H0 }
structure GC (G : GD) (A : Around) (c : Code) (fs : List Frame) (gd : Bool → Bool) : Prop where
  over : A.over c fs = G.A.deeper G.env
  split : splitAtGen fs = none
  guard : fs.any Frame.guarded = false
  gd : gd false = false
def GK (G : GD) (A : Around) (c : Code) (fs : List Frame) (Kf : Flow → Sem PySem.Fin) (D : GE) : Prop :=
  ∀ (m j : Nat) (s0 s : Shared) (fl : Flow), m + j = G.n → SP (G.X s0) [] (D.at j (Hw G s0)) fl s → Seg (model G.P G.w) A (GR G) (GY G) m s0 c (Kf fl) fs s
structure GS (G : GD) (st : Stmt) (t : GT) : Prop where
  run : ∀ (A : Around) (m j : Nat) (s0 : Shared) (c : Code) (fs : List Frame) (Kf : Flow → Sem PySem.Fin) (J : Value → Sem PySem.Fin) (gd : Bool → Bool) (lv : List Value → List Value) (s : Shared) (σ : L2.St) (H : Hp) (D : GE),
    GC G A c fs gd → m + j = G.n → GK G A c fs Kf D → Inv (G.X s0) [] σ H s → t D j (Hw G s0) σ H → Seg (model G.P G.w) A (GR G) (GY G) m s0 c ((exec st G.env).wrap Kf J gd lv) fs s
structure GSs (G : GD) (sts : List Stmt) (t : GT) : Prop where
  run : ∀ (A : Around) (m j : Nat) (s0 : Shared) (c : Code) (fs : List Frame) (Kf : Flow → Sem PySem.Fin) (J : Value → Sem PySem.Fin) (gd : Bool → Bool) (lv : List Value → List Value) (s : Shared) (σ : L2.St) (H : Hp) (D : GE),
    GC G A c fs gd → m + j = G.n → GK G A c fs Kf D → Inv (G.X s0) [] σ H s → t D j (Hw G s0) σ H → Seg (model G.P G.w) A (GR G) (GY G) m s0 c ((execs sts G.env).wrap Kf J gd lv) fs s
section
variable {G : GD} {st : Stmt} {rest : List Stmt}
def gPlain (t : TS) : GT := fun D j H0 σ H => t (D.at j H0) σ H
/-- a statement that hands out nothing -/
theorem gs_plain {t : TS} (h : ∀ s0, PS (G.X s0) st t) : GS G st (gPlain t) :=
  ⟨fun A m j s0 c fs Kf J gd lv s σ H D g hn k I ht => by
    refine seg_wrap ?_
    rw [g.over]
    exact wpAny_mono ((h s0).run [] s σ H _ I ht) (fun fl s' hs => k m j s0 s' fl hn hs) fun _ _ z => z.elim⟩
def gNil : GT := fun D j H0 σ H => D.nx j H0 σ H
theorem gss_nil : GSs G [] gNil := ⟨fun A m j s0 c fs Kf J gd lv s σ H D g hn k I ht => seg_execs_nil (k m j s0 s .next hn ⟨σ, H, I, ht⟩)⟩
def gThen (t u : GT) : GT := fun D j H0 σ H => t { D with nx := fun j' H0' σ' H' => u D j' H0' σ' H' } j H0 σ H
theorem gss_cons {t u : GT} (a : GS G st t) (b : GSs G rest u) : GSs G (st :: rest) (gThen t u) :=
  ⟨fun A m j s0 c fs Kf J gd lv s σ H D g hn k I ht => by
    refine seg_execs_cons (a.run A m j s0 c fs _ J gd lv s σ H { D with nx := fun j' H0' σ' H' => u D j' H0' σ' H' } g hn (fun m' j' s0' s' fl hn' hs => ?_) I ht)
    cases fl with
    | next =>
      obtain ⟨σ', H', I', q⟩ := hs
      exact b.run A m' j' s0' c fs Kf J gd lv s' σ' H' D g hn' k I' q
    | brk => exact k m' j' s0' s' .brk hn' hs
    | cont => exact k m' j' s0' s' .cont hn' hs
    | ret u => exact k m' j' s0' s' (.ret u) hn' hs⟩
/-- .. with what is known between them -/
def gCut (t u : GT) : GT := fun D j H0 σ H => ∃ R : Nat → Hp → L2.St → Hp → Prop, t { D with nx := R } j H0 σ H ∧ ∀ j H0 σ H, R j H0 σ H → u D j H0 σ H
theorem gss_cut {t u : GT} (a : GS G st t) (b : GSs G rest u) : GSs G (st :: rest) (gCut t u) :=
  ⟨fun A m j s0 c fs Kf J gd lv s σ H D g hn k I ⟨R, ht, hu⟩ => by
    refine seg_execs_cons (a.run A m j s0 c fs _ J gd lv s σ H { D with nx := R } g hn (fun m' j' s0' s' fl hn' hs => ?_) I ht)
    cases fl with
    | next =>
      obtain ⟨σ', H', I', q⟩ := hs
      exact b.run A m' j' s0' c fs Kf J gd lv s' σ' H' D g hn' k I' (hu _ _ _ _ q)
    | brk => exact k m' j' s0' s' .brk hn' hs
    | cont => exact k m' j' s0' s' .cont hn' hs
    | ret u => exact k m' j' s0' s' (.ret u) hn' hs⟩
def gYield (G : GD) (te : TE) : GT := fun D j H0 σ H => j < G.n ∧ te σ H fun x H1 => G.It j x H1 ∧ Same H0 H1 ∧ ∀ H2, Same G.Hg H2 → D.nx (j + 1) H2 σ H2
theorem gs_yield {e : Expr} {te : TE} {yp pos : Pos} (ok : GOk G) (he : ∀ s0, PE (G.X s0) e te) (hco : G.scope.isCoroutine = false := by rfl) (hi : interactive G.env = false := by rfl) : GS G (.Expr (.Yield (some e) yp) pos) (gYield G te) :=
  ⟨fun A m j s0 c fs Kf J gd lv s σ H D g hn k I ht => by
    obtain ⟨hj, ht⟩ := ht
    obtain ⟨m, rfl⟩ : ∃ l, m = l + 1 := ⟨m - 1, by omega⟩
    refine seg_Expr_Yield g.split g.gd g.guard ?_ hco hi
    rw [g.over]
    refine wpAny_mono ((he s0).run [] s σ H _ I ht) (fun v s' hv => ?_) fun _ _ z => z.elim
    obtain ⟨x, H1, I1, rv, hit, hsm, q⟩ := hv
    obtain ⟨oL, h1, h0, h2⟩ := locL ok I1
    intro kap hk
    exact ⟨x, H1, j, oL, by omega, rv, gend I1 hsm, hit, h1, h0, fun s2 W => hk .none s2 (k m (j + 1) s2 s2 .next (by omega) ⟨σ, Hw G s2, wake ok W h2, q _ (hw_same ok)⟩)⟩⟩
def gWhile (tc : TT) (tb : GT) : GT := fun D j H0 σ H => ∃ W : Nat → Nat → Hp → L2.St → Hp → Prop, (∃ q, W q j H0 σ H) ∧ ∀ q j H0 σ H, W q j H0 σ H →
  tc σ H fun b H1 => if b = true then tb { D with nx := fun j' H0' σ' H' => ∃ q', q' < q ∧ W q' j' H0' σ' H', ct := fun j' H0' σ' H' => ∃ q', q' < q ∧ W q' j' H0' σ' H', bk := D.nx } j H0 σ H1 else D.nx j H0 σ H1
theorem gc_in {A : Around} {c c2 : Code} {fs : List Frame} {gd : Bool → Bool} {kr : Result → Sem PySem.Fin} {l kp : List Value} {p : Pos} (g : GC G A c fs gd) (h1 : c2.weight = 0) (h2 : c2.cUnits = 0) : GC G A c2 (.ret kr none (gd false) l c p kp :: fs) id where
  over := (over_loop h1 h2).trans g.over
  split := by
    show Option.map _ (splitAtGen fs) = none
    rw [g.split] <;> rfl
  guard := by
    show (gd false || fs.any Frame.guarded) = false
    rw [g.gd, g.guard] <;> rfl
  gd := rfl
theorem gs_while {test : Expr} {body : List Stmt} {pos : Pos} {tc : TT} {tb : GT} (hc : ∀ s0, PT (G.X s0) test tc) (hb : GSs G body tb) : GS G (.While test body [] pos) (gWhile tc tb) :=
  ⟨fun A m j s0 c fs Kf J gd lv s σ H D g hn k I ht => by
    obtain ⟨W, ⟨q0, w0⟩, turn⟩ := ht
    refine seg_While fun p => ?_
    have gi := fun (kr : Result → Sem PySem.Fin) kp => gc_in (kr := kr) (c2 := .whileLoop test body [] G.env) (l := lv []) (kp := kp) (p := p) g rfl rfl
    have loop : ∀ (kr : Result → Sem PySem.Fin), (∀ fl, kr (.ok fl) = Kf fl) → ∀ (q m j : Nat) (s0 s : Shared) (σ : L2.St) (H : Hp), m + j = G.n → W q j (Hw G s0) σ H → Inv (G.X s0) [] σ H s →
        Seg (model G.P G.w) A (GR G) (GY G) m s0 (.whileLoop test body [] G.env) ((model G.P G.w).den (.whileLoop test body [] G.env)) (.ret kr none (gd false) (lv []) c p [] :: fs) s := by
      intro kr hkn q
      induction q using Nat.strongRecOn with
      | ind q ih =>
        intro m j s0 s σ H hn w I
        refine seg_whileLoop ?_
        rw [(gi kr []).over]
        refine wpAny_mono ((hc s0).run [] s σ H _ I (turn q j _ σ H w)) (fun b s' hb' => ?_) fun _ _ z => z.elim
        obtain ⟨H2, I2, z⟩ := hb'
        cases b with
        | true =>
          rw [if_pos rfl] at z ⊢
          refine hb.run A m j s0 _ _ _ _ id id s' σ H2 _ (gi kr []) hn (fun m' j' s0' s3 fl hn' hs => ?_) I2 z
          cases fl with
          | next =>
            obtain ⟨σ3, H3, I3, q', hq, w3⟩ := hs
            exact seg_again rfl (ih q' hq m' j' s0' s3 σ3 H3 hn' w3 I3)
          | cont =>
            obtain ⟨σ3, H3, I3, q', hq, w3⟩ := hs
            exact seg_again rfl (ih q' hq m' j' s0' s3 σ3 H3 hn' w3 I3)
          | brk => exact seg_leaf (.ok .next) (by rw [hkn]; exact k m' j' s0' s3 .next hn' hs)
          | ret v => exact seg_leaf (.ok (.ret v)) (by rw [hkn]; exact k m' j' s0' s3 (.ret v) hn' hs)
        | false =>
          rw [if_neg Bool.false_ne_true] at z ⊢
          exact seg_execs_nil (seg_leaf (.ok .next) (by rw [hkn]; exact k m j s0 s' .next hn ⟨σ, H2, I2, z⟩))
    exact loop _ (fun fl => rfl) q0 m j s0 s σ H hn w0 I⟩
end
end Gg

namespace Gg
open PySem PySem.Spec PyProof.Rows GenW L2
open Gk (sus Slp pt shut wpAny_slp)
open Sem (wp)
/-! ### the consumer's heap, cut to what a generator leans on: tuples, instances, their own dicts -/
def cl (H : Hp) : Hp := fun b => match H b with
  | some (.tup xs) => some (.tup xs)
  | some (.ins C dx fs) => some (.ins C dx fs)
  | some (.own x) => match H x with
    | some (.ins _ dx _) => if dx = b then some (.own x) else none
    | _ => none
  | _ => none
theorem cl_sub {H : Hp} {b : Addr} {o : HO} (e : cl H b = some o) : H b = some o := by
  unfold cl at e
  split at e
  · cases e; assumption
  · cases e; assumption
  · split at e
    · split at e
      · cases e; assumption
      · cases e
    · cases e
  · cases e
theorem cl_same {H : Hp} : Same (cl H) H := fun _ _ e => cl_sub e
theorem cl_tup {H : Hp} {b : Addr} {xs : List V} (e : H b = some (.tup xs)) : cl H b = some (.tup xs) := by unfold cl; rw [e]
theorem cl_ins {H : Hp} {b C dx : Addr} {fs : List (Str × V)} (e : H b = some (.ins C dx fs)) : cl H b = some (.ins C dx fs) := by unfold cl; rw [e]
theorem cl_own {H : Hp} {b x C : Addr} {fs : List (Str × V)} (e : H b = some (.own x)) (e2 : H x = some (.ins C b fs)) : cl H b = some (.own x) := by
  unfold cl
  rw [e]
  dsimp only
  rw [e2]
  exact if_pos rfl
theorem cl_cases {H : Hp} {b : Addr} {o : HO} (e : cl H b = some o) : (∃ xs, o = .tup xs) ∨ (∃ C dx fs, o = .ins C dx fs) ∨ ∃ x C fs, o = .own x ∧ H x = some (.ins C b fs) := by
  unfold cl at e
  split at e
  · cases e; exact .inl ⟨_, rfl⟩
  · cases e; exact .inr (.inl ⟨_, _, _, rfl⟩)
  · split at e
    · split at e
      · rename_i q
        cases e
        rw [← q]
        exact .inr (.inr ⟨_, _, _, rfl, ‹_›⟩)
      · cases e
    · cases e
  · cases e
/-- what the generator leans on is held wherever the consumer's heap, which has all of it, is held -/
theorem cl_ok {P : Program} {w : World} {H0 Hc : Hp} {h0 h : Heap} (k0 : HOk P w H0 h0) (s : Same (cl H0) Hc) (k : HOk P w Hc h) : HOk P w (cl H0) h := fun b o e => by
  have z := k b o (s b o e)
  rcases cl_cases e with ⟨xs, rfl⟩ | ⟨C, dx, fs, rfl⟩ | ⟨x, C, fs, rfl, hx⟩
  · exact z
  · obtain ⟨d0, _⟩ := k0 b _ (cl_sub e)
    obtain ⟨_, r⟩ := z
    exact ⟨cl_own d0 (cl_sub e), r⟩
  · exact z
/-! ### waking -/
def later (M : Model) (A : Around) (R : GenEnd) (Y : Protocol) (gs : GenState) : Nat → Resume → Shared → Prop
  | 0 => fun _ _ => False
  | m + 1 => fun r s => gs.Goes M A R Y m r s
theorem resumeS {M : Model} {A : Around} {R : GenEnd} {Y : Protocol} {n : Nat} {E : Value → Shared → Prop} {s : Shared} {g : Nat} {gs : GenState} {r : Resume} {l : List Value} {α : Type} {k : GenResult → Sem α} {Q : α → Shared → Prop}
    (hg : s.gens[g]? = some gs) (hgo : gs.Goes M A R Y n r (s.setGen g .running)) (hR : ∀ x s1, R n (s.setGen g .running) x s1 → wpAny M A (k (End.ret x).result) Q E (s1.setGen g .finished))
    (hY : ∀ v s1 gs', gs'.bare = true → sus gs' = true → Y (n - 1) (s.setGen g .running) v s1 (later M A R Y gs' n) → wpAny M A (k (.yielded v)) Q E (s1.setGen g gs')) :
    wpAny M A (.resume g r l k) Q E s := by
  rintro Γ p hΓ
  rw [Sem.wp_resume]
  have after : ∀ e1 s1, SegEnd R Y n (Seg.next M A R Y n) (s.setGen g .running) e1 s1 → e1.quiet = true ∧ wp M Γ (k e1.result) (fun a _ s' => Q a s') (fun e _ s' => E e s') p (s1.setGen g e1.genState) := fun e1 s1 he => by
    cases e1 with
    | ret x => exact ⟨rfl, hR x s1 he Γ p hΓ⟩
    | susp v g0 l0 k0 c0 p0 fs0 =>
      refine ⟨he.1, hY v s1 _ (End.bare_of_quiet he.1) rfl ?_ Γ p hΓ⟩
      cases n <;> exact he.2
  cases gs with
  | fresh c =>
    obtain ⟨rfl, hs⟩ := hgo
    obtain ⟨e1, s1, hr, he⟩ := seg_iff.mp hs (Γ.wake c p) p rfl (hΓ.wake c p)
    obtain ⟨a1, a2⟩ := after e1 s1 he
    refine ⟨_, _, ?_, a2⟩
    unfold Wakes
    rw [hg]
    exact ⟨e1, s1, hr, a1, rfl, rfl⟩
  | suspended k0 l0 c0 p0 fs0 cl0 =>
    obtain ⟨e1, s1, hr, he⟩ := seg_iff.mp hgo (Γ.wake c0 p) p0 rfl (hΓ.wake c0 p)
    obtain ⟨a1, a2⟩ := after e1 s1 he
    refine ⟨_, _, ?_, a2⟩
    unfold Wakes
    rw [hg]
    exact ⟨e1, s1, hr, a1, rfl, rfl⟩
  | running => exact hgo.elim
  | finished => exact hgo.elim
theorem nextG {G : GD} {A : Around} {s : Shared} {a : Addr} {g n : Nat} {gs : GenState} {Q : Option Value → Shared → Prop} {E : Value → Shared → Prop} (hh : A.handled = none) (hl : s.heap.NoLimit) (hroom : A.depth < recursionLimit) (hg : s.heap.IsGen a g)
    (hgs : s.gens[g]? = some gs) (hgo : gs.Goes (model G.P G.w) A.in1 (GR G) (GY G) n (.send .none) (s.setGen g .running))
    (hY : ∀ v s1 gs', gs'.bare = true → sus gs' = true → GY G (n - 1) (s.setGen g .running) v s1 (later (model G.P G.w) A.in1 (GR G) (GY G) gs' n) → Q (some v) (s1.setGen g gs'))
    (hP : ∀ s1, GF G n (s.setGen g .running) s1 → ∀ h', (∀ b o, s1.heap.get? b = some o → h'.get? b = some o) → Q none { s1.setGen g .finished with heap := h' }) : wpAny (model G.P G.w) A (pyNext (.ref a)) Q E s := by
  unfold pyNext
  refine wpAny_bind (wpAny_attempt (wpAny_callSpecial?_slot (name := Str.ofString "__next__") hg.typeIs slot_gen_next (wpAny_call_entry slot_gen_next hg.typeIs entry_gen_next ?_ (args_gen_next _))))
  show wpAny (model G.P G.w) A.in1 (Builtin.Generator.genWake (.ref a) (.send .none)) _ _ s
  unfold Builtin.Generator.genWake
  refine wpAny_bind (wpAny_holding (wpAny_genNumber hg (wpAny_bind (wpAny_genState hgs ?_))))
  cases gs with
  | running => exact hgo.elim
  | finished => exact hgo.elim
  | _ =>
    refine wpAny_bind (wpAny_roomToWake hl hroom ?_)
    show wpAny (model G.P G.w) A.in1 (.resume g (.send .none) [] _) _ _ s
    refine resumeS hgs hgo (fun x s1 hx => ?_) fun v s1 gs' hb hu hv => wpAny_pure ⟨v, rfl, wpAny_pure (hY v s1 gs' hb hu hv)⟩
    rcases hx with ⟨hr, hp⟩ | ⟨_, _, z⟩
    · have hres : End.result (.ret x) = .returned .none := by rcases hr with hr | hr <;> rw [hr] <;> rfl
      simp only [hres]
      show wpAny (model G.P G.w) A.in1 (newExc (.type "StopIteration") [] >>= _) _ _ _
      refine wpAny_bind ?_
      simp only [newExc, newTuple]
      refine wpAny_bind (wpAny_newObj_type ?_ (by size_fits))
      refine wpAny_bind (m := firstArgMember _ _) (wpAny_of_eq (a := Value.none) (by first | rfl | (simp only [firstArgMember]; rfl)) ?_)
      refine wpAny_newObj_type ?_ (by size_fits)
      simp only [raiseNew]
      refine wpAny_bind (wpAny_bind (wpAny_handled ?_))
      first | rw [show A.in1.handled = none from hh] | rw [hh]
      refine wpAny_throw (wpAny_bind (wpAny_isInstance (T := "StopIteration") (b := true) ⟨_, Heap.get?_push_size _ rfl, rfl⟩ isSubtype_stop ?_))
      exact wpAny_pure (hP s1 hp _ fun b o hb => Heap.get?_push_of_some _ (Heap.get?_push_of_some _ hb))
    · exact z.elim
/-! ### back at the consumer -/
def mh (h : Heap) (Hc H1 : Hp) : Hp := fun b => match Hc b with
  | some o => some o
  | none => match h.get? b with
    | none => H1 b
    | some _ => none
theorem mh_some {h : Heap} {Hc H1 : Hp} {b : Addr} {o : HO} (e : Hc b = some o) : mh h Hc H1 b = some o := by unfold mh; rw [e]
theorem mh_same {h : Heap} {Hc H1 : Hp} : Same Hc (mh h Hc H1) := fun _ _ e => mh_some e
theorem mh_new {h : Heap} {Hc H1 : Hp} {b : Addr} (e : Hc b = none) (hb : h.get? b = none) : mh h Hc H1 b = H1 b := by unfold mh; rw [e]; dsimp only; rw [hb]
theorem mh_old {h : Heap} {Hc H1 : Hp} {b : Addr} {u : Obj} (e : Hc b = none) (hb : h.get? b = some u) : mh h Hc H1 b = none := by unfold mh; rw [e]; dsimp only; rw [hb]
/-- the same but for what is told of any thing -/
def ExtS (H H' : Hp) : Prop := ∀ b o, H b = some o → (∀ φ, o ≠ .ext φ) → H' b = some o
theorem alive {P : Program} {w : World} {H : Hp} {h : Heap} {a : Addr} {o : HO} (x : ObjOk P w H h a o) : ∃ u, h.get? a = some u := by
  cases o with
  | lst xs => obtain ⟨_, _, _, _, e⟩ := x; exact ⟨_, e⟩
  | tup xs => obtain ⟨_, _, _, _, e, _⟩ := x; exact ⟨_, e⟩
  | dK kvs => obtain ⟨_, _, _, _, o, _, _, e, _⟩ := x; exact ⟨_, e⟩
  | dT kvs => obtain ⟨_, _, _, _, o, _, _, e, _⟩ := x; exact ⟨_, e⟩
  | set S n => obtain ⟨o, _, _, _, e, _⟩ := x; exact ⟨_, e⟩
  | ins C dx fs => obtain ⟨_, _, _, e, _⟩ := x; exact ⟨_, e⟩
  | own y => exact x
  | xd fs => obtain ⟨_, ⟨_, _, _, e, _⟩, _⟩ := x; exact ⟨_, e⟩
  | rng lo hi => obtain ⟨_, _, _, e⟩ := x; exact ⟨_, e⟩
  | frz ob u => obtain ⟨e, _⟩ := x; exact ⟨_, e⟩
  | tbl ps => exact ⟨_, x⟩
  | met f y => exact ⟨_, x⟩
  | ext φ => exact x.2.1
section
variable {X : Cx} {pins : List (Addr × Obj)} {σ : L2.St} {Hc H0 H1 : Hp} {G : GD} {s s1 : Shared}
/-- the consumer's own things, and the generator's -/
structure Fit (X : Cx) (pins : List (Addr × Obj)) (G : GD) (H0 : Hp) : Prop where
  P : G.P = X.prog
  w : G.w = X.w
  K : G.K = X.K
  mg : G.mg = X.mg
  base : G.base = X.base
  outer : G.outer = X.stack
  Hg : G.Hg = cl H0
  k0 : ∃ h0, HOk X.prog X.w H0 h0
  ok : GOk G
  sz : G.L ∈ X.ex ∨ X.s_0.heap.objs.size ≤ G.L
  loc : G.L ≠ X.env.locals
  cell : ∀ x c, X.env.cells.lookup x = some c → c ≠ G.L
  pin : ∀ p ∈ X.pn ++ pins, p.1 ≠ G.L
theorem merge (F : Fit X pins G H0) (I : Inv X pins σ Hc s) (sm : Same (cl H0) Hc) (hL : Hc G.L = none) (e : GEnd G s H1 s1) : Inv X pins σ (mh s.heap Hc H1) s1 ∧ ExtS H1 (mh s.heap Hc H1) ∧ ∀ b u, s.heap.get? b = some u → G.L < b → s1.heap.get? b = some u := by
  obtain ⟨e1, e2, un, hok, _, sw, fL⟩ := e
  obtain ⟨h0, k0⟩ := F.k0
  have hg := F.Hg
  rw [hg, F.outer] at un
  rw [F.P, F.w] at hok
  have frl : ∀ b ∈ frs X.stack, b < G.L := fun b hb => F.ok.frL b (by rw [F.outer]; exact hb)
  have above : ∀ b u, s.heap.get? b = some u → G.L < b → s1.heap.get? b = some u := fun b u hu hb => by
    have h2 : Hw G s b = some (.ext fun h => h.get? b = some u) := by unfold Hw; rw [if_pos hb, hu] <;> rfl
    exact (hok b _ (sw b _ h2)).1
  have kept : ∀ b u, s.heap.get? b = some u → cl H0 b = none → b ≠ G.L → b ∉ frs X.stack → s1.heap.get? b = some u := fun b u hu hn hb hf => by
    by_cases h1 : G.L < b
    · exact above b u hu h1
    · exact un.keep b u (trunc_of (Nat.lt_of_le_of_ne (Nat.not_lt.mp h1) hb) hu) hn hf (by simp)
  have cln : ∀ b, Hc b = none → cl H0 b = none := fun b hn => by
    cases h : cl H0 b with
    | none => rfl
    | some o => rw [sm b o h] at hn; cases hn
  have fr : ∀ b o, Hc b = some o → b ∉ frs X.stack := fun b o q z => by rw [I.stkFree b z] at q; cases q
  have neL : ∀ b o, Hc b = some o → b ≠ G.L := fun b o q z => by rw [z, hL] at q; cases q
  have ext : ExtS H1 (mh s.heap Hc H1) := fun b o q ne => by
    cases hc : Hc b with
    | some o' =>
      obtain ⟨u, hu⟩ := alive (I.hok b o' hc)
      rw [mh_some hc, ← hc]
      by_cases h1 : G.L < b
      · have h2 : Hw G s b = some (.ext fun h => h.get? b = some u) := by unfold Hw; rw [if_pos h1, hu] <;> rfl
        rw [sw b _ h2] at q
        cases q
        exact absurd rfl (ne _)
      · cases h2 : cl H0 b with
        | some o2 =>
          rw [sw b o2 (hw_lt F.ok (by rw [hg]; exact h2))] at q
          cases q
          exact sm b o h2
        | none =>
          rw [un.free b u (trunc_of (Nat.lt_of_le_of_ne (Nat.not_lt.mp h1) (neL b o' hc)) hu) h2 (by simp)] at q
          cases q
    | none =>
      cases hu : s.heap.get? b with
      | none => rw [mh_new hc hu]; exact q
      | some u =>
        by_cases h1 : G.L < b
        · have h2 : Hw G s b = some (.ext fun h => h.get? b = some u) := by unfold Hw; rw [if_pos h1, hu] <;> rfl
          rw [sw b _ h2] at q
          cases q
          exact absurd rfl (ne _)
        · by_cases h3 : b = G.L
          · rw [h3, fL] at q
            cases q
          · rw [un.free b u (trunc_of (Nat.lt_of_le_of_ne (Nat.not_lt.mp h1) h3) hu) (cln b hc) (by simp)] at q
            cases q
  have up : ∀ {b : Addr} {o : HO}, ObjOk X.prog X.w H1 s1.heap b o → ObjOk X.prog X.w (mh s.heap Hc H1) s1.heap b o := fun x => x.stay (fun _ _ _ y => y) (fun c y => ext c _ y fun φ z => by cases z) fun c xs y => ext c _ y fun φ z => by cases z
  have hok2 : HOk X.prog X.w (mh s.heap Hc H1) s1.heap := fun b o q => by
    cases hc : Hc b with
    | some o' =>
      rw [mh_some hc] at q
      cases q
      cases h2 : cl H0 b with
      | some o2 =>
        have := sm b o2 h2
        rw [hc] at this
        cases this
        exact up (hok b o (sw b o (hw_lt F.ok (by rw [hg]; exact h2))))
      | none =>
        refine (I.hok b o hc).stay (fun c u hcc hu => ?_) (fun c y => mh_some y) fun c xs y => mh_some y
        rcases hcc with rfl | hcc
        · exact kept c u hu h2 (neL c o hc) (fr c o hc)
        · refine kept c u hu ?_ (neL c _ hcc) (fr c _ hcc)
          cases h3 : cl H0 c with
          | none => rfl
          | some o3 =>
            have := sm c o3 h3
            rw [hcc] at this
            cases this
            rcases cl_cases h3 with ⟨xs, z⟩ | ⟨C, dx, fs, z⟩ | ⟨x, C, fs, z, hx⟩
            · cases z
            · cases z
            · cases z
              rw [cl_ins hx] at h2
              cases h2
    | none =>
      cases hu : s.heap.get? b with
      | none => rw [mh_new hc hu] at q; exact up (hok b o q)
      | some u => rw [mh_old hc hu] at q; cases q
  refine ⟨I.call' (ch := [G.L]) e1 ⟨fun b u q n hf hx => kept b u q (cln b n) (fun z => hx (by rw [z]; simp)) hf, fun b u q n hf hx => un.slot b u (trunc_of (frl b hf) q) (cln b n) hf (by simp), fun b u q n hx => mh_old n q, fun b u q hx => ?_,
    fun b xs q => mh_some q, fun b o u q => mh_some q, fun b ps q => ⟨#[], by rw [mh_some q]; simp⟩⟩ hok2 e2 (fun b hb => ?_), ext, above⟩
  · by_cases h1 : G.L < b
    · exact ⟨u, above b u q h1⟩
    · exact un.there b u (trunc_of (Nat.lt_of_le_of_ne (Nat.not_lt.mp h1) (fun z => hx (by rw [z]; simp))) q) (by simp)
  · rw [List.mem_singleton.mp hb]
    exact ⟨F.sz, F.loc, F.cell, F.pin⟩
end
end Gg

namespace Gg
open PySem PySem.Spec PyProof.Rows GenW L2
open Gk (sus Slp pt shut wpAny_slp)
/-! ### a generator def is called: the generator, not yet begun -/
def gdOf (P : Program) (w : World) (K : PySem.W.Frag) (mg : Str → Option Value) (base : Heap) (N : List Str) (qual : Str) (scope : Scope) (f : Addr) (cd : Value) (outer : List Env) (L : Addr) (Hg : Hp) (n : Nat) (It : Nat → V → Hp → Prop) (A : Around) : GD :=
  { P := P, w := w, K := K, mg := mg, base := base, N := N, qual := qual, scope := scope, f := f, cd := cd, A := A, outer := outer, L := L, Hg := Hg, n := n, It := It }
/-- what a generator def promises: the arguments, what stands there, how many items, which -/
abbrev SpF := List V → Hp → Nat → (Nat → V → Hp → Prop) → Prop
def Mono (It : Nat → V → Hp → Prop) : Prop := ∀ j x H H', It j x H → ExtS H H' → It j x H'
structure MadeF (GA : Around → GD) (k : Nat) (s : Shared) (u : Value) (s' : Shared) : Prop where
  ex : ∃ (a : Addr) (g : Nat) (c : Code) (oL go : Obj), u = .ref a ∧ s.heap.objs.size < a ∧ s'.heap.get? a = some go ∧ (∀ h : Heap, h.get? a = some go → h.IsGen a g) ∧ (∀ v, go.data ≠ .cell v) ∧ s'.gens[g]? = some (.fresh c) ∧ s'.os = s.os ∧ AllBare s'.gens ∧
    (∀ b o, s.heap.get? b = some o → s'.heap.get? b = some o) ∧ s'.heap.get? s.heap.objs.size = some oL ∧ (∀ v, oL.data ≠ .cell v) ∧
    (∀ A : Around, A.handled = none → GOk (GA A)) ∧ ∀ A s2, Room k A → A.handled = none → Wk (GA A) oL s2 → Seg (model (GA A).P (GA A).w) A (GR (GA A)) (GY (GA A)) (GA A).n s2 c ((model (GA A).P (GA A).w).den c) [] s2
structure GFnF (P : Program) (w : World) (K : PySem.W.Frag) (mg : Str → Option Value) (base : Heap) (k : Nat) (f : Addr) (fd : FuncData) (ps : List Str) (sp : SpF) : Prop where
  len : ∀ vs H n It, sp vs H n It → vs.length = ps.length
  mono : ∀ vs H n It, sp vs H n It → Mono It
  run : ∃ (N : List Str) (qual : Str) (scope : Scope) (cd : Value), ∀ (A : Around) (outer : List Env) (s : Shared) (H : Hp) (args : Args) (us : List Value) (vs : List V) (n : Nat) (It : Nat → V → Hp → Prop), Room k A → Env0 P w K mg base A outer s H → BindsTo s fd args (ps.zip us) → Vals vs us → sp vs (cl H) n It →
    codeAny (model P w) A (.call (.ref f) args) (fun r s' => match r with | .ok (.ret u) => MadeF (gdOf P w K mg base N qual scope f cd outer s.heap.objs.size (cl H) n It) k s u s' | _ => False) s
theorem nk_of {scope : Scope} (h : (scope.names.all fun y => !decide (y.2 = .cell) && !decide (y.2 = .free)) = true) : ∀ x, scope.names.lookup x ≠ some .cell ∧ scope.names.lookup x ≠ some .free := fun x => by
  rw [List.all_eq_true] at h
  refine ⟨fun z => ?_, fun z => ?_⟩
  · have := h _ (PySem.mem_of_lookup z)
    simp at this
  · have := h _ (PySem.mem_of_lookup z)
    simp at this
/-- THE RULE: a generator def by its body -/
theorem gfnF_of {P : Program} {w : World} {K : PySem.W.Frag} {mg : Str → Option Value} {base : Heap} {k : Nat} {f : Addr} {x qual : Str} {params : Arguments} {body : List Stmt} {scope : Scope} {dvs : List V} {kws : List (Str × V)} {fd : FuncData} {N ps : List Str} {sp : SpF}
    (F : FunD K x qual params body scope dvs kws f fd) (S : GScope N ps scope) (hnk : (scope.names.all fun y => !decide (y.2 = .cell) && !decide (y.2 = .free)) = true) (hnc : ∀ L, cellsFrom L scope.names [] = [])
    (len : ∀ vs H n It, sp vs H n It → vs.length = ps.length) (mono : ∀ vs H n It, sp vs H n It → Mono It)
    (hbody : ∀ (cd : Value) (outer : List Env) (L : Addr) (Hg : Hp) (n : Nat) (It : Nat → V → Hp → Prop) (A : Around) (vs : List V), GOk (gdOf P w K mg base N qual scope f cd outer L Hg n It A) → Room k (A.deeper (envOfC qual scope L f cd)) → sp vs Hg n It →
      ∃ t, GSs (gdOf P w K mg base N qual scope f cd outer L Hg n It A) body t ∧ ∀ H, Same Hg H → t { nx := fun j H0 _ H => j = n ∧ Same H0 H, rt := fun j H0 v H => v = .non ∧ j = n ∧ Same H0 H } 0 H (start N vs) H) : GFnF P w K mg base (k + 1) f fd ps sp := by
  obtain ⟨oc, od, dV, kV, doc, pm, an, cdv, ct, osl, rfl, lk, hcd, _, _⟩ := F.ex
  refine ⟨len, mono, N, qual, scope, cdv, fun A outer s H args us vs n It hr e0 hb r hsp => ?_⟩
  have hl := len _ _ _ _ hsp
  have KX : K.In s.heap := e0.mod.kin.keeps fun b o e => (e0.bs b o e).1
  have lim : s.heap.NoLimit := e0.mod.nolimit.keeps fun b o e => (e0.bs b o e).1
  have hkind : ∀ y ∈ ps.zip us, scope.names.lookup y.1 = some .local ∨ (scope.names.lookup y.1 = some .cell ∧ ((cellsFrom (s.heap.objs.size + 1) scope.names []).lookup y.1).isSome = true) := fun y hy =>
    (S.par y.1 (List.of_mem_zip hy).1).imp id fun q => ⟨q, PySem.W.cellsFrom_some _ _ _ (.inl q)⟩
  refine codeAny_call_generator hr.depth (KX _ _ lk) rfl S.co S.gen rfl (PySem.W.codeRec_of KX hcd) (hb _ _ _ _ ?_)
  refine wpAny_newFunctionEnv_cells S.kind hkind fun env he s1 xx => ?_
  subst he
  refine ⟨lim.keeps xx.toInCall.keep, ?_⟩
  obtain ⟨h1, tk, es1, hk1⟩ := xx.done
  have os1 : s1.os = s.os := by rw [es1]
  have gen1 : s1.gens = s.gens := by rw [es1]
  have lt1 : s.heap.objs.size < s1.heap.objs.size := xx.toInCall.ns.lt
  have I1 : Inv (gcxOf P w K mg base N qual scope f cdv A outer s H (fun _ _ _ => False) []) [] (start N vs) H s1 := inv_startG S hr.hd e0 hl r xx
  obtain ⟨m, ⟨oL, es, ep, hoL, hdL, rL⟩, hv⟩ := I1.loc
  have hoL : s1.heap.get? s.heap.objs.size = some oL := hoL
  have lc : ∀ A2 : Around, LocL (gdOf P w K mg base N qual scope f cdv outer s.heap.objs.size (cl H) n It A2) oL (start N vs) := fun A2 => by
    refine ⟨I1.len, m, fun h e => ⟨oL, es, ep, e, hdL, rL⟩, fun i y v h1 h2 h3 => ?_⟩
    obtain ⟨u, ru, q⟩ := hv i y v h1 h2 h3
    rcases q with ⟨kk, e⟩ | ⟨_, c, e, _⟩
    · exact ⟨u, ru, kk, e⟩
    · have : (cellsFrom (s.heap.objs.size + 1) scope.names []).lookup y = some c := e
      rw [hnc] at this
      cases this
  have hok1 : ∀ {A' : Around}, A'.handled = none → GOk (gdOf P w K mg base N qual scope f cdv outer s.heap.objs.size (cl H) n It A') := fun {A'} hh =>
    ⟨hh, S.kind, nk_of hnk, hnc _, fun b o e => (e0.hok b o (cl_sub e)).lt, fun b hb => by obtain ⟨_, o, ho, _⟩ := e0.funs.mem hb; exact Heap.lt_size ho, e0.bsz⟩
  have main : ∀ (go : Obj) (nm qn : Value) (tk2 : Nat), go.cls = .type "generator" → go.data = .fields #[.int s1.gens.size 0, nm, qn] → go.slots = #[] → (∀ h : Heap, (h.push go).get? h.objs.size = some go) →
      MadeF (gdOf P w K mg base N qual scope f cdv outer s.heap.objs.size (cl H) n It) (k + 1) s (.ref s1.heap.objs.size) { s1 with gens := s1.gens.push (.fresh (.func body (envOfC qual scope s.heap.objs.size f cdv))), toks := tk2, heap := s1.heap.push go } := by
    intro go nm qn tk2 hgc hgd hgs hgp
    refine ⟨⟨s1.heap.objs.size, s1.gens.size, _, oL, go, rfl, lt1, hgp _, fun h e => ⟨go, nm, qn, e, hgc, hgd, hgs⟩, fun v q => (by rw [hgd] at q; cases q), Array.getElem?_push_size .., os1, AllBare.push (by rw [gen1]; exact e0.bare) rfl,
      fun b o e => Heap.get?_push_of_some _ (xx.toInCall.keep b o e), Heap.get?_push_of_some _ hoL, fun v q => (by rw [hdL] at q; cases q), fun A2 hh => hok1 hh, fun A2 s2 hr2 hh W => ?_⟩⟩
    have ok := hok1 hh
    obtain ⟨t, ht, hq⟩ := hbody cdv outer s.heap.objs.size (cl H) n It A2 vs ok (hr2.deeper _) hsp
    refine seg_func (ht.run A2 n 0 s2 _ [] _ _ id id s2 (start N vs) _ _ ⟨over_func, rfl, rfl, rfl⟩ (Nat.add_zero _) (fun m' j' s0 s' fl hn hs => ?_) (wake ok W (lc A2)) (hq _ (hw_same ok)))
    cases fl with
    | next =>
      obtain ⟨σ', H', I', e1, e2⟩ := hs
      have e1 : j' = n := e1
      have hn : m' + j' = n := hn
      exact seg_end (.ok (.ret .none)) (.inl ⟨.inl rfl, by omega, H', gend I' e2⟩)
    | brk => obtain ⟨_, _, _, q⟩ := hs; exact q.elim
    | cont => obtain ⟨_, _, _, q⟩ := hs; exact q.elim
    | ret u =>
      obtain ⟨v, σ', H', I', rv, ev, e1, e2⟩ := hs
      have ev : v = .non := ev
      subst ev
      have eu : u = Value.none := rv
      subst eu
      have e1 : j' = n := e1
      have hn : m' + j' = n := hn
      exact seg_end (.ok (.ret .none)) (.inl ⟨.inl rfl, by omega, H', gend I' e2⟩)
  exact main _ _ _ _ rfl rfl rfl fun h => Heap.get?_push_size _ rfl
end Gg

namespace Gg
open PySem PySem.Spec PyProof.Rows GenW L2
open Gk (sus Slp pt shut wpAny_slp)
/-! ### an expression whose value is such a generator -/
abbrev TGF := L2.St → Hp → (Hp → Nat → (Nat → V → Hp → Prop) → Prop) → Prop
structure PGenF (X : Cx) (k : Nat) (e : Expr) (tg : TGF) : Prop where
  run : ∀ (pins : List (Addr × Obj)) (s : Shared) (σ : L2.St) (H : Hp) (cont : Hp → Nat → (Nat → V → Hp → Prop) → Prop), Inv X pins σ H s → tg σ H cont → wpAny (model X.prog X.w) X.A (eval e X.env)
    (fun u s' => ∃ H1 sc n It N qual scope f cd, Inv X pins σ H1 sc ∧ MadeF (gdOf X.prog X.w X.K X.mg X.base N qual scope f cd X.stack sc.heap.objs.size (cl H1) n It) k sc u s' ∧ Mono It ∧ cont H1 n It) X.xe s
section
variable {X : Cx} {k : Nat} {f : Addr} {fd : FuncData} {ps : List Str} {sp : SpF} {x : Str} {dvs : List V} {ds : List Value} {p pos' : Pos}
def tCallF (sp : SpF) (dvs : List V) (t : TA) : TGF := fun σ H cont => t σ H fun vs H1 => ∃ n It, sp (vs ++ dvs) (cl H1) n It ∧ cont H1 n It
/-- f(e, ..), f a generator def -/
theorem pgenF_call {e : Expr} {es : List Expr} {t : TA} (F : GFnF X.prog X.w X.K X.mg X.base k f fd ps sp) (hr : Room k X.A) (hg : Gl X x) (hm : X.mg x = some (.ref f)) (hk : PySem.W.keepIn X.K (.ref f) = true) (hb : L2.Binds X.K fd ps ds) (hd : Vals dvs ds) (ha : PA X (e :: es) t)
    (hdb : (x == ("__debug__" : Str)) = false := by decide) (he : starEach (e :: es) X.env = (false, eval e X.env) :: starEach es X.env := by rfl) (hpl : (backTo pos' (starEach es X.env)).any (·.1) = false := by rfl) : PGenF X k (.Call (.Name x p) (e :: es) [] pos') (tCallF sp dvs t) := by
  refine ⟨fun pins s σ H cont I h => ?_⟩
  refine wpAny_Call_Name_kw (ld_glob I hg hm ?_ hdb)
  refine PySem.W.callWith_K (h₀ := X.base) I.ok.mod.kin hk (thn (ha.run pos' pins s σ H _ I h) fun us s1 ⟨vs, H1, I1, r, n, It, hsp, hc⟩ => ⟨I1.kIn, ?_⟩) he hpl
  obtain ⟨N, qual, scope, cd, run⟩ := F.run
  have r2 : Vals (vs ++ dvs) (us ++ ds) := r.append hd
  have hl2 : (us ++ ds).length = ps.length := by rw [← r2.length]; exact F.len _ _ _ _ hsp
  refine wpAny_call (codeAny_mono (run X.A X.stack s1 H1 ⟨us, []⟩ (us ++ ds) (vs ++ dvs) n It hr I1.env0 (hb s1 us I1.kIn hl2) r2 hsp) fun r s' hq => ?_)
  cases r with
  | error e => exact hq.elim
  | ok fl =>
    cases fl with
    | ret u => exact ⟨H1, s1, n, It, N, qual, scope, f, cd, I1, hq, F.mono _ _ _ _ hsp, hc⟩
    | next => exact hq.elim
    | brk => exact hq.elim
    | cont => exact hq.elim
end
/-! ### the consumer's loop -/
theorem ownedGo {prog : Program} {w : World} {A : Around} {E : Value → Shared → Prop} {s : Shared} {a : Addr} {g : Nat} {target : Expr} {v : Value} {Q : Unit → Shared → Prop} (hg : s.heap.IsGen a g) (h : Q () s) : wpAny (model prog w) A (letOwnedTupleGo target (.ref a) v) Q E s := by
  obtain ⟨o, nm, qn, ho, hc, hd, _⟩ := hg
  obtain ⟨oc, od, odt, osl⟩ := o
  dsimp only at hc hd
  subst hc hd
  unfold letOwnedTupleGo
  have go : wpAny (model prog w) A (do
      let (.ref r, .ref b) := ((.ref a, v) : Value × Value) | return
      let o ← load r
      match o.cls, o.data with
      | .type n, .fields vs =>
        if ["enumerate", "zip", "dict_itemiterator", "dict_reverseitemiterator", "odict_iterator", "itertools.zip_longest", "itertools.pairwise"].contains n && vs[0]? == some (rawInt b) then
          rule "for.unpacks-the-owned-tuple"
          updateField r 0 .none
      | _, _ => pure ()) Q E s := by
    cases v <;> first | exact wpAny_pure h | skip
    refine wpAny_bind (wpAny_load ho ?_)
    exact wpAny_pure h
  split
  · exact go
  · exact go
  · exact wpAny_pure h
theorem inv_gens {X : Cx} {pins : List (Addr × Obj)} {σ : L2.St} {H : Hp} {s : Shared} {G : Array GenState} (I : Inv X pins σ H s) (hG : AllBare G) : Inv X pins σ H { s with gens := G } :=
  ⟨I.ok, I.os, hG, I.base, I.loc, I.cell, I.free, I.freeC, I.pin, I.hok, I.len⟩
theorem inv_shut {X : Cx} {pins : List (Addr × Obj)} {σ : L2.St} {H : Hp} {s : Shared} (I : Inv X pins σ H s) : Inv X pins σ H (shut s) := inv_gens I (Gk.bare_stk I.bare)
theorem inv_pt {X : Cx} {pins : List (Addr × Obj)} {σ : L2.St} {H : Hp} {s : Shared} {Y : Array GenState} (I : Inv X pins σ H s) (hY : AllBare Y) : Inv X pins σ H (pt Y s) := inv_gens I (Gk.bare_put hY I.bare)
theorem bare_set {s : Shared} {g : Nat} {x : GenState} (h : AllBare s.gens) (hx : x.bare = true) : AllBare (s.setGen g x).gens := allBare_setGen h hx
theorem sp_pt {X : Cx} {pins : List (Addr × Obj)} {D : Ends} {f : Flow} {s : Shared} {Y : Array GenState} (h : SP X pins D f s) (hY : AllBare Y) : SP X pins D f (pt Y s) := by
  cases f with
  | next => obtain ⟨σ, H, I, q⟩ := h; exact ⟨σ, H, inv_pt I hY, q⟩
  | brk => obtain ⟨σ, H, I, q⟩ := h; exact ⟨σ, H, inv_pt I hY, q⟩
  | cont => obtain ⟨σ, H, I, q⟩ := h; exact ⟨σ, H, inv_pt I hY, q⟩
  | ret u => obtain ⟨v, σ, H, I, r, q⟩ := h; exact ⟨v, σ, H, inv_pt I hY, r, q⟩
section
variable {X : Cx}
/-- the consumer may wake it -/
theorem wk_of {pins : List (Addr × Obj)} {σ : L2.St} {Hc H0 : Hp} {G : GD} {oL : Obj} {s : Shared} (F : Fit X pins G H0) (hA : G.A.frames = X.A.frames) (I : Inv X pins σ Hc s) (sm : Same (cl H0) Hc) (hL : s.heap.get? G.L = some oL) : Wk G oL s := by
  obtain ⟨h0, k0⟩ := F.k0
  have e := I.env0
  have cln : ∀ b, Hc b = none → cl H0 b = none := fun b hn => by
    cases h : cl H0 b with
    | none => rfl
    | some o => rw [sm b o h] at hn; cases hn
  refine ⟨⟨by rw [hA, F.outer]; exact e.frames, by rw [F.K, F.mg, F.base]; exact e.mod, fun b o q => ?_, by rw [F.base]; exact e.bsz, by rw [F.base, F.outer]; exact e.funs, fun b hb => ?_, by rw [F.P, F.w, F.Hg]; exact cl_ok k0 sm e.hok, e.bare⟩, hL⟩
  · rw [F.base] at q
    obtain ⟨h1, h2⟩ := e.bs b o q
    exact ⟨h1, by rw [F.Hg]; exact cln b h2⟩
  · rw [F.outer] at hb
    rw [F.Hg]
    exact cln b (e.frf b hb)
/-- between two turns -/
structure LSt (X : Cx) (pins : List (Addr × Obj)) (G : GD) (H1 : Hp) (a : Addr) (g : Nat) (go oL : Obj) (gs : GenState) (j : Nat) (σ : L2.St) (Hc : Hp) (s : Shared) : Prop where
  inv : Inv X (pins ++ [(G.L, oL), (a, go)]) σ Hc s
  sm : Same (cl H1) Hc
  at_ : s.gens[g]? = some gs
  wk : ∀ s2, Wk G oL s2 → gs.Goes (model G.P G.w) G.A (GR G) (GY G) (G.n - j) (.send .none) s2
theorem turnG {pins : List (Addr × Obj)} {G : GD} {A : Around} {H1 Hc : Hp} {a : Addr} {g j : Nat} {go oL : Obj} {gs : GenState} {σ : L2.St} {s : Shared} {E : Value → Shared → Prop} (F : Fit X pins G H1) (mono : Mono G.It) (hA : G.A = A.in1) (hfr : A.frames = X.A.frames) (hh : A.handled = none) (hroom : A.depth < recursionLimit)
    (hgo : ∀ h : Heap, h.get? a = some go → h.IsGen a g) (hLa : G.L < a) (hj : j ≤ G.n) (S : LSt X pins G H1 a g go oL gs j σ Hc s) :
    wpAny (model X.prog X.w) A (pyNext (.ref a)) (fun r s' => match r with
      | none => j = G.n ∧ ∃ H', Same Hc H' ∧ Inv X pins σ H' s'
      | some v => j < G.n ∧ ∃ x H' oL' gs', RelV x v ∧ Same Hc H' ∧ G.It j x H' ∧ sus gs' = true ∧ LSt X pins G H1 a g go oL' gs' (j + 1) σ H' s') E s := by
  have I := S.inv
  obtain ⟨pL1, pL2, pL3, pL4, pL5⟩ := I.pin (G.L, oL) (by simp)
  obtain ⟨pa1, pa2, pa3, pa4, pa5⟩ := I.pin (a, go) (by simp)
  have pL1 : s.heap.get? G.L = some oL := pL1
  have pL2 : Hc G.L = none := pL2
  have pa1 : s.heap.get? a = some go := pa1
  have pa2 : Hc a = none := pa2
  have gl : g < s.gens.size := (Array.getElem?_eq_some_iff.mp S.at_).1
  -- waking
  have Ir : Inv X (pins ++ [(G.L, oL), (a, go)]) σ Hc (s.setGen g .running) := inv_gens I (bare_set I.bare rfl)
  have I0 : Inv X pins σ Hc (s.setGen g .running) := Ir.pins_of fun p hp => Ir.pin p (List.mem_append_right _ (List.mem_append_left _ hp))
  have Wr : Wk G oL (s.setGen g .running) := wk_of F (by rw [hA]; exact hfr) I0 S.sm pL1
  have hgo' := S.wk _ Wr
  rw [hA, F.P, F.w] at hgo'
  have back : ∀ {H' : Hp} {s1 : Shared}, GEnd G (s.setGen g .running) H' s1 → Inv X pins σ (mh s.heap Hc H') s1 ∧ ExtS H' (mh s.heap Hc H') ∧ s1.heap.get? a = some go ∧ mh s.heap Hc H' a = none ∧ mh s.heap Hc H' G.L = none := fun {H' s1} e => by
    obtain ⟨b1, b2, b3⟩ := merge F I0 S.sm pL2 e
    exact ⟨b1, b2, b3 a go pa1 hLa, mh_old pa2 pa1, mh_old pL2 pL1⟩
  have nx := nextG (G := G) (A := A) (s := s) (a := a) (g := g) (n := G.n - j) (gs := gs) (E := E) (Q := fun r s' => g + 1 ≤ s'.gens.size → match r with
      | none => j = G.n ∧ ∃ H', Same Hc H' ∧ Inv X pins σ H' s'
      | some v => j < G.n ∧ ∃ x H' oL' gs', RelV x v ∧ Same Hc H' ∧ G.It j x H' ∧ sus gs' = true ∧ LSt X pins G H1 a g go oL' gs' (j + 1) σ H' s') hh I.nolimit hroom (hgo _ pa1) S.at_ (by rw [F.P, F.w]; exact hgo') (fun v s1 gs' hb hu hv hsz => ?_) fun s1 hp h' hk _ => ?_
  · rw [F.P, F.w] at nx
    exact wpAny_gsz (n := g + 1) gl (wpAny_mono nx (fun _ _ z => z) fun _ _ z _ => z)
  · obtain ⟨x, H', j', oL', hn, rv, e, hit, hL', hnc, hk⟩ := hv
    obtain ⟨b1, b2, b3, b4, b5⟩ := back e
    have wk1 : ∀ s2, Wk G oL' s2 → later (model G.P G.w) A.in1 (GR G) (GY G) gs' (G.n - j) (.send .none) s2 := hk
    have sm2 : Same (cl H1) (mh s.heap Hc H') := fun b o q => mh_some (S.sm b o q)
    have hlt : j < G.n := by
      refine Nat.lt_of_le_of_ne hj fun z => ?_
      have := wk1 s1 (wk_of F (by rw [hA]; exact hfr) b1 sm2 hL')
      rw [show G.n - j = 0 by omega] at this
      exact this
    have ej : j' = j := by omega
    subst ej
    refine ⟨hlt, x, mh s.heap Hc H', oL', gs', rv, mh_same, mono _ _ _ _ hit b2, hu, inv_gens (Inv.pins_of b1 fun p hp => ?_) (bare_set b1.bare hb), sm2, ?_, fun s2 W2 => ?_⟩
    · rcases List.mem_append.mp hp with z | z
      · exact b1.pin p (List.mem_append_right _ z)
      · rcases List.mem_cons.mp z with z | z
        · rw [z]
          exact ⟨hL', b5, pL3, pL4, hnc⟩
        · rw [List.mem_singleton.mp z]
          exact ⟨b3, b4, pa3, pa4, pa5⟩
    · have e2 : (s1.setGen g gs').gens.size = s1.gens.size := setGen_size _ _ _
      exact setGen_at (by omega)
    · have := wk1 s2 W2
      rw [show G.n - j' = (G.n - (j' + 1)) + 1 by omega] at this
      rw [hA]
      exact this
  · obtain ⟨e0, H', e⟩ := hp
    obtain ⟨b1, b2, b3, b4, b5⟩ := back e
    refine ⟨by omega, mh s.heap Hc H', mh_same, ?_⟩
    exact b1.call' (ch := []) rfl (Un.kept hk) (b1.hok.kept hk) (bare_set b1.bare rfl) fun b z => absurd z (by simp)
def tForG (tg : TGF) (g : TG) (tb : TS) : TS := fun D σ H => tg σ H fun H1 n It => ∃ W : Nat → L2.St → Hp → Prop, W 0 σ H1 ∧ (∀ j σ H, W j σ H → Same (cl H1) H) ∧
  (∀ j σ H x H', j < n → W j σ H → Same H H' → It j x H' → g x σ H' fun σ2 H2 => tb { D with nx := W (j + 1), ct := W (j + 1), bk := D.nx } σ2 H2) ∧ ∀ σ H H', W n σ H → Same H H' → D.nx σ H'
/-- a piece run while a generator sleeps: it sleeps on -/
theorem asleep {α : Type} {A : Around} {t : Sem α} {Q : α → Shared → Prop} {s : Shared} {g : Nat} {gs : GenState} {E : Value → Shared → Prop} (h : wpAny (model X.prog X.w) A t Q (fun _ _ => False) (shut s)) (hg : s.gens[g]? = some gs) (hu : sus gs = true) (hQ : ∀ a s', Q a s' → Q a (pt s.gens s')) :
    wpAny (model X.prog X.w) A t (fun a s' => s'.gens[g]? = some gs ∧ Q a s') E s :=
  wpAny_mono (wpAny_slp h) (fun a s' ⟨s2, e, sl, q⟩ => ⟨sl g gs hg hu, by rw [e]; exact hQ a s2 q⟩) fun _ _ ⟨_, _, _, z⟩ => z.elim
theorem ps_forG {k : Nat} {iter tgt : Expr} {body : List Stmt} {tg : TGF} {g : TG} {tb : TS} {pos : Pos} (hx : X.xe = fun _ _ => False) (hc : X.calm = true) (hr : Room (k + 1) X.A) (hi : PGenF X k iter tg) (hg : PG X tgt g) (hb : PSs X body tb)
    (hs : ∀ x, foldedSetIterable iter X.env x = pure x := by intro _; rfl) : PS X (.For tgt iter body [] pos) (tForG tg g tb) := by
  refine ⟨fun pins s σ H D I h => ?_⟩
  refine wpAny_For (thn (hi.run pins s σ H _ I h) fun u s1 h1 => ?_) hs
  obtain ⟨H1, sc, n, It, N, qual, scope, f, cd, I1, ⟨a, gi, c, oL, go, rfl, hLa, hao, hgen, hgc, hgf, hos, hba, hkp, hLo, hLc, hok1, hseg⟩, mono, W, w0, wsm, turn, done⟩ := h1
  refine wpAny_pyIter_gen (hgen _ hao) ?_
  have hh : X.A.handled = none := I1.ok.hd hc
  have Is : Inv X pins σ H1 s1 := I1.call' (ch := []) hos (Un.kept hkp) (I1.hok.kept hkp) hba fun b z => absurd z (by simp)
  have nL : H1 sc.heap.objs.size = none := I1.hok.fresh (Nat.le_refl _)
  have nA : H1 a = none := I1.hok.fresh (Nat.le_of_lt hLa)
  have kl := I1.lt
  have pin1 : ∀ p ∈ X.pn ++ pins, p.1 ≠ sc.heap.objs.size := fun p hp => Nat.ne_of_lt (Heap.lt_size (I1.pin p hp).1)
  have Ip : Inv X (pins ++ [(sc.heap.objs.size, oL), (a, go)]) σ H1 s1 := Inv.pins_of Is fun p hp => by
    rcases List.mem_append.mp hp with z | z
    · exact Is.pin p (List.mem_append_right _ z)
    · rcases List.mem_cons.mp z with z | z
      · rw [z]
        exact ⟨hLo, nL, Nat.ne_of_gt kl, I1.nofs (Nat.le_refl _), hLc⟩
      · rw [List.mem_singleton.mp z]
        exact ⟨hao, nA, Nat.ne_of_gt (Nat.lt_trans kl hLa), I1.nofs (Nat.le_of_lt hLa), hgc⟩
  -- what fits
  generalize hG : gdOf X.prog X.w X.K X.mg X.base N qual scope f cd X.stack sc.heap.objs.size (cl H1) n It X.A.in1 = G at *
  have gn : G.n = n := by rw [← hG] <;> rfl
  have gI : G.It = It := by rw [← hG] <;> rfl
  have gL : G.L = sc.heap.objs.size := by rw [← hG] <;> rfl
  have gA : G.A = X.A.in1 := by rw [← hG] <;> rfl
  have hokG : GOk G := by rw [← hG]; exact hok1 X.A.in1 hh
  have F : Fit X pins G H1 := by
    subst hG
    exact ⟨rfl, rfl, rfl, rfl, rfl, rfl, rfl, ⟨_, I1.hok⟩, hokG, .inr I1.sz, Nat.ne_of_gt kl, fun x c e z => by
      obtain ⟨v, o, ho, _⟩ := I1.cell x c e
      have z : c = sc.heap.objs.size := z
      rw [z] at ho
      exact Nat.lt_irrefl _ (Heap.lt_size ho), pin1⟩
  have S0 : LSt X pins G H1 a gi go oL (.fresh c) 0 σ H1 s1 := by
    refine ⟨by rw [gL]; exact Ip, cl_same, hgf, fun s2 W2 => ⟨rfl, ?_⟩⟩
    subst hG
    exact hseg X.A.in1 s2 hr.in1 hh W2
  refine codeAny_forLoop_any (fun q s' => ∃ j σ Hc oL gs, q = n - j ∧ j ≤ n ∧ W j σ Hc ∧ LSt X pins G H1 a gi go oL gs j σ Hc s') ?_ (n - 0) ⟨0, σ, H1, oL, _, rfl, Nat.zero_le _, w0, S0⟩
  rintro q s2 ⟨j, σ2, Hc, oL2, gs2, rfl, hj, wj, S⟩
  refine thn (turnG F (by rw [gI]; exact mono) gA rfl hh hr.depth hgen (by rw [gL]; exact hLa) (by rw [gn]; exact hj) S) fun r s3 hq => ?_
  cases r with
  | none =>
    obtain ⟨ej, H', sm, I3⟩ := hq
    have ej : j = G.n := ej
    rw [gn] at ej
    subst ej
    exact wpAny_execs_nil ⟨σ2, H', I3, done σ2 Hc H' wj sm⟩
  | some v =>
    obtain ⟨hlt, x, H', oL3, gs3, rv, sm, hit, hu, S3⟩ := hq
    rw [gn] at hlt
    rw [gI] at hit
    have I3 := S3.inv
    have ao : s3.heap.get? a = some go := (I3.pin (a, go) (by simp)).1
    refine ownedGo (hgen _ ao) ?_
    have no : ∀ {α : Type} {t : Sem α} {Q : α → Shared → Prop} {s : Shared}, wpAny (model X.prog X.w) X.A t Q X.xe s → wpAny (model X.prog X.w) X.A t Q (fun _ _ => False) s := fun {α t Q s} h => by rw [hx] at h; exact h
    have bare3 := I3.bare
    refine wpAny_mono (asleep (no (hg.run _ (shut s3) σ2 H' x v _ (inv_shut I3) rv (turn j σ2 Hc x H' hlt wj sm hit))) S3.at_ hu fun _ s' ⟨σ', H2, J, z⟩ => ⟨σ', H2, inv_pt J bare3, z⟩) (fun _ s4 h4 => ?_) fun _ _ z => z
    obtain ⟨g4, σ4, H4, I4, z4⟩ := h4
    have bare4 := I4.bare
    refine wpAny_mono (asleep (no (hb.run _ (shut s4) σ4 H4 _ (inv_shut I4) z4)) g4 hu fun _ s' z => sp_pt z bare4) (fun fl s5 h5 => ?_) fun _ _ z => z
    obtain ⟨g5, h5⟩ := h5
    have again : ∀ {σ5 : L2.St} {H5 : Hp}, Inv X (pins ++ [(G.L, oL3), (a, go)]) σ5 H5 s5 → W (j + 1) σ5 H5 → ∃ m, m < n - j ∧ ∃ j σ Hc oL gs, m = n - j ∧ j ≤ n ∧ W j σ Hc ∧ LSt X pins G H1 a gi go oL gs j σ Hc s5 := fun {σ5 H5} I5 w5 =>
      ⟨n - (j + 1), by omega, j + 1, σ5, H5, oL3, gs3, rfl, hlt, w5, I5, wsm _ _ _ w5, g5, S3.wk⟩
    cases fl with
    | next => obtain ⟨σ5, H5, I5, w5⟩ := h5; exact again I5 w5
    | cont => obtain ⟨σ5, H5, I5, w5⟩ := h5; exact again I5 w5
    | brk => obtain ⟨σ5, H5, I5, w5⟩ := h5; exact ⟨σ5, H5, I5.unpinned, w5⟩
    | ret u => obtain ⟨v5, σ5, H5, I5, r5, w5⟩ := h5; exact ⟨v5, σ5, H5, I5.unpinned, r5, w5⟩
end
end Gg

namespace Gg
open PySem PySem.Spec PyProof.Rows GenW L2
open Gk (sus Slp pt shut wpAny_slp)
/-! ### [elt for target in f(..)], f a generator def -/
def tLcG (tg : TGF) (g : TG) (te : TE) (vs : List Nat) : TE := fun σ H Q => tg σ H fun H1 n It => ∀ D, H1 D = none → ∃ W : Nat → Hp → Prop, W 0 (upd H1 D (.lst [])) ∧ (∀ j H, W j H → Same (cl H1) H) ∧
  (∀ j H x H', j < n → W j H → Same H H' → It j x H' → g x (wipe σ vs) H' fun σ2 H2 => wipe σ2 vs = wipe σ vs ∧ te σ2 H2 fun y H4 => ∃ acc, H4 D = some (.lst acc) ∧ acc.length < sizeLine ∧ W (j + 1) (upd H4 D (.lst (acc ++ [y])))) ∧ ∀ H H', W n H → Same H H' → Q (.ref D) H'
section
variable {X : Cx}
theorem pe_lcG {k : Nat} {elt tgt iter : Expr} {scope : Scope} {own : List (Str × Nat)} {pos : Pos} {tg : TGF} {g : TG} {te : TE} (hc : X.calm = true) (hN : X.N.Nodup) (hr : Room (k + 1) X.A) (hi : PGenF X k iter tg) (ok : BlkOk X.N X.env.scope scope own)
    (hg : ∀ (s : Shared) (H : Hp) (C : Addr) (cl : List (Str × Addr)) (fp : List Addr), PG (X.blk s H scope (compEnvC scope cl C X.env) fp) tgt g)
    (he : ∀ (s : Shared) (H : Hp) (C : Addr) (cl : List (Str × Addr)) (fp : List Addr), PE (X.blk s H scope (compEnvC scope cl C X.env) fp) elt te) (hs : ∀ x, foldedSetIterable iter X.env x = pure x := by intro _; rfl) :
    PE X (.ListComp elt [⟨tgt, iter, [], 0⟩] scope pos) (tLcG tg g te (own.map (·.2))) := by
  refine ⟨fun pins s σ H Q I h => ?_⟩
  rw [eval_ListComp]
  have hfree : ∀ y ∈ scope.names, y.2 = .free → ∃ c, X.env.cells.lookup y.1 = some c := fun y hy e => (ok.free y hy e).elim (fun z => I.ok.has _ (.inl z)) fun z => I.ok.has _ (.inr z)
  refine wpAny_comprehension_free (use := none) rfl hs (closure_ok hfree) ok.kind (fun y hy e => by rw [ok.uniq y hy, e]) (thn (hi.run pins s σ H _ I h) fun u s1 h1 => ?_)
  obtain ⟨H1, sc, n, It, N, qual, sco, f, cd, I1, ⟨a, gi, c, oL, go, rfl, hLa, hao, hgen, hgc, hgf, hos, hba, hkp, hLo, hLc, hok1, hseg⟩, mono, q⟩ := h1
  refine wpAny_pyIter_gen (hgen _ hao) ?_
  refine wpAny_newObj_type (newEnv_comp ?_) (by show 0 ≤ sizeLine; decide)
  have hh : X.A.handled = none := I1.ok.hd hc
  have Is : Inv X pins σ H1 s1 := I1.call' (ch := []) hos (Un.kept hkp) (I1.hok.kept hkp) hba fun b z => absurd z (by simp)
  have nL : H1 sc.heap.objs.size = none := I1.hok.fresh (Nat.le_refl _)
  have nA : H1 a = none := I1.hok.fresh (Nat.le_of_lt hLa)
  have kl := I1.lt
  generalize hD : s1.heap.objs.size = D
  have hDn : H1 D = none := Is.hok.fresh (Nat.le_of_eq hD)
  obtain ⟨W, w0, wsm, turn, done⟩ := q D hDn
  have aD : a < D := by rw [← hD]; exact Heap.lt_size hao
  have LD : sc.heap.objs.size < D := Nat.lt_trans hLa aD
  -- the new list
  generalize hs3 : ({ s1 with heap := s1.heap.push { cls := .type "list", data := .seq ([] : List Value).toArray } } : Shared) = s3
  have h3 : s3.heap = s1.heap.push { cls := .type "list", data := .seq ([] : List Value).toArray } := by rw [← hs3]
  have I3 : Inv X pins σ (upd H1 D (.lst [])) s3 := by
    rw [← hs3]
    refine Is.laid (t' := s1.toks) (fun b o e => Heap.get?_push_of_some _ e) (Nat.le_of_eq hD) ⟨Nat.zero_le _, [], 0, .nil, ?_⟩
    rw [← hD]
    exact Heap.get?_push_size _ rfl
  have z3 : s3.heap.objs.size = D + 1 := by rw [h3, Heap.size_push, hD]
  have f3 : ∀ b ∈ [sc.heap.objs.size], FpOk X pins (upd H1 D (.lst [])) b ∧ b < s3.heap.objs.size := fun b hb => by
    rw [List.mem_singleton.mp hb, z3]
    refine ⟨⟨by rw [upd_ne (Nat.ne_of_lt LD)]; exact nL, Nat.ne_of_gt kl, I1.nofs (Nat.le_refl _), .inr I1.sz, fun x c e z => ?_, fun p hp => Nat.ne_of_lt (Heap.lt_size (I1.pin p hp).1)⟩, Nat.lt_succ_of_lt LD⟩
    obtain ⟨v, o, ho, _⟩ := I1.cell x c e
    rw [z] at ho
    exact Nat.lt_irrefl _ (Heap.lt_size ho)
  have I4 := block_start I3 ok hN f3
  have pg := hg s3 (upd H1 D (.lst [])) s3.heap.objs.size (cellsFrom (s3.heap.objs.size + 1) scope.names (cloFrom X.env.cells scope.names [])) [sc.heap.objs.size]
  have pe := he s3 (upd H1 D (.lst [])) s3.heap.objs.size (cellsFrom (s3.heap.objs.size + 1) scope.names (cloFrom X.env.cells scope.names [])) [sc.heap.objs.size]
  show codeAny _ _ (.compStart (.ListComp elt [⟨tgt, iter, [], 0⟩] scope pos) 0 (.ref a) (.ref D) (compEnvC scope (cellsFrom (s3.heap.objs.size + 1) scope.names (cloFrom X.env.cells scope.names [])) s3.heap.objs.size X.env)) (compPost (model X.prog X.w) X.A X.xe none (EP X pins σ Q) (.ref D) s3.heap.objs.size) { s3 with heap := pushCells (s3.heap.push { cls := .type "dict", data := .dict #[] }) scope.names }
  generalize hce : compEnvC scope (cellsFrom (s3.heap.objs.size + 1) scope.names (cloFrom X.env.cells scope.names [])) s3.heap.objs.size X.env = ce at I4 pg pe ⊢
  have cL : ce.locals = s3.heap.objs.size := by subst hce; rfl
  have kp4 : ∀ b o, s1.heap.get? b = some o → (pushCells (s3.heap.push { cls := .type "dict", data := .dict #[] }) scope.names).get? b = some o := fun b o e => pushCells_keeps _ _ _ _ (Heap.get?_push_of_some _ (by rw [h3]; exact Heap.get?_push_of_some _ e))
  have gf4 : ({ s3 with heap := pushCells (s3.heap.push { cls := .type "dict", data := .dict #[] }) scope.names } : Shared).gens[gi]? = some (.fresh c) := by rw [← hs3]; exact hgf
  generalize hs4 : ({ s3 with heap := pushCells (s3.heap.push { cls := .type "dict", data := .dict #[] }) scope.names } : Shared) = s4 at I4 gf4 ⊢
  have k4 : ∀ b o, s1.heap.get? b = some o → s4.heap.get? b = some o := fun b o e => by rw [← hs4]; exact kp4 b o e
  generalize hXb : X.blk s3 (upd H1 D (.lst [])) scope ce [sc.heap.objs.size] = Xb at I4 pg pe
  have xb : Xb.prog = X.prog ∧ Xb.w = X.w ∧ Xb.A = X.A ∧ Xb.env = ce ∧ Xb.xe = (fun _ _ => False) ∧ Xb.stack = X.stack ∧ Xb.pn = [] ∧ Xb.ex = [sc.heap.objs.size] ∧ Xb.outer = X.stack := by subst hXb; exact ⟨rfl, rfl, rfl, rfl, rfl, rfl, rfl, rfl, rfl⟩
  generalize hG : gdOf X.prog X.w X.K X.mg X.base N qual sco f cd X.stack sc.heap.objs.size (cl H1) n It X.A.in1 = G at *
  have gn : G.n = n := by rw [← hG] <;> rfl
  have gI : G.It = It := by rw [← hG] <;> rfl
  have gL : G.L = sc.heap.objs.size := by rw [← hG] <;> rfl
  have gA : G.A = X.A.in1 := by rw [← hG] <;> rfl
  have hokG : GOk G := by rw [← hG]; exact hok1 X.A.in1 hh
  have Lo4 : s4.heap.get? sc.heap.objs.size = some oL := k4 _ _ hLo
  have F : Fit Xb [] G H1 := by
    have hcells : ∀ x c, Xb.env.cells.lookup x = some c → c ≠ sc.heap.objs.size := fun x c e z => by
      obtain ⟨v, o, ho, hd⟩ := I4.cell x c e
      rw [z, Lo4] at ho
      cases ho
      exact hLc v hd
    have hloc : sc.heap.objs.size ≠ Xb.env.locals := by
      rw [xb.2.2.2.1, cL, z3]
      exact Nat.ne_of_lt (Nat.lt_succ_of_lt LD)
    subst hXb
    subst hG
    exact ⟨rfl, rfl, rfl, rfl, rfl, rfl, rfl, ⟨_, I1.hok⟩, hokG, .inl List.mem_cons_self, hloc, hcells, fun p hp => absurd (show p ∈ ([] : List (Addr × Obj)) from hp) (by simp)⟩
  have frX : ∀ b, sc.heap.objs.size ≤ b → b ∉ frs X.stack := fun b hb z => by
    rcases List.mem_cons.mp (I1.stkSub b z) with y | y
    · rw [y] at hb
      exact absurd (Nat.lt_of_lt_of_le kl hb) (Nat.lt_irrefl _)
    · exact I1.nofs hb y
  have S0 : LSt Xb [] G H1 a gi go oL (.fresh c) 0 (wipe σ (own.map (·.2))) (upd H1 D (.lst [])) s4 := by
    refine ⟨Inv.pins_of I4 fun p hp => ?_, fun b o e => ?_, gf4, fun s2 W2 => ⟨rfl, ?_⟩⟩
    · have hfs : ∀ b, sc.heap.objs.size ≤ b → b ∉ Xb.fs := fun b hb z => frX b hb (by rw [← xb.2.2.2.2.2.2.2.2]; exact z)
      have hloc : ∀ b, b < D → b ≠ Xb.env.locals := fun b hb => by
        rw [xb.2.2.2.1, cL, z3]
        exact Nat.ne_of_lt (Nat.lt_succ_of_lt hb)
      rcases List.mem_cons.mp hp with z | z
      · rw [z, gL]
        exact ⟨Lo4, by rw [upd_ne (Nat.ne_of_lt LD)]; exact nL, hloc _ LD, hfs _ (Nat.le_refl _), hLc⟩
      · rw [List.mem_singleton.mp z]
        exact ⟨k4 _ _ hao, by rw [upd_ne (Nat.ne_of_lt aD)]; exact nA, hloc _ aD, hfs _ (Nat.le_of_lt hLa), hgc⟩
    · rw [upd_ne (fun z => by rw [z] at e; rw [cl_sub e] at hDn; cases hDn)]
      exact cl_sub e
    · subst hG
      exact hseg X.A.in1 s2 hr.in1 hh W2
  have loop : codeAny (model X.prog X.w) X.A (.compLoop (.ListComp elt [⟨tgt, iter, [], 0⟩] scope pos) 0 (.ref a) (.ref D) ce) (compPost (model X.prog X.w) X.A X.xe none (EP X pins σ Q) (.ref D) s3.heap.objs.size) s4 := by
    refine compLoop_any (fun q s' => ∃ j Hc oL gs, q = n - j ∧ j ≤ n ∧ W j Hc ∧ LSt Xb [] G H1 a gi go oL gs j (wipe σ (own.map (·.2))) Hc s') ?_ (n - 0) ⟨0, _, oL, _, rfl, Nat.zero_le _, w0, S0⟩
    rintro q s5 ⟨j, Hc, oL5, gs5, rfl, hj, wj, S⟩
    have tn := turnG (A := X.A) (E := fun _ _ => False) F (by rw [gI]; exact mono) gA (by rw [xb.2.2.1]) hh hr.depth hgen (by rw [gL]; exact hLa) (by rw [gn]; exact hj) S
    rw [xb.1, xb.2.1] at tn
    refine thnF tn fun r s6 hq => ?_
    cases r with
    | none =>
      obtain ⟨ej, H', sm, I6⟩ := hq
      have ej : j = G.n := ej
      rw [gn] at ej
      subst ej
      subst hXb
      have I7 : Inv X pins σ H' s6 := I3.call' (ch := [sc.heap.objs.size]) I6.os I6.base I6.hok I6.bare fun b hb => ⟨(f3 b hb).1.2.2.2.1, (f3 b hb).1.2.1, (f3 b hb).1.2.2.2.2.1, (f3 b hb).1.2.2.2.2.2⟩
      have nC : H' s3.heap.objs.size = none := by
        have z : H' ce.locals = none := I6.free
        rw [cL] at z
        exact z
      obtain ⟨m, hn, _⟩ := I6.loc
      have hn : s6.heap.Ns ce.locals m := hn
      rw [cL] at hn
      obtain ⟨g0, g1, g2, g3, g4, g5⟩ := I3.fpOk (Nat.le_refl _) nC
      exact ⟨m, hn, fun h2 sb => ⟨.ref D, H', I7.turned (t' := s6.toks) (fun b o hb e => (sb.2 b hb).trans e) g0 g1 g3 g4 g5, rfl, done Hc H' wj sm⟩⟩
    | some v =>
      obtain ⟨hlt, x, H', oL6, gs6, rv, sm, hit, hu, S6⟩ := hq
      rw [gn] at hlt
      rw [gI] at hit
      have I6 := S6.inv
      have ao : s6.heap.get? a = some go := (I6.pin (a, go) (by simp)).1
      refine ownedGo (hgen _ ao) ?_
      have xe : Xb.xe = fun _ _ => False := xb.2.2.2.2.1
      have bare6 := I6.bare
      have r1 := pg.run _ (shut s6) _ H' x v _ (inv_shut I6) rv (turn j Hc x H' hlt wj sm hit)
      rw [xe] at r1
      have r1 := asleep (E := fun _ _ => False) r1 S6.at_ hu fun _ s' ⟨σ', H2, J, z⟩ => ⟨σ', H2, inv_pt J bare6, z⟩
      rw [xb.1, xb.2.1, xb.2.2.1, xb.2.2.2.1] at r1
      refine thnF r1 fun _ s7 ⟨g7, σ7, H7, I7, hw7, z7⟩ => ?_
      refine wpAny_pure ?_
      rw [if_pos rfl]
      have bare7 := I7.bare
      have r2 := pe.run _ (shut s7) _ H7 _ (inv_shut I7) z7
      rw [xe] at r2
      have r2 := asleep (E := fun _ _ => False) r2 g7 hu fun _ s' ⟨v', H2, J, r, z⟩ => ⟨v', H2, inv_pt J bare7, r, z⟩
      rw [xb.1, xb.2.1, xb.2.2.1, xb.2.2.2.1] at r2
      refine thnF r2 fun y s8 ⟨g8, yv, H8, I8, r8, acc, hD8, hz8, w8⟩ => ?_
      have bare8 := I8.bare
      have r3 := asleep (X := Xb) (E := fun _ _ => False) (A := Xb.A) (app_ok (X := Xb) (E := fun _ _ => False) (D := D) (v := y) (Q := fun _ s' => Inv Xb ([] ++ [(G.L, oL6), (a, go)]) σ7 (upd H8 D (.lst (acc ++ [yv]))) s') (inv_shut I8) hD8 hz8 r8 fun s' J => J) g8 hu fun _ s' J => inv_pt J bare8
      rw [xb.1, xb.2.1, xb.2.2.1] at r3
      refine thnF r3 fun _ s9 ⟨g9, I9⟩ => ?_
      have hl : (wipe σ (own.map (·.2))).length = σ7.length := by rw [← hw7, wipe_length]
      refine ⟨n - (j + 1), by omega, j + 1, _, oL6, gs6, rfl, hlt, w8, Inv.weak I9 hl (fun i v e => ?_), wsm _ _ w8, g9, S6.wk⟩
      rw [← hw7] at e
      exact (wipe_some e).1
  exact codeAny_compStart_list loop (wpAny_pyIter_gen (hgen _ (k4 _ _ hao)) loop)
end
end Gg

namespace L2
open PySem PySem.Spec PyProof.Rows Gg
/-! ## walks: the rows of a web, the questions that are answered right -/
def rowP (rows : List (List Int)) (p : Int) : List Int := (rows[p.toNat]?).getD []
def qP (rows : List (List Int)) (p : Int) : Int := ((rowP rows p)[0]?).getD 0
def aP (rows : List (List Int)) (R : List Int) (p : Int) : Int := if qP rows p ∈ norm R then 1 else 0
def tRow (row : List Int) (a : Int) : Int := if a = 1 then (row[1]?).getD 0 else (row[2]?).getD 0
def nxP (rows : List (List Int)) (R : List Int) (p : Int) : Int := tRow (rowP rows p) (aP rows R p)
def itP (rows : List (List Int)) (R : List Int) (p : Int) : List Int := [p, qP rows p, aP rows R p]
def wl (rows : List (List Int)) (R : List Int) : Nat → Int → List (List Int)
  | 0, _ => []
  | k + 1, p => if p < 0 then [] else itP rows R p :: wl rows R k (nxP rows R p)
def we (rows : List (List Int)) (R : List Int) : Nat → Int → Int
  | 0, p => p
  | k + 1, p => if p < 0 then p else we rows R k (nxP rows R p)
def WK (rows : List (List Int)) (R : List Int) (p : Int) : List (List Int) := wl rows R rows.length p
def WN (rows : List (List Int)) (R : List Int) (p : Int) : Int := -1 - we rows R rows.length p
theorem row3 {rows : List (List Int)} {e o p : Int} (G : GoodW rows e o) (p0 : 0 ≤ p) (p1 : p < rows.length) : ∃ q t1 t2 r, rowP rows p = q :: t1 :: t2 :: r ∧ rows[p.toNat]? = some (rowP rows p) ∧ 0 ≤ q ∧ q < 48 ∧ (-e ≤ t1 ∧ t1 < rows.length ∧ ¬ (0 ≤ t1 ∧ t1 ≤ p)) ∧ (-e ≤ t2 ∧ t2 < rows.length ∧ ¬ (0 ≤ t2 ∧ t2 ≤ p)) := by
  have hl : p.toNat < rows.length := by omega
  have hr : rows[p.toNat]? = some rows[p.toNat] := List.getElem?_eq_getElem hl
  have e1 : rowP rows p = rows[p.toNat] := by unfold rowP; rw [hr] <;> rfl
  obtain ⟨q, r, hq, hlen, q0, q1, ht⟩ := G.row _ _ hr
  have ep : ((p.toNat : Nat) : Int) = p := by omega
  rw [e1, hq]
  rcases r with _ | ⟨t1, _ | ⟨t2, r⟩⟩
  · simp at hlen
  · simp at hlen
  · have h1 := ht t1 (by simp)
    have h2 := ht t2 (by simp)
    rw [ep] at h1 h2
    exact ⟨q, t1, t2, r, rfl, by rw [hr, hq], q0, q1, h1, h2⟩
theorem nxP_ok {rows : List (List Int)} {R : List Int} {e o p : Int} (G : GoodW rows e o) (p0 : 0 ≤ p) (p1 : p < rows.length) : -e ≤ nxP rows R p ∧ nxP rows R p < rows.length ∧ (nxP rows R p < 0 ∨ p < nxP rows R p) := by
  obtain ⟨q, t1, t2, r, hr, _, _, _, h1, h2⟩ := row3 G p0 p1
  unfold nxP tRow
  rw [hr]
  split
  · show -e ≤ t1 ∧ t1 < _ ∧ (t1 < 0 ∨ p < t1)
    omega
  · show -e ≤ t2 ∧ t2 < _ ∧ (t2 < 0 ∨ p < t2)
    omega
theorem wl_neg {rows : List (List Int)} {R : List Int} {p : Int} (h : p < 0) : ∀ k, wl rows R k p = []
  | 0 => rfl
  | k + 1 => by unfold wl; rw [if_pos h]
theorem we_neg {rows : List (List Int)} {R : List Int} {p : Int} (h : p < 0) : ∀ k, we rows R k p = p
  | 0 => rfl
  | k + 1 => by unfold we; rw [if_pos h]
theorem wl_fuel {rows : List (List Int)} {R : List Int} {e o : Int} (G : GoodW rows e o) : ∀ (k : Nat) (p : Int), p < rows.length → 0 ≤ p → (rows.length : Int) - p ≤ k → wl rows R (k + 1) p = wl rows R k p ∧ we rows R (k + 1) p = we rows R k p
  | 0, p, h1, h0, h2 => by omega
  | k + 1, p, h1, h0, h2 => by
    have hn : ¬ p < 0 := by omega
    obtain ⟨n1, n2, n3⟩ := nxP_ok (R := R) G h0 h1
    rw [wl, if_neg hn, show wl rows R (k + 1) p = itP rows R p :: wl rows R k (nxP rows R p) by rw [wl, if_neg hn], we, if_neg hn, show we rows R (k + 1) p = we rows R k (nxP rows R p) by rw [we, if_neg hn]]
    rcases n3 with n3 | n3
    · rw [wl_neg n3, wl_neg n3, we_neg n3, we_neg n3]
      exact ⟨rfl, rfl⟩
    · obtain ⟨i1, i2⟩ := wl_fuel (R := R) G k (nxP rows R p) n2 (by omega) (by omega)
      rw [i1, i2]
      exact ⟨rfl, rfl⟩
theorem wl_more {rows : List (List Int)} {R : List Int} {e o p : Int} (G : GoodW rows e o) (h1 : p < rows.length) : ∀ (d k : Nat), (rows.length : Int) - p ≤ k → 0 ≤ p → wl rows R (k + d) p = wl rows R k p ∧ we rows R (k + d) p = we rows R k p
  | 0, k, _, _ => ⟨rfl, rfl⟩
  | d + 1, k, h2, h0 => by
    obtain ⟨a, b⟩ := wl_more (R := R) G h1 d k h2 h0
    obtain ⟨c, d'⟩ := wl_fuel (R := R) G (k + d) p h1 h0 (by omega)
    exact ⟨c.trans a, d'.trans b⟩
theorem WK_neg {rows : List (List Int)} {R : List Int} {p : Int} (h : p < 0) : WK rows R p = [] := wl_neg h _
theorem WN_neg {rows : List (List Int)} {R : List Int} {p : Int} (h : p < 0) : WN rows R p = -1 - p := by unfold WN; rw [we_neg h]
theorem WK_cons {rows : List (List Int)} {R : List Int} {e o p : Int} (G : GoodW rows e o) (p0 : 0 ≤ p) (p1 : p < rows.length) : WK rows R p = itP rows R p :: WK rows R (nxP rows R p) ∧ WN rows R p = WN rows R (nxP rows R p) := by
  obtain ⟨n1, n2, n3⟩ := nxP_ok (R := R) G p0 p1
  have hn : ¬ p < 0 := by omega
  unfold WK WN
  obtain ⟨m, hm⟩ : ∃ m, rows.length = m + 1 := ⟨rows.length - 1, by omega⟩
  have e1 : wl rows R rows.length p = itP rows R p :: wl rows R m (nxP rows R p) := by rw [hm, wl, if_neg hn]
  have e2 : we rows R rows.length p = we rows R m (nxP rows R p) := by rw [hm, we, if_neg hn]
  rw [e1, e2]
  rcases n3 with n3 | n3
  · rw [wl_neg n3, wl_neg n3, we_neg n3, we_neg n3]
    exact ⟨rfl, rfl⟩
  · obtain ⟨i1, i2⟩ := wl_fuel (R := R) G m (nxP rows R p) n2 (by omega) (by omega)
    have hm' : wl rows R rows.length (nxP rows R p) = wl rows R (m + 1) (nxP rows R p) := by rw [hm]
    have hm2 : we rows R rows.length (nxP rows R p) = we rows R (m + 1) (nxP rows R p) := by rw [hm]
    rw [hm', hm2, i1, i2]
    exact ⟨rfl, rfl⟩
theorem wl_len {rows : List (List Int)} {R : List Int} : ∀ (k : Nat) (p : Int), (wl rows R k p).length ≤ k
  | 0, _ => Nat.le_refl _
  | k + 1, p => by
    unfold wl
    split
    · exact Nat.zero_le _
    · rw [List.length_cons]
      exact Nat.succ_le_succ (wl_len k _)
theorem WK_len {rows : List (List Int)} {R : List Int} {p : Int} : (WK rows R p).length ≤ rows.length := wl_len _ _
theorem we_end {rows : List (List Int)} {R : List Int} {e o : Int} (G : GoodW rows e o) : ∀ (k : Nat) (p : Int), -e ≤ p → p < rows.length → (0 ≤ p → (rows.length : Int) - p ≤ k) → -e ≤ we rows R k p ∧ we rows R k p < 0
  | 0, p, h1, h2, h3 => by
    have : p < 0 := by omega
    exact ⟨h1, this⟩
  | k + 1, p, h1, h2, h3 => by
    unfold we
    split
    · exact ⟨h1, ‹_›⟩
    · obtain ⟨n1, n2, n3⟩ := nxP_ok (R := R) G (by omega) h2
      exact we_end G k _ n1 n2 fun h => by omega
theorem WN_ok {rows : List (List Int)} {R : List Int} {e o p : Int} (G : GoodW rows e o) (h1 : -e ≤ p) (h2 : p < rows.length) : 0 ≤ WN rows R p ∧ WN rows R p < e := by
  obtain ⟨a, b⟩ := we_end (R := R) G rows.length p h1 h2 fun h => by omega
  unfold WN
  omega
/-- a generator's statements for list(g), with what is known between them -/
def tGCut (t u : TGn) : TGn := fun D ys σ H => ∃ R : List V → St → Hp → Prop, t { D with nx := R } ys σ H ∧ ∀ ys σ H, R ys σ H → u D ys σ H
theorem gss_cutL {X : Cx} {st : Stmt} {rest : List Stmt} {t u : TGn} (a : L2.GS X st t) (b : L2.GSs X rest u) : L2.GSs X (st :: rest) (tGCut t u) :=
  ⟨fun A S ip R n ys s0 c fs Kf J gd lv s σ H D g hn k hI ⟨Rc, ht, hu⟩ => by
    refine seg_execs_cons (a.run A S ip R n ys s0 c fs _ J gd lv s σ H { D with nx := Rc } g hn ⟨fun n2 ys2 s02 s2 fl hn2 hs => ?_, k.exc⟩ hI ht)
    cases fl with
    | next =>
      obtain ⟨σ2, H2, I2, q⟩ := hs
      exact b.run A S ip R n2 ys2 s02 c fs Kf J gd lv s2 σ2 H2 D g hn2 k I2 (hu _ _ _ q)
    | brk => exact k.ok n2 ys2 s02 s2 .brk hn2 hs
    | cont => exact k.ok n2 ys2 s02 s2 .cont hn2 hs
    | ret v => exact k.ok n2 ys2 s02 s2 (.ret v) hn2 hs⟩
/-! ### promises -/
def ItW (l : List (List Int)) : Nat → V → Hp → Prop := fun j x H => ∃ t row, l[j]? = some row ∧ x = .ref t ∧ H t = some (.tup (row.map V.int))
theorem itW_mono (l : List (List Int)) : Mono (ItW l) := fun j x H H' ⟨t, row, h1, h2, h3⟩ e => ⟨t, row, h1, h2, e _ _ h3 fun φ z => by cases z⟩
def StV (v : V) (o z : Int) : Prop := (v = .non ∧ z = o) ∨ v = .int z
def spWalkF (C CP : Addr) : SpF := fun vs H n It => ∃ (web pu : Addr) (v : V) (rows : List (List Int)) (R : List Int) (e o z : Int), vs = [.ref web, .ref pu, v] ∧ WebAt C H web rows e o ∧ GoodW rows e o ∧ PupAt CP H pu R ∧ StV v o z ∧ -e ≤ z ∧ z < rows.length ∧ n = (WK rows R z).length ∧ It = ItW (WK rows R z)
def spWalkL (C CP CN : Addr) : SpG := fun vs H Q E => ∃ (web pu : Addr) (v : V) (rows : List (List Int)) (R : List Int) (e o z : Int), vs = [.ref web, .ref pu, v] ∧ WebAt C H web rows e o ∧ GoodW rows e o ∧ PupAt CP H pu R ∧ StV v o z ∧ Bd z ∧
  ((-e ≤ z ∧ z < rows.length) → ∀ H' as, Same H H' → RowsAt H' as (WK rows R z) → Q (as.map V.ref) H') ∧
  (¬ (-e ≤ z ∧ z < rows.length) → ∀ d H', H d = none → Same H H' → H' d = some (.xd [("place", .int z)]) → E (.ref CN) (some d) H')
def spBegin (C CN : Addr) : Sp := fun vs H Q E => ∃ (web : Addr) (v : V) (rows : List (List Int)) (e o z : Int), vs = [.ref web, v] ∧ WebAt C H web rows e o ∧ StV v o z ∧ Bd z ∧
  ((-e ≤ z ∧ z < rows.length) → Q (.int z) H) ∧ (¬ (-e ≤ z ∧ z < rows.length) → ∀ d H', H d = none → Same H H' → H' d = some (.xd [("place", .int z)]) → E (.ref CN) (some d) H')
def spTgt : Sp := fun vs H Q _ => ∃ (t : Addr) (row : List Int) (x : Int), vs = [.ref t, .int x] ∧ H t = some (.tup (row.map V.int)) ∧ 3 ≤ row.length ∧ Q (.int (tRow row x)) H
def spEnd (C CP CN : Addr) : Sp := fun vs H Q E => ∃ (web pu : Addr) (v : V) (rows : List (List Int)) (R : List Int) (e o z : Int), vs = [.ref web, .ref pu, v] ∧ WebAt C H web rows e o ∧ GoodW rows e o ∧ PupAt CP H pu R ∧ StV v o z ∧ Bd z ∧
  ((-e ≤ z ∧ z < rows.length) → ∀ H', Same H H' → Q (.int (WN rows R z)) H') ∧
  (¬ (-e ≤ z ∧ z < rows.length) → ∀ d H', H d = none → Same H H' → H' d = some (.xd [("place", .int z)]) → E (.ref CN) (some d) H')
def spRun (C CP : Addr) : Sp := fun vs H Q _ => ∃ (web pu : Addr) (rows : List (List Int)) (R : List Int) (e o : Int), vs = [.ref web, .ref pu] ∧ WebAt C H web rows e o ∧ GoodW rows e o ∧ PupAt CP H pu R ∧
  ∀ H' t as, Same H H' → H' t = some (.tup (as.map V.ref)) → RowsAt H' as ((WK rows R o).map List.tail) → Q (.ref t) H'
theorem WebAt.clH {C : Addr} {H : Hp} {x : Addr} {rows : List (List Int)} {e o : Int} (h : WebAt C H x rows e o) : WebAt C (cl H) x rows e o := by
  obtain ⟨dx, nt, as, h1, h2, h3, h4⟩ := h
  exact ⟨dx, nt, as, cl_ins h1, cl_tup h2, h3, fun i a row u v => cl_tup (h4 i a row u v)⟩
theorem PupAt.clH {C : Addr} {H : Hp} {x : Addr} {l : List Int} (h : PupAt C H x l) : PupAt C (cl H) x l := by
  obtain ⟨dx, t, h1, h2⟩ := h
  exact ⟨dx, t, cl_ins h1, cl_tup h2⟩
theorem RowsAt.snoc {H : Hp} {as : List Addr} {rows : List (List Int)} {x : Addr} {row : List Int} (h : RowsAt H as rows) (hx : H x = some (.tup (row.map V.int))) : RowsAt H (as ++ [x]) (rows ++ [row]) := by
  obtain ⟨h1, h2⟩ := h
  refine ⟨by rw [List.length_append, List.length_append, h1] <;> rfl, fun i b r e1 e2 => ?_⟩
  by_cases hi : i < as.length
  · rw [List.getElem?_append_left hi] at e1
    rw [List.getElem?_append_left (by rw [← h1]; exact hi)] at e2
    exact h2 i b r e1 e2
  · have hi2 : i = as.length := by
      have := (List.getElem?_eq_some_iff.mp e1).1
      rw [List.length_append, List.length_singleton] at this
      omega
    subst hi2
    rw [List.getElem?_append_right (Nat.le_refl _), Nat.sub_self] at e1
    rw [h1, List.getElem?_append_right (Nat.le_refl _), Nat.sub_self] at e2
    cases e1
    cases e2
    exact hx
theorem gfnL_of {P : Program} {w : World} {K : PySem.W.Frag} {mg : Str → Option Value} {base : Heap} {k : Nat} {f : Addr} {x qual : Str} {params : Arguments} {body : List Stmt} {scope : Scope} {dvs : List V} {kws : List (Str × V)} {fd : FuncData} {N ps : List Str} {sp : SpG}
    (F : FunD K x qual params body scope dvs kws f fd) (S : GScope N ps scope) (len : ∀ vs H Q E, sp vs H Q E → vs.length = ps.length)
    (hb : ∀ (cdv : Value) (A : Around) (outer : List Env) (s : Shared) (H : Hp) (vs : List V) (Q : List V → Hp → Prop) (E : XK) (pn : List (Addr × Obj)), Room k (A.deeper (envOfC qual scope s.heap.objs.size f cdv)) → sp vs H Q E →
      ∃ t, L2.GSs (gcxOf P w K mg base N qual scope f cdv A outer s H E pn) body t ∧ t { nx := fun ys _ H' => Q ys H', rt := fun ys v H' => v = .non ∧ Q ys H' } [] (start N vs) H) : GFn P w K mg base (k + 1) f fd ps sp := by
  obtain ⟨oc, od, dV, kV, doc, pm, an, cdv, ct, osl, rfl, lk, hcd, _, _⟩ := F.ex
  exact gfn_of lk hcd S len fun A outer s H vs Q E pn hr hsp => hb cdv A outer s H vs Q E pn hr hsp
end L2

namespace L2
open PySem PySem.Spec PyProof.Rows Gg
/-! ## lists of rows -/
theorem shLs (rows : List (List Int)) : SeqAt.shaped (.list (rows.map rowD)) = true := by
  have := depth_rows rows
  simp [SeqAt.shaped, PyData.canLay0, canLay_rows, PyData.depth]
  omega
def LsAt (H : Hp) (p : Addr) (rows : List (List Int)) : Prop := ∃ as, H p = some (.lst (as.map V.ref)) ∧ RowsAt H as rows
def TsAt (H : Hp) (p : Addr) (rows : List (List Int)) : Prop := ∃ as, H p = some (.tup (as.map V.ref)) ∧ RowsAt H as rows
theorem LsAt.same {H H' : Hp} {p : Addr} {rows : List (List Int)} (e : Same H H') (h : LsAt H p rows) : LsAt H' p rows := let ⟨as, a, b⟩ := h; ⟨as, e _ _ a, b.same e⟩
theorem TsAt.same {H H' : Hp} {p : Addr} {rows : List (List Int)} (e : Same H H') (h : TsAt H p rows) : TsAt H' p rows := let ⟨as, a, b⟩ := h; ⟨as, e _ _ a, b.same e⟩
theorem LsAt.gd {H H' : Hp} {p : Addr} {rows : List (List Int)} (e : Gd H H') (h : LsAt H p rows) : LsAt H' p rows := let ⟨as, a, b⟩ := h; ⟨as, e.1 _ _ (np_refs _) a, b.gd e⟩
theorem neD_ls {K : PySem.W.Frag} {H : Hp} {a b : Addr} {r1 r2 : List (List Int)} {Q : VK} (h1 : LsAt H a r1) (h2 : LsAt H b r2) (q : Q (.bl (!decide (r1 = r2))) H) : rNeD K (.ref a) (.ref b) H Q := by
  obtain ⟨as, a1, a2⟩ := h1
  obtain ⟨bs, b1, b2⟩ := h2
  exact ⟨_, _, .lst (lst_of a1) (dpAll_rows a2), .lst (lst_of b1) (dpAll_rows b2), shLs r1, shLs r2, by rw [PyData.eqv, ev_rows]; exact q⟩
theorem neD_ts {K : PySem.W.Frag} {H : Hp} {a b : Addr} {r1 r2 : List (List Int)} {Q : VK} (h1 : TsAt H a r1) (h2 : TsAt H b r2) (q : Q (.bl (!decide (r1 = r2))) H) : rNeD K (.ref a) (.ref b) H Q := by
  obtain ⟨as, a1, a2⟩ := h1
  obtain ⟨bs, b1, b2⟩ := h2
  exact neD_rows a1 b1 a2 b2 q
theorem ne_self {α : Type} [DecidableEq α] {x y : α} (h : x = y) {A B : Prop} (b : B) : if (!decide (x = y)) = true then A else B := by
  rw [decide_eq_true h]
  exact iteF b
/-- another object does not lie among the rows -/
theorem RowsAt.upd_lst {H : Hp} {as : List Addr} {rows : List (List Int)} {p : Addr} {o : HO} {xs : List V} (h : RowsAt H as rows) (hp : H p = some (.lst xs)) : RowsAt (upd H p o) as rows :=
  ⟨h.1, fun i a row e1 e2 => by rw [upd_ne (fun z => by have := h.2 i a row e1 e2; rw [z, hp] at this; cases this)]; exact h.2 i a row e1 e2⟩
theorem RowsAt.drop {H : Hp} {as : List Addr} {rows : List (List Int)} (k : Nat) (h : RowsAt H as rows) : RowsAt H (as.drop k) (rows.drop k) :=
  ⟨by rw [List.length_drop, List.length_drop, h.1], fun i a row e1 e2 => by rw [List.getElem?_drop] at e1 e2; exact h.2 _ a row e1 e2⟩
theorem RowsAt.take {H : Hp} {as : List Addr} {rows : List (List Int)} (k : Nat) (h : RowsAt H as rows) : RowsAt H (as.take k) (rows.take k) :=
  ⟨by rw [List.length_take, List.length_take, h.1], fun i a row e1 e2 => by
    rw [List.getElem?_take] at e1 e2
    split at e1
    · rw [if_pos ‹_›] at e2
      exact h.2 i a row e1 e2
    · cases e1⟩
theorem RowsAt.cons {H : Hp} {as : List Addr} {rows : List (List Int)} {x : Addr} {row : List Int} (h : RowsAt H as rows) (hx : H x = some (.tup (row.map V.int))) : RowsAt H (x :: as) (row :: rows) :=
  ⟨by rw [List.length_cons, List.length_cons, h.1], fun i a r e1 e2 => by
    cases i with
    | zero => cases e1; cases e2; exact hx
    | succ i => exact h.2 i a r e1 e2⟩
theorem RowsAt.nil {H : Hp} : RowsAt H [] [] := ⟨rfl, fun i a r e1 _ => by simp at e1⟩
/-- xs[k:] of a list -/
theorem cut_from {α : Type} (f : α → V) (as : List α) (k : Nat) : cutV (as.map f) (some (k : Int)) none = (as.drop k).map f := by
  unfold cutV
  rw [HT.sIx_nat, HT.sIx_none, List.length_map, List.map_drop]
  have e : List.drop (min k as.length) (as.map f) = List.drop k (as.map f) := by
    rcases Nat.le_total k as.length with h | h
    · rw [Nat.min_eq_left h]
    · rw [Nat.min_eq_right h, List.drop_eq_nil_of_le (by rw [List.length_map]; exact Nat.le_refl _), List.drop_eq_nil_of_le (by rw [List.length_map]; exact h)]
  rw [e]
  refine List.take_of_length_le ?_
  rw [List.length_drop, List.length_map]
  omega
/-! ## more of walks -/
theorem WK_at {rows : List (List Int)} {R : List Int} {e o : Int} (G : GoodW rows e o) : ∀ (k : Nat) (p : Int), -e ≤ p → p < rows.length → ∀ row, (WK rows R p)[k]? = some row → ∃ p' : Int, 0 ≤ p' ∧ p' < rows.length ∧ row = itP rows R p' ∧ WK rows R p' = (WK rows R p).drop k ∧ WN rows R p' = WN rows R p
  | k, p, h1, h2, row, hr => by
    have p0 : 0 ≤ p := by
      refine Int.not_lt.mp fun hn => ?_
      rw [WK_neg hn] at hr
      simp at hr
    obtain ⟨c1, c2⟩ := WK_cons (R := R) G p0 h2
    cases k with
    | zero =>
      rw [c1] at hr
      cases hr
      exact ⟨p, p0, h2, rfl, rfl, rfl⟩
    | succ k =>
      rw [c1] at hr
      obtain ⟨n1, n2, _⟩ := nxP_ok (R := R) G p0 h2
      obtain ⟨p', a1, a2, a3, a4, a5⟩ := WK_at G k _ n1 n2 row hr
      exact ⟨p', a1, a2, a3, by rw [a4, c1]; rfl, a5.trans c2.symm⟩
theorem wl_agree {rows : List (List Int)} {R S : List Int} {e o : Int} (G : GoodW rows e o) {A : Nat → Int → Prop} (hA : ∀ i q r, rows[i]? = some (q :: r) → A i q ∧ ∀ t ∈ r, 0 ≤ t → ¬ A t.toNat q ∧ ∀ z, A t.toNat z → A i z) :
    ∀ (k : Nat) (p : Int), p < rows.length → (∀ z, 0 ≤ p → A p.toNat z → (z ∈ norm R ↔ z ∈ norm S)) → wl rows R k p = wl rows S k p ∧ we rows R k p = we rows S k p
  | 0, p, _, _ => ⟨rfl, rfl⟩
  | k + 1, p, h2, h => by
    unfold wl we
    by_cases hn : p < 0
    · rw [if_pos hn, if_pos hn, if_pos hn, if_pos hn]
      exact ⟨rfl, rfl⟩
    · rw [if_neg hn, if_neg hn, if_neg hn, if_neg hn]
      have p0 : 0 ≤ p := by omega
      obtain ⟨q, t1, t2, r, hr, hrw, _, _, b1, b2⟩ := row3 G p0 h2
      rw [hr] at hrw
      obtain ⟨a1, a2⟩ := hA _ _ _ hrw
      have hq : qP rows p = q := by unfold qP; rw [hr] <;> rfl
      have ha : aP rows R p = aP rows S p := by
        unfold aP
        rw [hq]
        have := h q p0 a1
        by_cases hin : q ∈ norm R
        · rw [if_pos hin, if_pos (this.mp hin)]
        · rw [if_neg hin, if_neg fun z => hin (this.mpr z)]
      have hnx : nxP rows R p = nxP rows S p := by unfold nxP; rw [ha]
      have hmem : nxP rows S p = t1 ∨ nxP rows S p = t2 := by
        unfold nxP tRow
        rw [hr]
        split
        · exact .inl rfl
        · exact .inr rfl
      obtain ⟨n1, n2, n3⟩ := nxP_ok (R := S) G p0 h2
      obtain ⟨i1, i2⟩ := wl_agree G hA k (nxP rows S p) n2 fun z hz hz2 => h z p0 <| by
        refine (a2 (nxP rows S p) ?_ hz).2 z hz2
        rcases hmem with h | h <;> rw [h] <;> simp
      unfold itP
      rw [ha, hnx, i1, i2]
      exact ⟨rfl, rfl⟩
/-- a question that is asked at a node tells nothing behind it -/
theorem WK_agree {rows : List (List Int)} {R S : List Int} {e o p t : Int} (G : GoodW rows e o) (p0 : 0 ≤ p) (p1 : p < rows.length) (ht : t ∈ (rowP rows p).tail) (h : ∀ z, z ≠ qP rows p → (z ∈ norm R ↔ z ∈ norm S)) : WK rows R t = WK rows S t ∧ WN rows R t = WN rows S t := by
  obtain ⟨A, hA⟩ := G.cert
  obtain ⟨q, t1, t2, r, hr, hrw, _, _, b1, b2⟩ := row3 G p0 p1
  rw [hr] at hrw
  have hq : qP rows p = q := by unfold qP; rw [hr] <;> rfl
  rw [hr] at ht
  obtain ⟨a1, a2⟩ := hA _ _ _ hrw
  obtain ⟨_, _, hrow, _, _, _, hb⟩ := G.row _ _ hrw
  cases hrow
  have tl := (hb t ht).2.1
  obtain ⟨i1, i2⟩ := wl_agree (R := R) (S := S) G hA rows.length t tl fun z hz hz2 => h z fun hzq => by
    rw [hzq, hq] at hz2
    exact (a2 t ht hz).1 hz2
  exact ⟨i1, by unfold WN; rw [i2]⟩
theorem end_neg {rows : List (List Int)} {R : List Int} {e o p : Int} (G : GoodW rows e o) (h1 : -e ≤ p) (h2 : p < rows.length) : WK rows R (-1 - WN rows R p) = [] ∧ WN rows R (-1 - WN rows R p) = WN rows R p := by
  obtain ⟨a, b⟩ := WN_ok (R := R) G h1 h2
  refine ⟨WK_neg (by omega), ?_⟩
  rw [WN_neg (by omega)]
  omega
/-! ## the calls -/
theorem walk_k {C CP CN : Addr} {H : Hp} {web pu : Addr} {v : V} {rows : List (List Int)} {R : List Int} {e o z : Int} {Q : List V → Hp → Prop} {E : XK} (hw : WebAt C H web rows e o) (G : GoodW rows e o) (hp : PupAt CP H pu R) (hst : StV v o z) (z0 : -e ≤ z) (z1 : z < rows.length)
    (k : ∀ H' as, Same H H' → RowsAt H' as (WK rows R z) → Q (as.map V.ref) H') : spWalkL C CP CN [.ref web, .ref pu, v] H Q E := by
  have gl := G.len
  have ge := G.e2
  exact ⟨web, pu, v, rows, R, e, o, z, rfl, hw, G, hp, hst, Bd.small (by omega) (by omega), fun _ => k, fun h => absurd ⟨z0, z1⟩ h⟩
theorem ls_new {H H' : Hp} {p : Addr} {as : List Addr} {rows : List (List Int)} (f : Same H H') (hr : RowsAt H' as rows) (np : H' p = none) : Same H (upd H' p (.lst (as.map V.ref))) ∧ LsAt (upd H' p (.lst (as.map V.ref))) p rows :=
  ⟨f.trans (same_upd np), as, upd_same, hr.same (same_upd np)⟩
theorem end_k {C CP CN : Addr} {H : Hp} {web pu : Addr} {v : V} {rows : List (List Int)} {R : List Int} {e o z : Int} {Q : VK} {E : XK} (hw : WebAt C H web rows e o) (G : GoodW rows e o) (hp : PupAt CP H pu R) (hst : StV v o z) (z0 : -e ≤ z) (z1 : z < rows.length)
    (k : ∀ H', Same H H' → Q (.int (WN rows R z)) H') : spEnd C CP CN [.ref web, .ref pu, v] H Q E := by
  have gl := G.len
  have ge := G.e2
  exact ⟨web, pu, v, rows, R, e, o, z, rfl, hw, G, hp, hst, Bd.small (by omega) (by omega), fun _ H' f => k H' f, fun h => absurd ⟨z0, z1⟩ h⟩
theorem run_k {C CP : Addr} {H : Hp} {web pu : Addr} {rows : List (List Int)} {R : List Int} {e o : Int} {Q : VK} {E : XK} (hw : WebAt C H web rows e o) (G : GoodW rows e o) (hp : PupAt CP H pu R)
    (k : ∀ H' p, Same H H' → TsAt H' p ((WK rows R o).map List.tail) → Q (.ref p) H') : spRun C CP [.ref web, .ref pu] H Q E :=
  ⟨web, pu, rows, R, e, o, rfl, hw, G, hp, fun H' t as f ht hr => k H' t f ⟨as, ht, hr⟩⟩
theorem WN_bd {rows : List (List Int)} {R : List Int} {e o p : Int} (G : GoodW rows e o) (h1 : -e ≤ p) (h2 : p < rows.length) : -e ≤ -1 - WN rows R p ∧ -1 - WN rows R p < 0 := by
  obtain ⟨a, b⟩ := WN_ok (R := R) G h1 h2
  omega
/-- one node of a web and a pupil who answers its question with x -/
def spNF (C CP : Addr) : Sp := fun vs H Q _ => ∃ (web pu : Addr) (k : Nat) (rows : List (List Int)) (R : List Int) (e o : Int), vs = [.ref web, .ref pu, .int (k : Int)] ∧ WebAt C H web rows e o ∧ GoodW rows e o ∧ PupAt CP H pu R ∧ k < rows.length ∧ ∀ H', Same H H' → Q (.bl true) H'
theorem sub_norm {R : List Int} {q z : Int} : z ∈ norm (fSub R [q]) ↔ z ∈ norm R ∧ z ≠ q := by
  simp only [fSub, mem_norm, List.mem_filter, List.mem_singleton, Bool.not_eq_true', decide_eq_false_iff_not]
  exact ⟨fun ⟨a, b, c⟩ => ⟨⟨a, b⟩, c⟩, fun ⟨⟨a, b⟩, c⟩ => ⟨a, b, c⟩⟩
theorem add_norm {R : List Int} {q z : Int} (h : 0 ≤ q ∧ q < 48) : z ∈ norm (R ++ [q]) ↔ z ∈ norm R ∨ z = q := by
  simp only [mem_norm, List.mem_append, List.mem_singleton]
  constructor
  · rintro ⟨a, b | b⟩
    · exact .inl ⟨a, b⟩
    · exact .inr b
  · rintro (⟨a, b⟩ | rfl)
    · exact ⟨a, .inl b⟩
    · exact ⟨h, .inr rfl⟩
end L2

namespace L2
open PySem PySem.Spec PyProof.Rows Gg
/-! ## walks of two pupils -/
/-- xs[:k] of a list -/
theorem cut_to {α : Type} (f : α → V) (as : List α) (k : Nat) : cutV (as.map f) none (some (k : Int)) = (as.take k).map f := by
  unfold cutV
  rw [HT.sIx_nat, HT.sIx_none, List.length_map, List.drop_zero, Nat.sub_zero, ← List.map_take]
  rcases Nat.le_total k as.length with h | h
  · rw [Nat.min_eq_left h]
  · rw [Nat.min_eq_right h, List.take_of_length_le (Nat.le_refl _), List.take_of_length_le h]
theorem aP_cong {rows : List (List Int)} {R S : List Int} {p : Int} (h : qP rows p ∈ norm R ↔ qP rows p ∈ norm S) : aP rows R p = aP rows S p := by
  unfold aP
  by_cases hin : qP rows p ∈ norm R
  · rw [if_pos hin, if_pos (h.mp hin)]
  · rw [if_neg hin, if_neg fun z => hin (h.mpr z)]
/-- the same answers on the walk: the same walk -/
theorem wl_cong {rows : List (List Int)} {R S : List Int} : ∀ (k : Nat) (p : Int), (∀ z, itP rows R z ∈ wl rows R k p → (qP rows z ∈ norm R ↔ qP rows z ∈ norm S)) → wl rows R k p = wl rows S k p ∧ we rows R k p = we rows S k p
  | 0, p, _ => ⟨rfl, rfl⟩
  | k + 1, p, h => by
    unfold wl we
    unfold wl at h
    by_cases hn : p < 0
    · rw [if_pos hn, if_pos hn, if_pos hn, if_pos hn]
      exact ⟨rfl, rfl⟩
    · rw [if_neg hn] at h
      rw [if_neg hn, if_neg hn, if_neg hn, if_neg hn]
      have ha : aP rows R p = aP rows S p := aP_cong (h p List.mem_cons_self)
      have hx : nxP rows R p = nxP rows S p := by unfold nxP; rw [ha]
      obtain ⟨i1, i2⟩ := wl_cong k (nxP rows R p) fun z hz => h z (List.mem_cons_of_mem _ hz)
      rw [← hx, i1, i2]
      unfold itP
      rw [ha]
      exact ⟨rfl, rfl⟩
theorem WK_cong {rows : List (List Int)} {R S : List Int} {p : Int} (h : ∀ z, itP rows R z ∈ WK rows R p → (qP rows z ∈ norm R ↔ qP rows z ∈ norm S)) : WK rows R p = WK rows S p ∧ WN rows R p = WN rows S p := by
  obtain ⟨a, b⟩ := wl_cong _ _ h
  exact ⟨a, by unfold WN; rw [b]⟩
/-- one answer turned: the same walk up to it -/
theorem WK_turn0 {rows : List (List Int)} {R S : List Int} {e o : Int} (G : GoodW rows e o) {A : Nat → Int → Prop} (hA : ∀ i q r, rows[i]? = some (q :: r) → A i q ∧ ∀ t ∈ r, 0 ≤ t → ¬ A t.toNat q ∧ ∀ z, A t.toNat z → A i z) :
    ∀ (k : Nat) (p : Int), -e ≤ p → p < rows.length → ∀ row, (WK rows R p)[k]? = some row → ∃ p' : Int, 0 ≤ p' ∧ p' < rows.length ∧ row = itP rows R p' ∧ 0 ≤ p ∧ A p.toNat (qP rows p') ∧
      ((∀ z, z ≠ qP rows p' → (z ∈ norm R ↔ z ∈ norm S)) → (WK rows S p).take k = (WK rows R p).take k ∧ (WK rows S p).drop k = WK rows S p' ∧ WN rows S p = WN rows S p')
  | k, p, h1, h2, row, hr => by
    have p0 : 0 ≤ p := by
      refine Int.not_lt.mp fun hn => ?_
      rw [WK_neg hn] at hr
      simp at hr
    obtain ⟨c1, c2⟩ := WK_cons (R := R) G p0 h2
    obtain ⟨d1, d2⟩ := WK_cons (R := S) G p0 h2
    obtain ⟨q, t1, t2, r, hrow, hrw, _, _, b1, b2⟩ := row3 G p0 h2
    have hq : qP rows p = q := by unfold qP; rw [hrow] <;> rfl
    rw [hrow] at hrw
    obtain ⟨a1, a2⟩ := hA _ _ _ hrw
    cases k with
    | zero =>
      rw [c1] at hr
      cases hr
      exact ⟨p, p0, h2, rfl, p0, by rw [hq]; exact a1, fun _ => ⟨rfl, rfl, rfl⟩⟩
    | succ k =>
      rw [c1] at hr
      obtain ⟨n1, n2, _⟩ := nxP_ok (R := R) G p0 h2
      obtain ⟨p', e1, e2, e3, e4, e5, e6⟩ := WK_turn0 (S := S) G hA k _ n1 n2 row hr
      have hm : nxP rows R p = t1 ∨ nxP rows R p = t2 := by
        unfold nxP tRow
        rw [hrow]
        split
        · exact .inl rfl
        · exact .inr rfl
      obtain ⟨a3, a4⟩ := a2 (nxP rows R p) (by rcases hm with h | h <;> rw [h] <;> simp) e4
      refine ⟨p', e1, e2, e3, p0, a4 _ e5, fun h => ?_⟩
      have hne : qP rows p ≠ qP rows p' := fun z => by rw [← z, hq] at e5; exact a3 e5
      have ha : aP rows R p = aP rows S p := aP_cong (h _ hne)
      have hx : nxP rows S p = nxP rows R p := by unfold nxP; rw [ha]
      have hi : itP rows S p = itP rows R p := by unfold itP; rw [ha]
      obtain ⟨f1, f2, f3⟩ := e6 h
      rw [c1, d1, d2, hx, hi, List.take_succ_cons, List.take_succ_cons, f1, List.drop_succ_cons]
      exact ⟨rfl, f2, f3⟩
theorem WK_turn {rows : List (List Int)} {R S : List Int} {e o p : Int} {k : Nat} {row : List Int} (G : GoodW rows e o) (h1 : -e ≤ p) (h2 : p < rows.length) (hr : (WK rows R p)[k]? = some row) : ∃ p' : Int, 0 ≤ p' ∧ p' < rows.length ∧ row = itP rows R p' ∧
      ((∀ z, z ≠ qP rows p' → (z ∈ norm R ↔ z ∈ norm S)) → (WK rows S p).take k = (WK rows R p).take k ∧ (WK rows S p).drop k = WK rows S p' ∧ WN rows S p = WN rows S p') := by
  obtain ⟨A, hA⟩ := G.cert
  obtain ⟨p', a, b, c, _, _, d⟩ := WK_turn0 (S := S) G hA k p h1 h2 row hr
  exact ⟨p', a, b, c, d⟩
theorem wl_row {rows : List (List Int)} {R : List Int} : ∀ (k : Nat) (p : Int) (row : List Int), row ∈ wl rows R k p → ∃ z, row = itP rows R z
  | 0, p, row, h => by cases h
  | k + 1, p, row, h => by
    unfold wl at h
    split at h
    · cases h
    · rcases List.mem_cons.mp h with h | h
      · exact ⟨p, h⟩
      · exact wl_row k _ row h
theorem WK_row {rows : List (List Int)} {R : List Int} {p : Int} {row : List Int} (h : row ∈ WK rows R p) : ∃ z, row = itP rows R z := wl_row _ _ _ h
theorem WK_q {rows : List (List Int)} {R : List Int} {e o p : Int} (G : GoodW rows e o) (h1 : -e ≤ p) (h2 : p < rows.length) {row : List Int} (h : row ∈ WK rows R p) : ∃ z, row = itP rows R z ∧ 0 ≤ qP rows z ∧ qP rows z < 48 := by
  obtain ⟨k, hk⟩ := List.getElem?_of_mem h
  obtain ⟨z, z0, z1, hz, _⟩ := WK_at G k p h1 h2 row hk
  obtain ⟨q, t1, t2, r, hrow, hrw, q0, q1, _⟩ := row3 G z0 z1
  have hq : qP rows z = q := by unfold qP; rw [hrow] <;> rfl
  exact ⟨z, hz, by rw [hq]; exact q0, by rw [hq]; exact q1⟩
/-- the questions of a walk -/
def qsW (l : List (List Int)) : List Int := l.map fun row => (row[1]?).getD 0
/-- those that are answered right -/
def rtW (l : List (List Int)) : List Int := (l.filter fun row => decide ((row[2]?).getD 0 = 1)).map fun row => (row[1]?).getD 0
theorem mem_rtW {rows : List (List Int)} {R : List Int} {p q : Int} : q ∈ rtW (WK rows R p) ↔ ∃ z, itP rows R z ∈ WK rows R p ∧ qP rows z = q ∧ q ∈ norm R := by
  unfold rtW
  rw [List.mem_map]
  constructor
  · rintro ⟨row, h, rfl⟩
    obtain ⟨h1, h2⟩ := List.mem_filter.mp h
    obtain ⟨z, rfl⟩ := WK_row h1
    refine ⟨z, h1, rfl, ?_⟩
    have h2 : aP rows R z = 1 := of_decide_eq_true h2
    unfold aP at h2
    split at h2
    · assumption
    · cases h2
  · rintro ⟨z, h1, rfl, h2⟩
    refine ⟨_, List.mem_filter.mpr ⟨h1, decide_eq_true ?_⟩, rfl⟩
    show aP rows R z = 1
    unfold aP
    rw [if_pos h2]
theorem mem_qsW {rows : List (List Int)} {R : List Int} {p q : Int} : q ∈ qsW (WK rows R p) ↔ ∃ z, itP rows R z ∈ WK rows R p ∧ qP rows z = q := by
  unfold qsW
  rw [List.mem_map]
  constructor
  · rintro ⟨row, h, rfl⟩
    obtain ⟨z, rfl⟩ := WK_row h
    exact ⟨z, h, rfl⟩
  · rintro ⟨z, h, rfl⟩
    exact ⟨_, h, rfl⟩
theorem rtW_snoc {rows l : List (List Int)} {R : List Int} {z : Int} : rtW (l ++ [itP rows R z]) = rtW l ++ if aP rows R z = 1 then [qP rows z] else [] := by
  unfold rtW
  rw [List.filter_append, List.map_append]
  congr 1
  by_cases h : aP rows R z = 1
  · rw [if_pos h, List.filter_cons, if_pos (show decide (((itP rows R z)[2]?).getD 0 = 1) = true from decide_eq_true h)]
    rfl
  · rw [if_neg h, List.filter_cons, if_neg (show ¬ decide (((itP rows R z)[2]?).getD 0 = 1) = true from fun q => h (of_decide_eq_true q))]
    rfl
/-- one step of a told walk is turned about -/
def spTF (C CP : Addr) : Sp := fun vs H Q _ => ∃ (web pu tp : Addr) (k : Nat) (rows : List (List Int)) (R : List Int) (e o : Int), vs = [.ref web, .ref pu, .ref tp, .int (k : Int)] ∧ WebAt C H web rows e o ∧ GoodW rows e o ∧ PupAt CP H pu R ∧ LsAt H tp (WK rows R o) ∧ k < (WK rows R o).length ∧ ∀ H', Same H H' → Q (.bl true) H'
end L2

namespace L2
open PySem PySem.Spec PyProof.Rows
/-! ## d.get(k) of a dict of the written part -/
def tKGet1 (K : PySem.W.Frag) (d : Addr) (ty : TE) : TE := fun σ H Q => ty σ H fun y H2 => ∃ (z : Str) (r : Option Value) (o : V), y = .str z ∧ PySem.W.nsIn K d z = some r ∧ RelV o (r.getD .none) ∧ Q o H2
section
variable {X : Cx} {d : Addr} {es : Array DictEntry} {n : Nat}
theorem kd_get1 {pins : List (Addr × Obj)} {σ : St} {H : Hp} {s : Shared} {Q : Value → Shared → Prop} {E : Value → Shared → Prop} {z : Str} {t : Tok} {r : Option Value} (D : KDict X.K X.w d es n) (I : Inv X pins σ H s) (e : PySem.W.nsIn X.K d z = some r)
    (h : ∀ s', Inv X pins σ H s' → Q (r.getD .none) s') : wpAny (model X.prog X.w) X.A (call (.builtin "dict.get") [.ref d, .str z t]) Q E s := by
  have dd := PySem.W.mapOf_K (prog := X.prog) (w := X.w) I.kIn D.at_ D.lit
  refine call_meetsIn PySem.F.slot_dict_get dd.typeIs PySem.F.entry_dict_get (PySem.F.args_dict_get_2 _ _) (meets_dict_get (strKind X.prog X.w) d (PySem.strKind_is X.prog X.w z t) D.low) ⟨_, dd, ?_⟩
  show Q ((findBy Value.isStrOf es z).getD .none) _
  rw [PySem.W.find_K D.at_ e]
  exact h _ (I.tok _)
theorem pe_kdget1 {x : Str} {p apos cpos : Pos} {e : Expr} {ty : TE} (D : KDict X.K X.w d es n) (hg : Gl X x) (hm : X.mg x = some (.ref d)) (m : M1 X (.Name x p) "get" apos e cpos) (he : PE X e ty) (hdb : (x == ("__debug__" : Str)) = false := by decide) :
    PE X (.Call (.Attribute (.Name x p) "get" apos) [e] [] cpos) (tKGet1 X.K d ty) := by
  refine ⟨fun pins s σ H Q I h => ?_⟩
  have ho : PE X (.Name x p) (tC (.ref d)) := pe_glob (v := .ref d) hg hm rfl hdb
  refine wpAny_Call_method m.base m.few m.line PySem.F.plainAttrs_dict PySem.F.slot_dict_get PySem.F.type_dict_get (thn (ho.run pins s σ H (fun v H2 => v = .ref d ∧ H2 = H) I ⟨rfl, rfl⟩) fun u s1 ⟨v, H1, I1, rx, ex, eH⟩ => ?_)
  subst ex
  subst eH
  obtain rfl : u = Value.ref d := rx
  refine ⟨kd_type D I1, fun b q => ?_, ?_⟩
  · cases q
    exact ⟨_, I1.kIn _ _ D.at_, rfl⟩
  · rw [m.trees]
    refine Calls.callWith_builtin rfl (Calls.evalArgs_plain (Calls.spliced_cons (thn (he.run pins s1 σ _ _ I1 h) fun iv s2 ⟨y, H2, I2, ry, z, r, o, ey, en, ro, q2⟩ => Calls.spliced_nil ?_)))
    subst ey
    obtain ⟨t, rfl⟩ := ry
    exact kd_get1 D I2 en fun s3 I3 => ⟨o, H2, I3, ro, q2⟩
end
end L2

namespace L2
open PySem PySem.Spec PyProof.Rows
/-! ## a dict of the written part whose keys are None and ints -/
def NKeys : List DictEntry → Prop
  | [] => True
  | e :: r => ((e.key = .none ∧ e.hash = reduceHash 0xFCA86420) ∨ ∃ i t, e.key = .int i t ∧ e.hash = hashInt i) ∧ NKeys r
theorem NKeys.all : ∀ {l : List DictEntry}, NKeys l → ∀ e ∈ l, (e.key = .none ∧ e.hash = reduceHash 0xFCA86420) ∨ ∃ i t, e.key = .int i t ∧ e.hash = hashInt i
  | _ :: _, ⟨h, _⟩, _, .head _ => h
  | _ :: _, ⟨_, r⟩, _, .tail _ m => r.all _ m
structure NDict (K : PySem.W.Frag) (d : Addr) (es : Array DictEntry) (n : Nat) : Prop where
  at_ : K.lookup d = some ⟨.type "dict", none, .dict es n, #[]⟩
  keys : NKeys es.toList
/-- the keys of a written dict, all of them -/
def KeysAre : List DictEntry → List Str → Prop
  | [], [] => True
  | e :: r, k :: ks => (∃ t, e.key = .str k t) ∧ KeysAre r ks
  | _, _ => False
theorem KeysAre.all : ∀ {l : List DictEntry} {ks : List Str}, KeysAre l ks → ∀ e ∈ l, ∃ k t, k ∈ ks ∧ e.key = .str k t
  | _ :: _, k :: _, ⟨⟨t, h⟩, _⟩, _, .head _ => ⟨k, t, List.mem_cons_self, h⟩
  | _ :: _, _ :: _, ⟨_, r⟩, _, .tail _ m => let ⟨k, t, h1, h2⟩ := r.all _ m; ⟨k, t, List.mem_cons_of_mem _ h1, h2⟩
theorem ns_miss {K : PySem.W.Frag} {d : Addr} {es : Array DictEntry} {n : Nat} {ks : List Str} {z : Str} (h : K.lookup d = some ⟨.type "dict", none, .dict es n, #[]⟩) (hk : KeysAre es.toList ks) (hz : z ∉ ks) : PySem.W.nsIn K d z = some none := by
  unfold PySem.W.nsIn
  rw [h]
  dsimp only
  have f : es.toList.find? (·.key.isStr z) = none := List.find?_eq_none.mpr fun e he => by
    obtain ⟨k, t, h1, h2⟩ := hk.all e he
    rw [h2]
    intro q
    have : z = k := by
      rw [PySem.W.isStr_of] at q
      simp [Value.isStrOf] at q
      first | exact q | exact q.symm
    exact hz (this ▸ h1)
  rw [f]
  dsimp only
  have g : es.toList.any (·.refKey) = false := List.any_eq_false.mpr fun e he => by
    obtain ⟨k, t, h1, h2⟩ := hk.all e he
    simp [DictEntry.refKey, h2]
  rw [g]
  rfl
def nkV : V → Option Key → Prop
  | .non, k => k = none
  | .int i, k => k = some (.inl i)
  | _, _ => False
section
variable {X : Cx} {d : Addr} {es : Array DictEntry} {n : Nat}
theorem nd_map {P : Program} {w : World} {K : PySem.W.Frag} {h : Heap} (kin : K.In h) (D : NDict K d es n) : h.MapOf (noneKind P w) d (fun k => findBy nkIs es k) :=
  ⟨_, es, n, kin _ _ D.at_, ⟨rfl, rfl, rfl⟩, rfl, fun e he => by
    rcases D.keys.all e (Array.mem_toList_iff.mpr he) with ⟨h1, h2⟩ | ⟨i, t, h1, h2⟩
    · exact ⟨none, by rw [h1]; rfl, h2⟩
    · exact ⟨some (.inl i), by rw [h1]; exact (by simp [noneKind, nkIs, keyIs, Value.isInt]), h2⟩, fun _ => rfl⟩
theorem nk_is {y : V} {v : Value} {k : Option Key} (r : RelV y v) (h : nkV y k) : nkIs k v = true := by
  cases y with
  | non =>
    obtain rfl : k = none := h
    cases r
    rfl
  | int i =>
    obtain rfl : k = some (.inl i) := h
    obtain ⟨t, rfl⟩ := r
    simp [nkIs, keyIs, Value.isInt]
  | _ => exact absurd h id
/-- d[key] -/
def rItemN (d : Addr) (es : Array DictEntry) : R2 := fun x y H Q => ∃ (k : Option Key) (u0 : Value) (v0 : V), x = .ref d ∧ nkV y k ∧ findBy nkIs es k = some u0 ∧ RelV v0 u0 ∧ Q v0 H
theorem ix_nd (D : NDict X.K d es n) : IxR X (rItemN d es) := by
  intro value slice pins s σ H x y v u Q I rx ry h hs
  obtain ⟨k, u0, v0, rfl, hk, e, r, q⟩ := h
  cases rx
  have hm := nd_map (P := X.prog) (w := X.w) I.kIn D
  exact tail_any hm.typeIs slot_dict_getitem.lookup (wpAny_getItem_of (knd := noneKind X.prog X.w) (nk_is ry hk) hm e ⟨v0, H, I.tok _, r, q⟩) hs
/-- what stands under a key -/
def nnIn (K : PySem.W.Frag) (d : Addr) (k : Option Key) : Option Value := match K.lookup d with
  | some o => (match o.data with
    | .dict es _ => findBy nkIs es k
    | _ => none)
  | none => none
theorem nn_at {K : PySem.W.Frag} {k : Option Key} (h : K.lookup d = some ⟨.type "dict", none, .dict es n, #[]⟩) : nnIn K d k = findBy nkIs es k := by
  unfold nnIn
  rw [h]
def rItemM (K : PySem.W.Frag) (d : Addr) : R2 := fun x y H Q => ∃ (k : Option Key) (u0 : Value) (v0 : V), x = .ref d ∧ nkV y k ∧ nnIn K d k = some u0 ∧ RelV v0 u0 ∧ Q v0 H
theorem ix_ndM (D : NDict X.K d es n) : IxR X (rItemM X.K d) := by
  intro value slice pins s σ H x y v u Q I rx ry h hs
  obtain ⟨k, u0, v0, e0, hk, e, r⟩ := h
  rw [nn_at D.at_] at e
  exact ix_nd D value slice pins s σ H x y v u Q I rx ry ⟨k, u0, v0, e0, hk, e, r⟩ hs
/-- d[key], the keys texts -/
def rItemK (K : PySem.W.Frag) (d : Addr) : R2 := fun x y H Q => ∃ (z : Str) (u0 : Value) (v0 : V), x = .ref d ∧ y = .str z ∧ PySem.W.nsIn K d z = some (some u0) ∧ RelV v0 u0 ∧ Q v0 H
theorem ix_kd (D : KDict X.K X.w d es n) : IxR X (rItemK X.K d) := by
  intro value slice pins s σ H x y v u Q I rx ry h hs
  obtain ⟨z, u0, v0, rfl, rfl, e, r, q⟩ := h
  cases rx
  obtain ⟨t, rfl⟩ := ry
  have hm := PySem.W.mapOf_K (prog := X.prog) (w := X.w) I.kIn D.at_ D.lit
  exact tail_any hm.typeIs slot_dict_getitem.lookup (wpAny_getItem_of (PySem.strKind_is X.prog X.w z t) hm (PySem.W.find_K D.at_ e) ⟨v0, H, I.tok _, r, q⟩) hs
end
end L2

namespace L2
open PySem PySem.Spec PyProof.Rows TL
/-! ## words that write numbers -/
theorem tx_ascii (z : Str) : Txt.isascii z = (tl z).all (· < 128) := by
  show z.cps.all (· < 128) = z.cps.toList.all (· < 128)
  rw [Array.all_toList]
theorem uni_digit {c : Nat} (h : c < 128) : Unicode.isDigit c = (decide (48 ≤ c) && decide (c ≤ 57)) := by
  have k : ∀ n : _root_.Fin 128, Unicode.isDigit n.val = (decide (48 ≤ n.val) && decide (n.val ≤ 57)) := by decide +kernel
  exact k ⟨c, h⟩
theorem tx_digit {z : Str} (h : Txt.isascii z = true) : Txt.isdigit z = true ↔ tl z ≠ [] ∧ NumText.AllDigits (tl z) := by
  rw [tx_ascii, List.all_eq_true] at h
  show (decide (z.length > 0) && z.cps.all Unicode.isDigit) = true ↔ _
  rw [Bool.and_eq_true, decide_eq_true_iff, len_tl, ← Array.all_toList, List.all_eq_true]
  refine ⟨fun ⟨h1, h2⟩ => ⟨fun e => by rw [e] at h1; simp at h1, fun c hc => ?_⟩, fun ⟨h1, h2⟩ => ⟨List.length_pos_iff.mpr h1, fun c hc => ?_⟩⟩
  · have h3 := h2 c hc
    have h4 := h c hc
    rw [decide_eq_true_iff] at h4
    rw [uni_digit h4, Bool.and_eq_true, decide_eq_true_iff, decide_eq_true_iff] at h3
    exact h3
  · have h4 := h c hc
    rw [decide_eq_true_iff] at h4
    rw [uni_digit h4, Bool.and_eq_true, decide_eq_true_iff, decide_eq_true_iff]
    exact h2 c hc
theorem num_of_digits {l : List Nat} (h : NumText.AllDigits l) (h1 : l ≠ []) (h0 : l = [48] ∨ l.head? ≠ some 48) : l = numL (NumText.digitsVal l) := by
  cases l with
  | nil => exact absurd rfl h1
  | cons c r =>
    have hc := h c List.mem_cons_self
    have e := NumText.toDigits_digitsVal r.length (c :: r) (by rw [List.length_cons]) h (by
      rcases h0 with h0 | h0
      · left
        rw [(List.cons.inj h0).2]
        rfl
      · right
        refine ⟨c, r, rfl, ?_⟩
        have : c ≠ 48 := fun z => h0 (by rw [z]; rfl)
        omega)
    unfold numL
    rw [e, List.map_map]
    have : ∀ k : List Nat, NumText.AllDigits k → k.map (Char.toNat ∘ Char.ofNat) = k := fun k hk => by
      induction k with
      | nil => rfl
      | cons d s ih =>
        have hd := hk d List.mem_cons_self
        rw [List.map_cons, ih fun x hx => hk x (List.mem_cons_of_mem _ hx)]
        congr 1
        have k2 : ∀ n : _root_.Fin 128, (Char.ofNat n.val).toNat = n.val := by decide +kernel
        exact k2 ⟨d, by omega⟩
    exact (this _ h).symm
theorem numL_all (n : Nat) : NumText.AllDigits (numL n) := numL_digits n
theorem numL_ascii {n : Nat} {z : Str} (h : tl z = numL n) : Txt.isascii z = true := by
  rw [tx_ascii, h, List.all_eq_true]
  intro c hc
  have := numL_digits n c hc
  rw [decide_eq_true_iff]
  omega
/-- the first sign of a number's word is 0 just for 0 -/
theorem numL_head {n : Nat} (h : (numL n).head? = some 48) : numL n = [48] := by
  rcases Nat.lt_or_ge n 10 with h10 | h10
  · rw [numL_lt h10] at h ⊢
    simp at h
    rw [h]
  · exfalso
    have key : ∀ k : Nat, 1 ≤ k → (numL k).head? ≠ some 48 := fun k => by
      induction k using Nat.strongRecOn with
      | _ k ih =>
        intro hk
        rcases Nat.lt_or_ge k 10 with h1 | h1
        · rw [numL_lt h1]
          simp
          omega
        · rw [numL_step h1]
          have := ih (k / 10) (by omega) (by omega)
          cases hq : numL (k / 10) with
          | nil => exact absurd hq (numL_ne _)
          | cons a b =>
            rw [hq] at this
            exact this
    exact key n (by omega) h
theorem tx_zero (z : Str) : Txt.startswith z "0" = true ↔ (tl z).head? = some 48 := by
  obtain ⟨⟨l⟩⟩ := z
  show (decide (0 + 1 ≤ l.length) && ((⟨l⟩ : Array Nat).extract 0 (0 + 1) == (#[48] : Array Nat))) = true ↔ l.head? = some 48
  rw [Bool.and_eq_true, decide_eq_true_iff, beq_iff_eq]
  cases l with
  | nil => simp
  | cons c r => simp
theorem numL_pow (n : Nat) : n < 10 ^ (numL n).length := by
  induction n using Nat.strongRecOn with
  | _ n ih =>
    rcases Nat.lt_or_ge n 10 with h | h
    · rw [numL_lt h]
      exact h
    · rw [numL_step h, List.length_append]
      have := ih (n / 10) (by omega)
      show n < 10 ^ ((numL (n / 10)).length + 1)
      rw [Nat.pow_succ]
      omega
theorem nt_ne {u v : Str} (h : u ≠ v) : decide (V.str u = V.str v) = false := decide_eq_false fun z => h (V.str.inj z)
theorem nt_self {x y : V} (h : x = y) {A B : Prop} (b : B) : if (!decide (x = y)) = true then A else B := by
  rw [decide_eq_true h]
  exact iteF b
def spNum : Sp := fun vs H Q _ => ∃ (z : Str), vs = [.str z] ∧ z.length ≤ sizeLine ∧ (∀ n : Nat, n < 10000 → tl z = numL n → Q (.int (n : Int)) H) ∧ ((∀ n : Nat, n < 10000 → tl z ≠ numL n) → Q .non H)
theorem tl_init (z : Str) : tl (cutS z none (some (-1))) = (tl z).dropLast := by
  unfold cutS
  have hl : (tl z).length = z.length := (len_tl z).symm
  have e : HT.sIx z.length z.length (some (-1)) = z.length - 1 := by
    unfold HT.sIx
    dsimp only
    rw [if_pos (by decide)]
    omega
  rw [e, HT.sIx_none, List.drop_zero, Nat.sub_zero]
  show (tl z).take (z.length - 1) = _
  rw [← hl, List.dropLast_eq_take]
theorem tl_last (z : Str) : tl (cutS z (some (-1)) none) = (tl z).drop ((tl z).length - 1) := by
  unfold cutS
  have hl : (tl z).length = z.length := (len_tl z).symm
  have e : HT.sIx z.length 0 (some (-1)) = z.length - 1 := by
    unfold HT.sIx
    dsimp only
    rw [if_pos (by decide)]
    omega
  rw [e, HT.sIx_none]
  show ((tl z).drop (z.length - 1)).take (z.length - (z.length - 1)) = _
  rw [← hl, List.take_of_length_le (by rw [List.length_drop]; omega)]
theorem noP {σ : L2.St} {H : Hp} {Q : Option Int → Hp → Prop} (h : Q none H) : tNoPart σ H Q := h
theorem cut_whole (l : List Nat) : l.dropLast ++ l.drop (l.length - 1) = l := by
  rw [List.dropLast_eq_take, List.take_append_drop]
/-- the sign of an answer -/
def sgn (b : Bool) : Nat := if b then 43 else 45
def IsStep (l : List Nat) (n : Nat) (b : Bool) : Prop := n < 48 ∧ l = numL n ++ [sgn b]
def spStep (CB : Addr) : Sp := fun vs H Q E => ∃ (z : Str), vs = [.str z] ∧ z.length ≤ sizeLine ∧
  (∀ n b, IsStep (tl z) n b → ∀ (H' : Hp) (t : Addr), Same H H' → H t = none → H' t = some (.tup [.int (n : Nat), .int (if b then 1 else 0)]) → Q (.ref t) H') ∧
  ((∀ n b, ¬ IsStep (tl z) n b) → ∀ (H' : Hp) (d : Addr), Same H H' → H' d = some (.xd [("line", .int 1)]) → E (.ref CB) (some d) H')
def spChg (K : PySem.W.Frag) : Sp := fun vs H Q _ => ∃ (p : Addr) (c : Nat) (z : Str), vs = [.ref p, .str z] ∧ PoolOk K p c H ∧ c + 10 < LIM ∧ z.length ≤ 1000 ∧
  ∀ (H' : Hp) (y : Str), Gd H H' → PoolOk K p (c + 3) H' → y.length ≤ z.length + 1 → Q (.str y) H'
theorem len_cutTo (z : Str) {k : Nat} (h : k ≤ z.length) : (cutS z none (some (k : Int))).length = k := by
  rw [len_tl]
  unfold cutS
  rw [HT.sIx_none, HT.sIx_nat]
  show ((((tl z).drop 0).take (min k z.length - 0))).length = k
  rw [List.drop_zero, List.length_take, ← len_tl]
  omega
theorem len_cutFrom (z : Str) (k : Nat) : (cutS z (some (k : Int)) none).length = z.length - k := by
  rw [len_tl]
  unfold cutS
  rw [HT.sIx_none, HT.sIx_nat]
  show (((tl z).drop (min k z.length)).take (z.length - min k z.length)).length = _
  rw [List.length_take, List.length_drop, ← len_tl]
  omega
theorem len_cutFrom1 (z : Str) (k : Nat) : (cutS z (some ((k : Int) + 1)) none).length = z.length - (k + 1) := len_cutFrom z (k + 1)
theorem spl_len {S : List Nat} : ∀ (l : List Nat) (k : Nat) (acc p : List Nat), p ∈ spl S k acc l → p.length ≤ acc.length + l.length
  | [], k, acc, p, h => by
    rw [spl_nil] at h
    rw [List.mem_singleton.mp h]
    omega
  | c :: r, 0, acc, p, h => by
    cases e : pre S (c :: r) with
    | true =>
      rw [spl_hit e] at h
      rcases List.mem_cons.mp h with h | h
      · rw [h]
        omega
      · have := spl_len r _ _ _ h
        simp at this ⊢
        omega
    | false =>
      rw [spl_miss e] at h
      have := spl_len r _ _ _ h
      simp at this ⊢
      omega
  | c :: r, k + 1, acc, p, h => by
    have := spl_len r k acc p h
    simp at this ⊢
    omega
theorem split_word {z w : Str} {i : Nat} (h : (Txt.split z " ")[i]? = some w) : w.length ≤ z.length := by
  have e := split_spl z " " (by decide +kernel) (kind_ok (by decide +kernel))
  have hm : tl w ∈ (Txt.split z " ").map tl := List.mem_map.mpr ⟨w, List.mem_of_getElem? h, rfl⟩
  rw [e] at hm
  have := spl_len _ _ _ _ hm
  rw [len_tl, len_tl z]
  simpa using this
/-! going over a list or a tuple, of tuples or lists -/
section
variable {X : Cx} {tg it : Expr}
theorem pi_or {w1 w2 : TI} (h1 : PI X tg it w1) (h2 : PI X tg it w2) : PI X tg it (fun σ H R => w1 σ H R ∨ w2 σ H R) := ⟨fun pins s σ H R I h => h.elim (h1.run pins s σ H R I) (h2.run pins s σ H R I)⟩
theorem pg_or {g1 g2 : TG} (h1 : PG X tg g1) (h2 : PG X tg g2) : PG X tg (fun v σ H Q => g1 v σ H Q ∨ g2 v σ H Q) := ⟨fun pins s σ H v u Q I r h => h.elim (h1.run pins s σ H v u Q I r) (h2.run pins s σ H v u Q I r)⟩
end
end L2

namespace L2
open PySem PySem.Spec PyProof.Rows
/-! ## ladders -/
structure Lad where
  h : Int
  f : Int
  up : Int
  dn : Int
  sz : Int
  mo : Int
def Lad.Ok (t : Lad) : Prop := (1 ≤ t.h ∧ t.h ≤ 6) ∧ (1 ≤ t.f ∧ t.f ≤ t.h) ∧ (1 ≤ t.up ∧ t.up ≤ 3) ∧ (1 ≤ t.dn ∧ t.dn ≤ 3) ∧ (1 ≤ t.sz ∧ t.sz ≤ 6) ∧ 0 ≤ t.mo ∧ t.mo ≤ t.sz
def ladV (t : Lad) : List V := [.int t.h, .int t.f, .int t.up, .int t.dn, .int t.sz, .int t.mo]
def LadAt (C : Addr) (H : Hp) (x : Addr) (t : Lad) : Prop := ∃ dx, H x = some (.ins C dx [("levels", .int t.h), ("begin", .int t.f), ("up", .int t.up), ("down", .int t.dn), ("count", .int t.sz), ("most_wrongs", .int t.mo)])
theorem LadAt.same {C x : Addr} {H H' : Hp} {t : Lad} (f : Same H H') (h : LadAt C H x t) : LadAt C H' x t := let ⟨dx, h1⟩ := h; ⟨dx, f _ _ h1⟩
theorem LadAt.gd {C x : Addr} {H H' : Hp} {t : Lad} (f : Gd H H') (h : LadAt C H x t) : LadAt C H' x t := let ⟨dx, h1⟩ := h; ⟨dx, f.1 _ _ (np_ins _ _ _) h1⟩
structure LSt where
  lv : Int
  ups : Int
  dns : Int
  as : List Int
  lost : Int
def LSt.at_ (s : LSt) : Int := s.as.getD (s.lv - 1).toNat 0
def ladQ (s : LSt) : Int := (s.lv - 1) * 8 + s.at_
def LSt.asked (s : LSt) : List Int := s.as.set (s.lv - 1).toNat (s.at_ + 1)
def ladStep (t : Lad) (s : LSt) (a : Int) : LSt :=
  if a = 1 then
    if s.ups + 1 = t.up then ⟨if s.lv < t.h then s.lv + 1 else s.lv, 0, 0, s.asked, s.lost⟩ else ⟨s.lv, s.ups + 1, 0, s.asked, s.lost⟩
  else if s.dns + 1 = t.dn then ⟨if 1 < s.lv then s.lv - 1 else s.lv, 0, 0, s.asked, s.lost + 1⟩ else ⟨s.lv, 0, s.dns + 1, s.asked, s.lost + 1⟩
def lad0 (t : Lad) : LSt := ⟨t.f, 0, 0, [0, 0, 0, 0, 0, 0], 0⟩
def ladS (t : Lad) (ans : Int → Nat → Int) : Nat → LSt
  | 0 => lad0 t
  | i + 1 => ladStep t (ladS t ans i) (ans (ladQ (ladS t ans i)) i)
def ladA (t : Lad) (ans : Int → Nat → Int) (i : Nat) : Int := ans (ladQ (ladS t ans i)) i
def ladL (t : Lad) (ans : Int → Nat → Int) (j : Nat) : List (List Int) := (List.range j).map fun i => [ladQ (ladS t ans i), ladA t ans i]
def ladStop (t : Lad) (ans : Int → Nat → Int) (i : Nat) : Prop := (i : Int) = t.sz ∨ (0 < t.mo ∧ (ladS t ans i).lost = t.mo)
def LadRun (t : Lad) (ans : Int → Nat → Int) (rows : List (List Int)) : Prop := ∃ j : Nat, (j : Int) ≤ t.sz ∧ (∀ i, i < j → ¬ ladStop t ans i) ∧ ladStop t ans j ∧ rows = ladL t ans j
theorem LadRun.uniq {t : Lad} {ans : Int → Nat → Int} {r1 r2 : List (List Int)} (h1 : LadRun t ans r1) (h2 : LadRun t ans r2) : r1 = r2 := by
  obtain ⟨i, _, a1, b1, rfl⟩ := h1
  obtain ⟨j, _, a2, b2, rfl⟩ := h2
  rcases Nat.lt_trichotomy i j with h | h | h
  · exact absurd b1 (a2 i h)
  · rw [h]
  · exact absurd b2 (a1 j h)
theorem ladL_succ (t : Lad) (ans : Int → Nat → Int) (i : Nat) : ladL t ans (i + 1) = ladL t ans i ++ [[ladQ (ladS t ans i), ladA t ans i]] := by
  unfold ladL
  rw [List.range_succ, List.map_append]
  rfl
theorem ladL_len (t : Lad) (ans : Int → Nat → Int) (i : Nat) : (ladL t ans i).length = i := by unfold ladL; rw [List.length_map, List.length_range]
structure LInv (t : Lad) (i : Nat) (s : LSt) : Prop where
  lv : 1 ≤ s.lv ∧ s.lv ≤ t.h
  ups : 0 ≤ s.ups ∧ s.ups < t.up
  dns : 0 ≤ s.dns ∧ s.dns < t.dn
  len : s.as.length = 6
  ent : ∀ (k : Nat) (v : Int), s.as[k]? = some v → 0 ≤ v ∧ v ≤ (i : Int)
  sum : (s.as.take t.h.toNat).sum = (i : Int)
  lost : 0 ≤ s.lost ∧ s.lost ≤ (i : Int)
theorem LInv.get {t : Lad} {i : Nat} {s : LSt} (ht : t.Ok) (I : LInv t i s) : s.as[(s.lv - 1).toNat]? = some s.at_ ∧ (s.lv - 1).toNat < t.h.toNat := by
  obtain ⟨⟨h1, h2⟩, _⟩ := ht
  have hl := I.lv
  have hlen := I.len
  have hk : (s.lv - 1).toNat < s.as.length := by omega
  refine ⟨?_, by omega⟩
  unfold LSt.at_
  rw [List.getD_eq_getElem?_getD, List.getElem?_eq_getElem hk]
  rfl
theorem LInv.q {t : Lad} {i : Nat} {s : LSt} (ht : t.Ok) (I : LInv t i s) (hi : (i : Int) < t.sz) : 0 ≤ ladQ s ∧ ladQ s < 48 := by
  have he := I.ent _ _ (I.get ht).1
  have hl := I.lv
  obtain ⟨h1, _, _, _, h5, _⟩ := ht
  unfold ladQ
  omega
theorem LInv.step {t : Lad} {i : Nat} {s : LSt} {a : Int} (ht : t.Ok) (I : LInv t i s) (ha : a = 0 ∨ a = 1) : LInv t (i + 1) (ladStep t s a) := by
  have hg := I.get ht
  have he := I.ent _ _ hg.1
  have hl := I.lv
  have hu := I.ups
  have hd := I.dns
  have ho := I.lost
  have hlen : s.asked.length = 6 := by unfold LSt.asked; rw [List.length_set]; exact I.len
  have hent : ∀ (k : Nat) (v : Int), s.asked[k]? = some v → 0 ≤ v ∧ v ≤ ((i + 1 : Nat) : Int) := fun k v h => by
    unfold LSt.asked at h
    by_cases hk : (s.lv - 1).toNat = k
    · subst hk
      rw [List.getElem?_set_self (by have := (List.getElem?_eq_some_iff.mp hg.1).1; exact this)] at h
      cases h
      omega
    · rw [List.getElem?_set_ne hk] at h
      have := I.ent k v h
      omega
  have hsum : (s.asked.take t.h.toNat).sum = ((i + 1 : Nat) : Int) := by
    unfold LSt.asked
    rw [List.take_set, sum_set (z := s.at_) (by rw [List.getElem?_take, if_pos hg.2]; exact hg.1), I.sum]
    omega
  obtain ⟨h1, h2, h3, h4, _⟩ := ht
  unfold ladStep
  rcases ha with rfl | rfl
  · rw [if_neg (by decide)]
    split
    · refine ⟨?_, ⟨Int.le_refl 0, by show (0 : Int) < t.up; omega⟩, ⟨Int.le_refl 0, by show (0 : Int) < t.dn; omega⟩, hlen, hent, hsum, by show 0 ≤ s.lost + 1; omega, by show s.lost + 1 ≤ _; omega⟩
      show 1 ≤ (if 1 < s.lv then s.lv - 1 else s.lv) ∧ (if 1 < s.lv then s.lv - 1 else s.lv) ≤ t.h
      split <;> omega
    · exact ⟨hl, ⟨Int.le_refl 0, by show (0 : Int) < t.up; omega⟩, ⟨by show 0 ≤ s.dns + 1; omega, by show s.dns + 1 < t.dn; omega⟩, hlen, hent, hsum, by show 0 ≤ s.lost + 1; omega, by show s.lost + 1 ≤ _; omega⟩
  · rw [if_pos rfl]
    split
    · refine ⟨?_, ⟨Int.le_refl 0, by show (0 : Int) < t.up; omega⟩, ⟨Int.le_refl 0, by show (0 : Int) < t.dn; omega⟩, hlen, hent, hsum, ho.1, by show s.lost ≤ _; omega⟩
      show 1 ≤ (if s.lv < t.h then s.lv + 1 else s.lv) ∧ (if s.lv < t.h then s.lv + 1 else s.lv) ≤ t.h
      split <;> omega
    · exact ⟨hl, ⟨by show 0 ≤ s.ups + 1; omega, by show s.ups + 1 < t.up; omega⟩, ⟨Int.le_refl 0, by show (0 : Int) < t.dn; omega⟩, hlen, hent, hsum, ho.1, by show s.lost ≤ _; omega⟩
theorem lad0_inv {t : Lad} (ht : t.Ok) : LInv t 0 (lad0 t) := by
  obtain ⟨h1, h2, h3, h4, _⟩ := ht
  refine ⟨h2, ⟨Int.le_refl 0, by show (0 : Int) < t.up; omega⟩, ⟨Int.le_refl 0, by show (0 : Int) < t.dn; omega⟩, rfl, fun k v h => ?_, ?_, Int.le_refl 0, Int.le_refl 0⟩
  · have hm : v ∈ ([0, 0, 0, 0, 0, 0] : List Int) := List.mem_of_getElem? h
    simp only [List.mem_cons, List.not_mem_nil, or_false, or_self] at hm
    subst hm
    decide
  · have hh : t.h.toNat = 1 ∨ t.h.toNat = 2 ∨ t.h.toNat = 3 ∨ t.h.toNat = 4 ∨ t.h.toNat = 5 ∨ t.h.toNat = 6 := by omega
    rcases hh with h | h | h | h | h | h <;> rw [h] <;> rfl
theorem ladS_inv {t : Lad} {ans : Int → Nat → Int} (ht : t.Ok) (hA : ∀ q i, ans q i = 0 ∨ ans q i = 1) : ∀ i, LInv t i (ladS t ans i)
  | 0 => lad0_inv ht
  | i + 1 => (ladS_inv ht hA i).step ht (hA _ _)
/-! ## the promises -/
def spLad (C : Addr) : Sp := fun vs H Q _ => ∃ (x dx : Addr) (t : Lad), vs = .ref x :: ladV t ∧ H x = some (.ins C dx []) ∧ t.Ok ∧ ∀ H', LadAt C H' x t → (∀ b o, b ≠ x → H b = some o → H' b = some o) → Q .non H'
def spLadEq (C : Addr) : Sp := fun vs H Q _ => ∃ (x y : Addr) (t u : Lad), vs = [.ref x, .ref y] ∧ LadAt C H x t ∧ LadAt C H y u ∧ Q (.bl (decide (t.h = u.h ∧ t.f = u.f ∧ t.up = u.up ∧ t.dn = u.dn ∧ t.sz = u.sz ∧ t.mo = u.mo))) H
/-- a ladder's state, i questions asked -/
def LStAt (H : Hp) (p : Addr) (t : Lad) (i : Nat) (s : LSt) : Prop := ∃ ak, H p = some (.tup [.int s.lv, .int s.ups, .int s.dns, .ref ak, .int ((i : Int) - s.lost)]) ∧ H ak = some (.tup ((s.as.take t.h.toNat).map V.int))
theorem LStAt.same {H H' : Hp} {p : Addr} {t : Lad} {i : Nat} {s : LSt} (f : Same H H') (h : LStAt H p t i s) : LStAt H' p t i s := let ⟨ak, h1, h2⟩ := h; ⟨ak, f _ _ h1, f _ _ h2⟩
def spLad0 (C : Addr) : Sp := fun vs H Q _ => ∃ (x : Addr) (t : Lad), vs = [.ref x] ∧ LadAt C H x t ∧ t.Ok ∧ ∀ H' p, Same H H' → LStAt H' p t 0 (lad0 t) → Q (.ref p) H'
def spEnded (C : Addr) : Sp := fun vs H Q _ => ∃ (x p : Addr) (t : Lad) (i : Nat) (s : LSt), vs = [.ref x, .ref p] ∧ LadAt C H x t ∧ LStAt H p t i s ∧ LInv t i s ∧ Q (.bl (decide ((i : Int) = t.sz ∨ (0 < t.mo ∧ s.lost = t.mo)))) H
def spQuest : Sp := fun vs H Q _ => ∃ (p : Addr) (t : Lad) (i : Nat) (s : LSt), vs = [.ref p] ∧ t.Ok ∧ LStAt H p t i s ∧ LInv t i s ∧ Q (.int (ladQ s)) H
def spLBehind (C : Addr) : Sp := fun vs H Q _ => ∃ (x p : Addr) (t : Lad) (i : Nat) (s : LSt) (a : Int), vs = [.ref x, .ref p, .int a] ∧ t.Ok ∧ LadAt C H x t ∧ LStAt H p t i s ∧ LInv t i s ∧ (a = 0 ∨ a = 1) ∧ ∀ H' p', Same H H' → LStAt H' p' t (i + 1) (ladStep t s a) → Q (.ref p') H'
def spLadRun (C CP : Addr) : Sp := fun vs H Q _ => ∃ (x y : Addr) (t : Lad) (l : List Int), vs = [.ref x, .ref y] ∧ t.Ok ∧ LadAt C H x t ∧ PupAt CP H y l ∧
  ∀ H' r as rows, Same H H' → H' r = some (.tup (as.map V.ref)) → RowsAt H' as rows → LadRun t (fun q _ => if q ∈ norm l then 1 else 0) rows → Q (.ref r) H'
def spLadder (K : PySem.W.Frag) : Sp := fun vs H Q _ => ∃ (p : Addr) (c : Nat), vs = [.ref p] ∧ PoolOk K p c H ∧ c < 100000 ∧ ∀ (H' : Hp) (x : Addr) (t : Lad), Gd H H' → PoolOk K p (c + 6) H' → H' x = some (.tup (ladV t)) → t.Ok → Q (.ref x) H'
def spMade (C : Addr) : Sp := fun vs H Q _ => ∃ (x : Addr) (t : Lad), vs = [.ref x] ∧ H x = some (.tup (ladV t)) ∧ t.Ok ∧ ∀ H' y, H y = none → Same H H' → LadAt C H' y t → Q (.ref y) H'
/-- the law's own run: tl the lambda's reading -/
def TTlad : Addr → V → (List V → Hp → VK → Prop) → Hp → VK → Prop := fun c' v1 tl H Q => ∃ (x : Addr) (t : Lad) (ans : Int → Nat → Int), v1 = .ref x ∧ H x = some (.tup (ladV t)) ∧ t.Ok ∧ (∀ q i, ans q i = 0 ∨ ans q i = 1) ∧
  (∀ (q : Int) (i : Nat) (H' : Hp) (Q' : VK), (i : Int) < t.sz → Same H H' → Q' (.int (ans q i)) H' → tl [.int q, .int (i : Int)] H' Q') ∧
  ∀ H' D as rows, Same H H' → H' D = some (.lst (as.map V.ref)) → RowsAt H' as rows → LadRun t ans rows → Q (.ref D) H'
/-! ## parts of a tuple, and two tuples put together -/
theorem slA_toV {K : PySem.W.Frag} {H : Hp} {a : Addr} {xs : List V} {k : Nat} {Q : VK} (ha : H a = some (.tup xs)) (q : ∀ H' r, Same H H' → H' r = some (.tup (xs.take k)) → Q (.ref r) H') : rSlA K (.ref a) none (some (k : Int)) H Q := by
  refine ⟨a, xs, rfl, tup_of ha, fun h => ?_, fun _ p np => ?_⟩
  · refine q H a (Same.refl H) ?_
    rw [HT.sIx_nat] at h
    rw [List.take_of_length_le (by omega)]
    exact ha
  · refine q _ p (same_upd np) ?_
    have e := cut_to id xs k
    rw [List.map_id, List.map_id] at e
    rw [upd_same, e]
theorem slA_from {K : PySem.W.Frag} {H : Hp} {a : Addr} {xs : List V} {k : Nat} {Q : VK} (ha : H a = some (.tup xs)) (q : ∀ H' r, Same H H' → H' r = some (.tup (xs.drop k)) → Q (.ref r) H') : rSlA K (.ref a) (some (k : Int)) none H Q := by
  refine ⟨a, xs, rfl, tup_of ha, fun h => ?_, fun _ p np => ?_⟩
  · refine q H a (Same.refl H) ?_
    rw [HT.sIx_nat] at h
    have h0 : k = 0 ∨ xs = [] := by
      rcases Nat.eq_zero_or_pos k with h0 | h0
      · exact .inl h0
      · exact .inr (List.length_eq_zero_iff.mp (by omega))
    rcases h0 with rfl | rfl
    · exact ha
    · rw [List.drop_nil]
      exact ha
  · refine q _ p (same_upd np) ?_
    have e := cut_from id xs k
    rw [List.map_id, List.map_id] at e
    rw [upd_same, e]
theorem catA_any {K : PySem.W.Frag} {H : Hp} {a b : Addr} {xs ys : List V} {Q : VK} (ha : H a = some (.tup xs)) (hb : H b = some (.tup ys)) (hz : xs.length + ys.length ≤ sizeLine) (q : ∀ H' r, Same H H' → H' r = some (.tup (xs ++ ys)) → Q (.ref r) H') : rCatA K (.ref a) (.ref b) H Q := by
  refine ⟨a, b, xs, ys, rfl, rfl, tup_of ha, tup_of hb, hz, fun e => ?_, fun _ e => ?_, fun _ _ p np => q _ p (same_upd np) upd_same⟩
  · refine q H b (Same.refl H) ?_
    rw [e, List.nil_append]
    exact hb
  · refine q H a (Same.refl H) ?_
    rw [e, List.append_nil]
    exact ha
theorem set_cut {α : Type} {l : List α} {n : Nat} {x : α} (h : n < l.length) : l.take n ++ [x] ++ l.drop (n + 1) = l.set n x := by
  rw [List.set_eq_take_append_cons_drop, if_pos h, List.append_assoc]
  rfl
theorem LadRun.rows {t : Lad} {ans : Int → Nat → Int} {rows : List (List Int)} (ht : t.Ok) (hA : ∀ q i, ans q i = 0 ∨ ans q i = 1) (h : LadRun t ans rows) : rows.length ≤ 6 ∧ ∀ (i : Nat) (row : List Int), rows[i]? = some row → ∃ q a, row = [q, a] ∧ (0 ≤ q ∧ q < 48) ∧ (a = 0 ∨ a = 1) := by
  obtain ⟨j, hj, hno, _, rfl⟩ := h
  have hsz := ht.2.2.2.2.1
  refine ⟨by rw [ladL_len]; omega, fun i row hi => ?_⟩
  unfold ladL at hi
  rw [List.getElem?_map] at hi
  obtain ⟨k, hk, rfl⟩ := Option.map_eq_some_iff.mp hi
  have hkj : k < j := by
    have := List.mem_of_getElem? hk
    exact List.mem_range.mp this
  refine ⟨_, _, rfl, (ladS_inv ht hA k).q ht ?_, hA _ _⟩
  have h1 := hno k hkj
  omega
theorem Tabs.gd {T : List (Addr × Str)} {H H' : Hp} (g : Gd H H') (h : LamX.Tabs T H) : LamX.Tabs T H' := fun p hp => by
  obtain ⟨ps, h1, h2, h3⟩ := h p hp
  refine ⟨ps, g.1 _ _ (fun ⟨_, _, _, _, _, z⟩ => by cases z) h1, h2, fun pos cv hc => ?_⟩
  obtain ⟨c, e1, e2⟩ := h3 pos cv hc
  exact ⟨c, e1, g.1 _ _ (fun ⟨_, _, _, _, _, z⟩ => by unfold LamX.CodeO at z; cases z) e2⟩
theorem extN_gd {H H' : Hp} (e : LamX.ExtN H H') {b : Addr} {o : HO} (h : H b = some o) (n : ∀ ps, o ≠ .tbl ps) : H' b = some o := e b o h n
theorem extN_rows {H H' : Hp} (e : LamX.ExtN H H') {as : List Addr} {rows : List (List Int)} (h : RowsAt H as rows) : RowsAt H' as rows := ⟨h.1, fun i a row h1 h2 => e _ _ (h.2 i a row h1 h2) (fun _ z => nomatch z)⟩
theorem extN_pool {K : PySem.W.Frag} {p : Addr} {c : Nat} {H H' : Hp} (e : LamX.ExtN H H') (h : PoolOk K p c H) : PoolOk K p c H' := by
  obtain ⟨sa, ns, c', i, b, s, h1, h2, h3⟩ := h
  refine ⟨sa, ns, c', i, b, s, ?_, e _ _ h2 (fun _ z => nomatch z), h3⟩
  rcases h1 with ⟨o, h1⟩ | h1
  · exact .inl ⟨o, e _ _ h1 (fun _ z => nomatch z)⟩
  · exact .inr h1
theorem extN_none {H H' : Hp} (e : LamX.ExtN H H') {b : Addr} {o : HO} (h : H b = some o) (n : ∀ ps, o ≠ .tbl ps) : H' b ≠ none := fun z => by rw [e b o h n] at z; cases z
theorem ans_norm {l : List Int} (hq : Qn l) : (fun (q : Int) (_ : Nat) => if q ∈ norm l then (1 : Int) else 0) = fun q _ => if q ∈ l then 1 else 0 := by
  funext q i
  by_cases h : q ∈ l
  · rw [if_pos h, if_pos (mem_norm.mpr ⟨hq q h, h⟩)]
  · rw [if_neg h, if_neg (fun z => h (mem_norm.mp z).2)]
theorem rg_filterL {n : Nat} {p : Int → Bool} {l : List Int} (hn : n ≤ 48) (hm : ∀ k, k ∈ l ↔ (0 ≤ k ∧ k < n ∧ p k = true)) : (rgI n).filter p = norm l := by
  refine norm_of_sorted ?_ (fun x => ?_) fun x hx => ?_
  · have : (rgI n).Pairwise (· < ·) := by
      unfold rgI
      rw [List.pairwise_map]
      exact (List.pairwise_lt_range).imp fun h => by omega
    exact this.sublist List.filter_sublist
  · rw [List.mem_filter, mem_rgI, hm]
    constructor
    · rintro ⟨⟨h1, h2⟩, h3⟩
      exact ⟨h1, h2, h3⟩
    · rintro ⟨h1, h2, h3⟩
      exact ⟨⟨h1, h2⟩, h3⟩
  · have := (hm x).mp hx
    omega
end L2

namespace L2
open PySem PySem.Spec PyProof.Rows
/-! ## x in t, t a tuple of data -/
def rInDT (K : PySem.W.Frag) : R2 := fun x y H Q => ∃ d ds, Dp K H x d ∧ Dp K H y (.tuple ds) ∧ SeqAt.shaped d = true ∧ SeqAt.shaped (.tuple ds) = true ∧ Q (.bl (ds.any fun z => PyData.eqv z d)) H
def rNotInDT (K : PySem.W.Frag) : R2 := fun x y H Q => ∃ d ds, Dp K H x d ∧ Dp K H y (.tuple ds) ∧ SeqAt.shaped d = true ∧ SeqAt.shaped (.tuple ds) = true ∧ Q (.bl (!ds.any fun z => PyData.eqv z d)) H
theorem Room.units65 {k : Nat} {A : Around} (h : Room k A) : A.units + 65 < cLine := by
  have := h.un
  omega
theorem op_inDT {X : Cx} (hu : X.A.units + 65 < cLine) : OpR X (compareOp .In) (rInDT X.K) := by
  intro pins s σ H x y v u Q I rx ry h
  obtain ⟨d, ds, hd, he, sd, se, q⟩ := h
  obtain ⟨as, r1⟩ := Dp.reads I d x v hd rx
  obtain ⟨bs, r2⟩ := Dp.reads I (.tuple ds) y u he ry
  exact SeqAt.in_tuple_reads r2 r1 (SeqAt.canLay_of_shaped se) (SeqAt.canLay_of_shaped sd) (room_in_shaped sd hu) ⟨.bl _, H, I, rfl, q⟩
theorem op_notInDT {X : Cx} (hu : X.A.units + 65 < cLine) : OpR X (compareOp .NotIn) (rNotInDT X.K) := by
  intro pins s σ H x y v u Q I rx ry h
  obtain ⟨d, ds, hd, he, sd, se, q⟩ := h
  obtain ⟨as, r1⟩ := Dp.reads I d x v hd rx
  obtain ⟨bs, r2⟩ := Dp.reads I (.tuple ds) y u he ry
  exact SeqAt.notIn_tuple_reads r2 r1 (SeqAt.canLay_of_shaped se) (SeqAt.canLay_of_shaped sd) (room_in_shaped sd hu) ⟨.bl _, H, I, rfl, q⟩
theorem ixN_nat {n j : Nat} (h : j < n) : ixN n (j : Int) = some j := by
  unfold ixN
  simp
  omega
/-! ## the drawing of the later stages: a list of the cells and a place -/
def Stt (p c : Addr) (H : Hp) : Prop := p ≠ c ∧ ∃ (ns : List Int) (i : Int), H p = some (.lst [.ref c, .int i]) ∧ H c = some (.lst (ns.map V.int))
def Fr (p c : Addr) (H H' : Hp) : Prop := (∀ b o, (∀ xs, o ≠ .lst xs) → H b = some o → H' b = some o) ∧ ∀ b xs, b ≠ p → b ≠ c → H b = some (.lst xs) → H' b = some (.lst xs)
theorem Fr.refl (p c : Addr) (H : Hp) : Fr p c H H := ⟨fun _ _ _ h => h, fun _ _ _ _ h => h⟩
theorem Fr.trans {p c : Addr} {H H1 H2 : Hp} (a : Fr p c H H1) (b : Fr p c H1 H2) : Fr p c H H2 := ⟨fun x o n h => b.1 x o n (a.1 x o n h), fun x xs n1 n2 h => b.2 x xs n1 n2 (a.2 x xs n1 n2 h)⟩
theorem Same.fr {p c : Addr} {H H' : Hp} (e : Same H H') : Fr p c H H' := ⟨fun x o _ h => e x o h, fun x xs _ _ h => e x _ h⟩
theorem Fr.tup {p c : Addr} {H H' : Hp} {x : Addr} {xs : List V} (e : Fr p c H H') (h : H x = some (.tup xs)) : H' x = some (.tup xs) := e.1 _ _ (fun _ z => by cases z) h
theorem Fr.ins {p c : Addr} {H H' : Hp} {x C dx : Addr} {xs : List (Str × V)} (e : Fr p c H H') (h : H x = some (.ins C dx xs)) : H' x = some (.ins C dx xs) := e.1 _ _ (fun _ z => by cases z) h
theorem Stt.same {p c : Addr} {H H' : Hp} (h : Stt p c H) (e : Same H H') : Stt p c H' := let ⟨n, ns, i, a, b⟩ := h; ⟨n, ns, i, e _ _ a, e _ _ b⟩
theorem Stt.upd {p c q : Addr} {H : Hp} {o : HO} (h : Stt p c H) (e : H q = none) : Stt p c (upd H q o) := h.same (same_upd e)
theorem Stt.mut {p c q : Addr} {H : Hp} {o : HO} (h : Stt p c H) (n1 : q ≠ p) (n2 : q ≠ c) : Stt p c (L2.upd H q o) := let ⟨n, ns, i, a, b⟩ := h; ⟨n, ns, i, by rw [upd_ne n1.symm]; exact a, by rw [upd_ne n2.symm]; exact b⟩
theorem Stt.ne {p c q : Addr} {H : Hp} (h : Stt p c H) (e : H q = none) : q ≠ p ∧ q ≠ c := let ⟨n, ns, i, a, b⟩ := h; ⟨(ne_of_none a e).symm, (ne_of_none b e).symm⟩
theorem Fr.free {p c q : Addr} {H H' : Hp} (e : Fr p c H H') (s : Stt p c H') (h : H' q = none) : H q = none := by
  cases hq : H q with
  | none => rfl
  | some o =>
    exfalso
    by_cases hl : ∃ xs, o = .lst xs
    · obtain ⟨xs, rfl⟩ := hl
      obtain ⟨n1, n2⟩ := s.ne h
      have := e.2 q xs n1 n2 hq
      rw [h] at this
      cases this
    · have := e.1 q o (fun xs z => hl ⟨xs, z⟩) hq
      rw [h] at this
      cases this
theorem Fr.mut {p c q : Addr} {H H' : Hp} {o : HO} (e : Fr p c H H') (n : H q = none) : Fr p c H (L2.upd H' q o) :=
  ⟨fun b u nl h => by rw [upd_ne (ne_of_none h n)]; exact e.1 b u nl h, fun b xs n1 n2 h => by rw [upd_ne (ne_of_none h n)]; exact e.2 b xs n1 n2 h⟩
theorem Fr.upd {p c q : Addr} {H H' : Hp} {o : HO} (e : Fr p c H H') (n : H' q = none) : Fr p c H (L2.upd H' q o) := e.trans (same_upd n).fr
def spDr (K : PySem.W.Frag) : Sp := fun vs H Q _ => ∃ (p c : Addr) (lim : Int), vs = [.ref p, .int lim] ∧ Stt p c H ∧ 0 < lim ∧ lim < 2 ^ 200 ∧ ∀ H' r, Fr p c H H' → Stt p c H' → 0 ≤ r → r < lim → Q (.int r) H'
end L2

namespace L2
open PySem PySem.Spec PyProof.Rows
/-! ## webs drawn in the later stages -/
theorem RowsAt.fr {p c : Addr} {H H' : Hp} {as : List Addr} {rows : List (List Int)} (e : Fr p c H H') (h : RowsAt H as rows) : RowsAt H' as rows := ⟨h.1, fun i a row x y => e.tup (h.2 i a row x y)⟩
theorem WebAt.fr {p c C : Addr} {H H' : Hp} {x : Addr} {rows : List (List Int)} {e o : Int} (s : Fr p c H H') (h : WebAt C H x rows e o) : WebAt C H' x rows e o := by
  obtain ⟨dx, nt, as, h1, h2, h3⟩ := h
  exact ⟨dx, nt, as, s.ins h1, s.tup h2, h3.fr s⟩
def spTgtS (K : PySem.W.Frag) : Sp := fun vs H Q _ => ∃ (p c : Addr) (idx cnt e : Int), vs = [.ref p, .int idx, .int cnt, .int e] ∧ Stt p c H ∧ 0 ≤ idx ∧ idx < cnt ∧ cnt ≤ 400 ∧ 1 ≤ e ∧ e ≤ 60 ∧
  ∀ H' t, Fr p c H H' → Stt p c H' → TgtOk e cnt idx t → Q (.int t) H'
def spBelow : Sp := fun vs H Q _ => ∃ (b : Addr) (xs : List V) (t : Int), vs = [.ref b, .int t] ∧ H b = some (.lst xs) ∧ (t < 0 → ∀ D, H D = none → Q (.ref D) (upd H D (.lst []))) ∧ (0 ≤ t → ∃ v, xs[t.toNat]? = some v ∧ Q v H)
def spPoolS : Sp := fun vs H Q _ => ∃ (p c : Addr), vs = [.ref p] ∧ Stt p c H ∧ ∀ H' D l, H D = none → Fr p c H H' → Stt p c H' → H' D = some (.lst (l.map V.int)) → Qn l → l ≠ [] → l.length ≤ 5 → Q (.ref D) H'
def spNodesS : Sp := fun vs H Q _ => ∃ (p c pl : Addr) (l : List Int) (most : Nat) (e : Int), vs = [.ref p, .ref pl, .int (most : Int), .int e] ∧ Stt p c H ∧ H pl = some (.lst (l.map V.int)) ∧ pl ≠ p ∧ pl ≠ c ∧ Qn l ∧ l ≠ [] ∧ l.length ≤ 5 ∧ most ≤ 12 ∧ 1 ≤ e ∧ e ≤ 60 ∧
  ∀ H' D as rows bels, H D = none → Fr p c H H' → Stt p c H' → H' D = some (.lst (as.map V.ref)) → RowsAt H' as rows → GoodS e rows.length l rows bels → (∀ row ∈ rows, row.length = 3) → rows.length ≤ most → Q (.ref D) H'
def spOneWeb : Sp := fun vs H Q _ => ∃ (p c : Addr) (most : Nat), vs = [.ref p, .int (most : Int)] ∧ Stt p c H ∧ most ≤ 12 ∧
  ∀ H' t pl D l as rows bels (e : Int), H D = none → Fr p c H H' → Stt p c H' → H' t = some (.tup [.ref pl, .ref D, .int e]) → H' D = some (.lst (as.map V.ref)) → RowsAt H' as rows → Qn l → GoodS e rows.length l rows bels → (∀ row ∈ rows, row.length = 3) → rows.length ≤ most → 1 ≤ e → e ≤ 5 → Q (.ref t) H'
/-- a row with perhaps a skip more -/
def SkipOk (e : Int) (row row' : List Int) : Prop := row' = row ∨ ∃ s, row' = row ++ [s] ∧ ((s < 0 ∧ -e ≤ s) ∨ s ∈ row.tail)
def SkipsOk (e : Int) (rows rows' : List (List Int)) : Prop := rows'.length = rows.length ∧ ∀ (i : Nat) (row row' : List Int), rows[i]? = some row → rows'[i]? = some row' → SkipOk e row row'
theorem GoodW.skips {rows rows' : List (List Int)} {e o : Int} (h : GoodW rows e o) (h3 : ∀ row ∈ rows, row.length = 3) (hs : SkipsOk e rows rows') : GoodW rows' e o := by
  obtain ⟨A, hA⟩ := h.cert
  have key : ∀ (i : Nat) row', rows'[i]? = some row' → ∃ q r r', rows[i]? = some (q :: r) ∧ row' = q :: r' ∧ r.length = 2 ∧ (r'.length = 2 ∨ r'.length = 3) ∧ ∀ t ∈ r', t ∈ r ∨ (t < 0 ∧ -e ≤ t) := fun i row' hi => by
    have hil : i < rows.length := by rw [← hs.1]; exact (List.getElem?_eq_some_iff.mp hi).1
    have hri : rows[i]? = some rows[i] := List.getElem?_eq_getElem hil
    obtain ⟨q, r, er, _⟩ := h.row i _ hri
    have l3 := h3 _ (List.mem_of_getElem? hri)
    rw [er] at hri l3
    have r2 : r.length = 2 := by simpa using l3
    rcases hs.2 i _ _ hri hi with rfl | ⟨s, rfl, hss⟩
    · exact ⟨q, r, r, hri, rfl, r2, .inl r2, fun t m => .inl m⟩
    · refine ⟨q, r, r ++ [s], hri, rfl, r2, .inr (by rw [List.length_append, r2]; rfl), fun t m => ?_⟩
      rcases List.mem_append.mp m with m | m
      · exact .inl m
      · rw [List.mem_singleton.mp m]
        rcases hss with h | h
        · exact .inr h
        · exact .inl h
  refine ⟨h.e1, h.e2, by rw [hs.1]; exact h.len, fun i row' hi => ?_, h.o1, by rw [hs.1]; exact h.o2, A, fun i q r' hi => ?_⟩
  · obtain ⟨q, r, r', hri, rfl, _, hl, ht⟩ := key i row' hi
    obtain ⟨q2, r2, e2, _, h1, h2, h3⟩ := h.row i _ hri
    obtain ⟨rfl, rfl⟩ := List.cons.inj e2
    rw [hs.1]
    exact ⟨q, r', rfl, hl, h1, h2, fun t m => (ht t m).elim (fun m => h3 t m) fun m => ⟨m.2, by omega, by omega⟩⟩
  · obtain ⟨q2, r, r2, hri, e2, _, _, ht⟩ := key i _ hi
    obtain ⟨rfl, rfl⟩ := List.cons.inj e2
    obtain ⟨a1, a2⟩ := hA i q r hri
    exact ⟨a1, fun t m t0 => (ht t m).elim (fun m => a2 t m t0) fun m => absurd t0 (by omega)⟩
/-! the web without a node -/
def mv (k r t : Int) : Int := if t = k then r else t
def mvRow (k r : Int) : List Int → List Int
  | [] => []
  | q :: ts => q :: ts.map (mv k r)
theorem GoodW.without {rows : List (List Int)} {e o q ρ : Int} {r : List Int} {k : Nat} (h : GoodW rows e o) (hk : rows[k]? = some (q :: ρ :: r)) : GoodW (rows.map (mvRow k ρ)) e (mv k ρ o) := by
  obtain ⟨A, hA⟩ := h.cert
  obtain ⟨qk, rk, ek, _, _, _, hrk⟩ := h.row k _ hk
  obtain ⟨rfl, rfl⟩ := List.cons.inj ek
  have hρ := hrk ρ List.mem_cons_self
  have hkl : k < rows.length := (List.getElem?_eq_some_iff.mp hk).1
  have key : ∀ (i : Nat) row', (rows.map (mvRow k ρ))[i]? = some row' → ∃ q r, rows[i]? = some (q :: r) ∧ row' = q :: r.map (mv k ρ) := fun i row' hi => by
    rw [List.getElem?_map] at hi
    cases hh : rows[i]? with
    | none => rw [hh] at hi; cases hi
    | some row =>
      obtain ⟨q, r, er, _⟩ := h.row i _ hh
      rw [hh] at hi
      subst er
      exact ⟨q, r, rfl, (Option.some.inj hi).symm⟩
  have o1 := h.o1
  have o2 := h.o2
  refine ⟨h.e1, h.e2, by rw [List.length_map]; exact h.len, fun i row' hi => ?_, ?_, ?_, A, fun i q r' hi => ?_⟩
  · obtain ⟨q, r, hri, rfl⟩ := key i row' hi
    obtain ⟨q2, r2, e2, hl, h1, h2, h3⟩ := h.row i _ hri
    obtain ⟨rfl, rfl⟩ := List.cons.inj e2
    refine ⟨q, _, rfl, by rw [List.length_map]; exact hl, h1, h2, fun t m => ?_⟩
    obtain ⟨t', m', rfl⟩ := List.mem_map.mp m
    have ht := h3 t' m'
    rw [List.length_map]
    unfold mv
    split
    · rename_i ek
      subst ek
      omega
    · exact ht
  · unfold mv
    split
    · exact hρ.1
    · exact o1
  · rw [List.length_map]
    unfold mv
    split
    · exact hρ.2.1
    · exact o2
  · obtain ⟨q2, r, hri, e2⟩ := key i _ hi
    obtain ⟨rfl, rfl⟩ := List.cons.inj e2
    obtain ⟨a1, a2⟩ := hA i q r hri
    refine ⟨a1, fun t m t0 => ?_⟩
    obtain ⟨t', m', rfl⟩ := List.mem_map.mp m
    by_cases ek : t' = k
    · have em : mv k ρ t' = ρ := if_pos ek
      rw [em] at t0 ⊢
      obtain ⟨b1, b2⟩ := a2 t' m' (by omega)
      have kk : t'.toNat = k := by omega
      rw [kk] at b1 b2
      obtain ⟨_, c2⟩ := hA k _ _ hk
      obtain ⟨c3, c4⟩ := c2 ρ List.mem_cons_self t0
      exact ⟨fun hh => b1 (c4 _ hh), fun z hz => b2 z (c4 z hz)⟩
    · have em : mv k ρ t' = t' := if_neg ek
      rw [em] at t0 ⊢
      exact a2 t' m' t0
end L2

namespace L2
open PySem PySem.Spec PyProof.Rows HotX L2H
/-! ## a def that is told the error that an except clause handles -/
theorem mark_same {A : Around} {v : Value} (h : A.handled = some v) : A.mark (some v) = A := by
  show ({ A with handled := (some v).or A.handled } : Around) = A
  rw [h]
  show ({ A with handled := some v } : Around) = A
  rw [← h]
structure FnE (P : Program) (w : World) (K : PySem.W.Frag) (mg : Str → Option Value) (base : Heap) (k : Nat) (f : Addr) (fd : FuncData) (ps : List Str) (sp : Addr → Value → Option Addr → Sp) : Prop where
  len : ∀ a cls d vs H Q E, sp a cls d vs H Q E → vs.length = ps.length
  run : ∀ (A : Around) (outer : List Env) (s : Shared) (H : Hp) (args : Args) (us : List Value) (vs : List V) (Q : VK) (a : Addr) (oe : Obj) (cls : Value) (d : Option Addr), RoomH k A → A.handled = some (.ref a) → PinOk outer H s (a, oe) → Zc cls d oe → (∃ vs, oe.data = .fields vs) →
    Env0 P w K mg base A outer s H → BindsTo s fd args (ps.zip us) → Vals vs us → sp a cls d vs H Q E0 → codeAny (model P w) A (.call (.ref f) args) (CR CX0 outer P w H s Q E0) s
theorem fn_ofE {P : Program} {w : World} {K : PySem.W.Frag} {mg : Str → Option Value} {base : Heap} {x qual : Str} {st : Stmt} {f : Addr} {fd : FuncData} {N ps : List Str} {k : Nat} {sp : Addr → Value → Option Addr → Sp} (F : Fun K x qual st f fd) (S : FnScope N ps (defScope st))
    (len : ∀ a cls d vs H Q E, sp a cls d vs H Q E → vs.length = ps.length)
    (hbody : ∀ (cdv : Value) (A : Around) (outer : List Env) (s : Shared) (H : Hp) (vs : List V) (Q : VK) (a : Addr) (oe : Obj) (cls : Value) (d : Option Addr), Zc cls d oe → (∃ vs, oe.data = .fields vs) → RoomH k (A.deeper (envOfC qual (defScope st) s.heap.objs.size f cdv)) → sp a cls d vs H Q E0 →
      ∃ t, PSs ((cxOf CX0 P w K mg base N qual (defScope st) f cdv A outer s H E0).suite a [(a, oe)]) (defBody st) t ∧ t { nx := fun _ H' => Q .non H', rt := Q } (L2.start N vs) H) : FnE P w K mg base (k + 1) f fd ps sp := by
  obtain ⟨oc, od, kV, doc, pm, an, cdv, ct, osl, rfl, lk, hcd⟩ := F.ex
  refine ⟨len, fun A outer s H args us vs Q a oe cls d hr hot hpin hz hf e0 hb r hsp => ?_⟩
  have hl := len _ _ _ _ _ _ _ hsp
  have KX : K.In s.heap := e0.mod.kin.keeps fun b o e => (e0.bs b o e).1
  have lim : s.heap.NoLimit := e0.mod.nolimit.keeps fun b o e => (e0.bs b o e).1
  have hkind : ∀ y ∈ ps.zip us, (defScope st).names.lookup y.1 = some .local ∨ ((defScope st).names.lookup y.1 = some .cell ∧ ((cellsFrom (s.heap.objs.size + 1) (defScope st).names []).lookup y.1).isSome = true) := fun ⟨n, v⟩ hy => by
    rcases S.par n (List.of_mem_zip hy).1 with q | q
    · exact .inl q
    · exact .inr ⟨q, PySem.W.cellsFrom_some _ _ _ (.inl q)⟩
  refine codeAny_call_function hr.depth (KX _ _ lk) rfl S.co S.gen rfl (PySem.W.codeRec_of KX hcd) (hb _ _ _ _ ?_)
  refine wpAny_newFunctionEnv_cells S.kind hkind fun env he s1 x => ?_
  subst he
  refine ⟨lim.keeps x.toInCall.keep, codeAny_func ?_⟩
  obtain ⟨t, ht, hq⟩ := hbody cdv A outer s H vs Q a oe cls d hz hf (hr.deeper _) hsp
  have hA : (A.deeper (envOfC qual (defScope st) s.heap.objs.size f cdv)).mark (some (.ref a)) = A.deeper (envOfC qual (defScope st) s.heap.objs.size f cdv) := mark_same hot
  have e : (cxOf CX0 P w K mg base N qual (defScope st) f cdv A outer s H E0).suite a [(a, oe)] = (cxH CX0 P w K mg base N qual (defScope st) f cdv A outer s H E0 (a, oe)).nox := by
    show ({ cxOf CX0 P w K mg base N qual (defScope st) f cdv A outer s H E0 with A := (A.deeper (envOfC qual (defScope st) s.heap.objs.size f cdv)).mark (some (.ref a)), calm := false, pn := [(a, oe)], xe := fun _ _ => False } : Cx) = _
    rw [hA]
    rfl
  rw [e] at ht
  have ht := PSs.nox ht
  have I : Inv (cxH CX0 P w K mg base N qual (defScope st) f cdv A outer s H E0 (a, oe)) [] (L2.start N vs) H s1 := inv_startH S hpin e0 hl r x
  refine wpAny_mono (ht.run [] s1 (L2.start N vs) H _ I hq) (fun fl s' hs => ?_) fun e s' hs => hs
  have fin : ∀ {σ' : L2.St} {H' : Hp} {v : V} {u : Value}, Inv (cxH CX0 P w K mg base N qual (defScope st) f cdv A outer s H E0 (a, oe)) [] σ' H' s' → RelV v u → Q v H' → CE outer P w H s Q u s' :=
    fun {σ' H' v u} J rv q => ⟨v, H', J.os, J.bare, J.base, J.hok, rv, q⟩
  cases fl with
  | ret u =>
    obtain ⟨v, σ', H', J, rv, q⟩ := hs
    exact fin J rv q
  | next =>
    obtain ⟨σ', H', J, q⟩ := hs
    exact fin (v := V.non) (u := Value.none) J rfl q
  | brk =>
    obtain ⟨_, _, _, q⟩ := hs
    exact False.elim q
  | cont =>
    obtain ⟨_, _, _, q⟩ := hs
    exact False.elim q
def tCallE (a : Addr) (cls : Value) (d : Option Addr) (sp : Addr → Value → Option Addr → Sp) (t : TA) : TE := fun σ H Q => t σ H fun vs H1 => sp a cls d vs H1 Q E0
theorem pe_callE {X : Cx} {k : Nat} {f : Addr} {fd : FuncData} {ps : List Str} {sp : Addr → Value → Option Addr → Sp} {x : Str} {q pos : Pos} {e : Expr} {es : List Expr} {t : TA} {a : Addr} {oe : Obj} {cls : Value} {d : Option Addr} {pn : List (Addr × Obj)}
    (F : FnE X.prog X.w X.K X.mg X.base k f fd ps sp) (hz : Zc cls d oe) (hf : ∃ vs, oe.data = .fields vs) (hr : RoomH k X.A) (hg : Gl X x) (hm : X.mg x = some (.ref f)) (hk : PySem.W.keepIn X.K (.ref f) = true) (hb : Binds X.K fd ps [])
    (ha : PA (X.suite a ((a, oe) :: pn)) (e :: es) t) (hdb : (x == ("__debug__" : Str)) = false := by decide) (he : starEach (e :: es) X.env = (false, eval e X.env) :: starEach es X.env := by rfl) (hpl : (backTo pos (starEach es X.env)).any (·.1) = false := by rfl) :
    PE (X.suite a ((a, oe) :: pn)) (.Call (.Name x q) (e :: es) [] pos) (tCallE a cls d sp t) := by
  refine ⟨fun pins s σ H Q I h => ?_⟩
  refine wpAny_Call_Name_kw (ld_glob I hg hm ?_ hdb)
  refine PySem.W.callWith_K (h₀ := X.base) I.ok.mod.kin hk (thn (ha.run pos pins s σ H _ I h) fun us s1 ⟨vs, H1, I1, r, q⟩ => ⟨I1.kIn, ?_⟩) he hpl
  have hl : us.length = ps.length := by rw [← r.length]; exact F.len _ _ _ _ _ _ _ q
  have b := hb s1 us I1.kIn (by rw [List.append_nil]; exact hl)
  rw [List.append_nil] at b
  have P1 := I1.pin (a, oe) (List.mem_append_left _ List.mem_cons_self)
  have hpin : PinOk (X.suite a ((a, oe) :: pn)).stack H1 s1 (a, oe) := ⟨P1.1, P1.2.1, fun hm => (List.mem_cons.mp (I1.stkSub a hm)).elim P1.2.2.1 P1.2.2.2.1, P1.2.2.2.2⟩
  show wpAny _ _ (call (.ref f) us) _ _ _
  refine wpAny_call (codeAny_mono (F.run (X.suite a ((a, oe) :: pn)).A (X.suite a ((a, oe) :: pn)).stack s1 H1 ⟨us, []⟩ us vs Q a oe cls d ⟨hr.dp, hr.un⟩ rfl hpin hz hf I1.env0 b r q) fun r s' hq => ?_)
  cases r with
  | error e => exact (show False from hq).elim
  | ok fl =>
    cases fl with
    | ret u => exact I1.after hq
    | next => exact False.elim hq
    | brk => exact False.elim hq
    | cont => exact False.elim hq
end L2

namespace L2
open PySem PySem.Spec PyProof.Rows
/-! ## enumerate(list, start=k) -/
theorem callWith_TKW {M : Model} {A : Around} {E : Value → Shared → Prop} {s : Shared} {env : Env} {pos : Pos} {T : String} {Q : Value → Shared → Prop} {e : Expr} {rest : List Expr} {kws : List Keyword} (hall : ((backToKw pos (keywordEach kws env)).all fun x => x.1.isSome) = true)
    (h : wpAny M A (spliced (backTo pos (starEach (e :: rest) env))) (fun vs s₁ => wpAny M A (evalAll ((backToKw pos (keywordEach kws env)).map fun x => x.2))
      (fun ks s₂ => wpAny M A (call (.type T) vs (((backToKw pos (keywordEach kws env)).filterMap fun x => x.1).zip ks)) Q E s₂) E s₁) E s)
    (hplain : (((backTo pos (starEach (e :: rest) env)).any fun x => x.1) || (backToKw pos (keywordEach kws env)).any fun x => x.1.isNone) = false) (he : starEach (e :: rest) env = (false, eval e env) :: starEach rest env) :
    wpAny M A (callWith pos (.type T) [] (backTo pos (starEach (e :: rest) env)) (backToKw pos (keywordEach kws env))) Q E s :=
  PySem.W.callWith_of (P := fun _ => True) hplain (fun _ _ => ⟨_, .inr (.inl rfl), .now⟩) (evalArgs_kw2 (f := .type T) hall (thn h fun vs s1 h1 => thn h1 fun ks s2 h2 => ⟨trivial, h2⟩) he)
def IteS (K : PySem.W.Frag) (k : Int) (a : Addr) : It :=
  ⟨fun i H => ∃ xs x, SqL K H a xs ∧ xs[i]? = some x, fun i H v H' => ∃ T x, v = .ref T ∧ H T = none ∧ H' = upd H T (.tup [.int (k + (i : Nat)), x]) ∧ ∀ xs, SqL K H a xs → xs[i]? = some x, fun i H => ∃ xs, SqL K H a xs ∧ xs.length = i⟩
theorem turn_enumS {P : Program} {w : World} {K : PySem.W.Frag} {elts : List Expr} {kk : Nat} {tpos : Pos} (k : Int) (a e it : Addr) :
    Turn P w K (.Tuple elts kk tpos) (IteS K k a) [e, it] e fun i h => (∃ old, IsEnum h e it (k + (i : Nat)) old) ∧ h.IsListIter it a i ∧ e ≠ it := by
  refine ⟨by simp, fun i h ⟨⟨old, z⟩, ⟨o, ho, _, hd⟩, _⟩ b hb => ?_, fun i h h' ⟨⟨old, z⟩, y, ne⟩ kp => ⟨⟨old, kp e (by simp) _ z⟩, y.at fun o q => kp it (by simp) o q, ne⟩, fun X hP hw hK hc i pins s σ H E I fp ⟨⟨old, z⟩, y, ne⟩ go => ?_, fun X hP hw hK hc i pins s σ H E I fp ⟨⟨old, z⟩, y, ne⟩ st => ?_, fun A i s Q E ⟨⟨_, z⟩, _⟩ h => wpAny_pyIter_enum z h⟩
  · rcases List.mem_cons.mp hb with e1 | hb
    · subst e1
      exact ⟨_, z, fun v h => by cases h⟩
    · obtain rfl := List.mem_singleton.mp hb
      exact ⟨o, ho, fun v h => by rw [hd] at h; cases h⟩
  · subst hP hw hK
    obtain ⟨xs, x, hs, hx⟩ := go
    obtain ⟨its, hv, ht, hlen⟩ := I.list hs
    have hl := hv.length
    have hi : i < its.toArray.size := by
      have := (List.getElem?_eq_some_iff.mp hx).1
      rw [List.size_toArray]
      omega
    have ha : a ≠ it := fun q => by
      subst q
      obtain ⟨o, ho, hc, _⟩ := y
      obtain ⟨o', ho', hc', _⟩ := ht.isList
      rw [ho] at ho'
      obtain rfl := Option.some.inj ho'
      rw [hc] at hc'
      exact absurd hc' (by decide)
    refine wpAny_pyNext_enum_itemC (Draws.list (A := X.A.in1) (I.ok.hd hc) it a ha its.toArray) z ⟨y, ht.isList⟩ hi ne (fun q => ?_) fun x' h' tk hx' out st' tup sz kp => ?_
    · rcases List.mem_cons.mp q with q | q
      · exact ne q
      · have q := List.mem_singleton.mp q
        subst q
        obtain ⟨o', ho', hc', _⟩ := ht.isList
        rw [z] at ho'
        obtain rfl := Option.some.inj ho'
        exact absurd hc' (by show ¬ (Value.type "enumerate" = Value.type "list"); decide)
    obtain ⟨u, hu, ru⟩ : ∃ u, its[i]? = some u ∧ RelV x u := paired_get hv hx
    have ex : x' = u := by
      rw [List.getElem?_toArray, hu] at hx'
      exact (Option.some.inj hx').symm
    subst ex
    have hT : H s.heap.objs.size = none := I.hok.fresh (Nat.le_refl _)
    refine ⟨_, rfl, wpAny_letOwnedTupleGo_enum out fun h2 z2 sb => ?_⟩
    have eT : s.heap.objs.size ≠ e := fun q => Nat.lt_irrefl _ (q ▸ Heap.lt_size z)
    have tup2 : h2.get? s.heap.objs.size = some { cls := .type "tuple", data := .seq #[.int (k + (i : Nat)) tk, x'] } := by rw [sb.2 _ eT]; exact tup
    have y2 : h2.IsListIter it a (i + 1) := st'.1.at fun o ho => by rw [sb.2 it (Ne.symm ne)]; exact ho
    refine ⟨.ref s.heap.objs.size, upd H s.heap.objs.size (.tup [.int (k + (i : Nat)), x]), ?_, rfl, ⟨_, x, rfl, hT, rfl, fun ys hy => by rw [I.list_inj hy hs]; exact hx⟩, ⟨⟨x', by rw [show k + ((i + 1 : Nat) : Int) = k + (i : Nat) + 1 by omega]; exact z2⟩, y2, ne⟩, fun b hb => ?_⟩
    · refine Inv.turnedNew (s := s) (ch := [e, it]) I (fun b o nb hb => ?_) fp (Nat.le_refl _) ⟨by show 2 ≤ sizeLine; decide, [.int (k + (i : Nat)) tk, x'], .cons ⟨tk, rfl⟩ (.cons ru .nil), ⟨_, tup2, rfl, _, rfl⟩⟩
      have n1 : b ≠ e := fun q => nb (by rw [q]; simp)
      have n2 : b ≠ it := fun q => nb (by rw [q]; simp)
      rw [sb.2 b n1]
      exact kp b o n1 n2 hb
    · have nb : b ≠ s.heap.objs.size := by
        rcases List.mem_cons.mp hb with q | q
        · rw [q]; exact Ne.symm eT
        · rw [List.mem_singleton.mp q]
          obtain ⟨o, ho, _⟩ := y
          exact fun q => Nat.lt_irrefl _ (q ▸ Heap.lt_size ho)
      rw [upd_ne nb]
      exact (fp b hb).1
  · subst hP hw hK
    obtain ⟨xs, hs, hl⟩ := st
    obtain ⟨its, hv, ht, hlen⟩ := I.list hs
    have hl2 := hv.length
    have ha : a ≠ it := fun q => by
      subst q
      obtain ⟨o, ho, hc, _⟩ := y
      obtain ⟨o', ho', hc', _⟩ := ht.isList
      rw [ho] at ho'
      obtain rfl := Option.some.inj ho'
      rw [hc] at hc'
      exact absurd hc' (by decide)
    have en : its.toArray.size = i := by rw [List.size_toArray]; omega
    refine wpAny_pyNext_enum_endD (Draws.list (A := X.A.in1) (I.ok.hd hc) it a ha its.toArray) z (by rw [en]; exact ⟨y, ht.isList⟩) fun h' eb => ⟨rfl, ?_⟩
    have f := fp it (by simp)
    exact I.turned (fun b o nb hb => eb b o nb hb) f.1 f.2.1 f.2.2.2.1 f.2.2.2.2.1 f.2.2.2.2.2
def iEnumS (K : PySem.W.Frag) (ta tk : TA) : TI := fun σ H R => ta σ H fun vs H1 => tk σ H1 fun zs H2 => ∃ a xs k, vs = [.ref a] ∧ zs = [.int k] ∧ SqL K H2 a xs ∧ -(2 ^ 63) ≤ k ∧ k < 2 ^ 63 ∧ R (IteS K k a) H2
theorem pi_enumS {X : Cx} {e : Expr} {kws : List Keyword} {ta tk : TA} {p pos tpos : Pos} {elts : List Expr} {kk : Nat} (hg : Gl X "enumerate") (hm : X.mg "enumerate" = none) (ha : PA X [e] ta) (hk : PK X kws tk) (h1 : ((backToKw pos (keywordEach kws X.env)).all fun x => x.fst.isSome) = true := by rfl)
    (h2 : List.filterMap (fun x => x.fst) (backToKw pos (keywordEach kws X.env)) = [Str.ofString "start"] := by rfl) (he : starEach [e] X.env = [(false, eval e X.env)] := by rfl)
    (hpl : ((((backTo pos (starEach [e] X.env)).any fun x => x.fst) || (backToKw pos (keywordEach kws X.env)).any fun x => x.fst.isNone) = false) := by rfl) :
    PI X (.Tuple elts kk tpos) (.Call (.Name "enumerate" p) [e] kws pos) (iEnumS X.K ta tk) := by
  refine ⟨fun pins s σ H R I h => ?_⟩
  refine wpAny_Call_Name_kw (ld_blt I hg hm boot_enumerate (callWith_TKW h1 (thn (ha.run pos pins s σ H _ I h) fun us s1 hh => ?_) hpl he))
  obtain ⟨vs, H1, I1, r1, hq⟩ := hh
  refine thn (hk.run pos pins s1 σ H1 _ I1 hq) fun ws s2 hh => ?_
  obtain ⟨zs, H2, I2, r2, a, xs, k, e1, e2, hs, k0, k1, q⟩ := hh
  subst e1 e2
  obtain ⟨u, rfl, ru⟩ := vals1 r1
  obtain ⟨v, rfl, t, rfl⟩ := vals1 r2
  obtain rfl : u = Value.ref a := ru
  obtain ⟨its, rv, ht, hz⟩ := I2.list hs
  rw [h2]
  refine enum_begins_start (begins_list a its.toArray) ht.isList k0 k1 fun h' he' hit hsz hkp => wpAny_pyIter_enum he' ?_
  have I3 : Inv X pins σ H2 { s2 with heap := h' } := I2.kept (t' := s2.toks) hkp
  refine ⟨s2.heap.objs.size + 1, [s2.heap.objs.size + 1, s2.heap.objs.size], _, _, H2, rfl, I3, turn_enumS k a (s2.heap.objs.size + 1) s2.heap.objs.size, ⟨⟨.none, by simpa using he'⟩, ⟨_, hit, rfl, rfl⟩, Nat.succ_ne_self _⟩, fun b hb => ?_, q⟩
  have hle : s2.heap.objs.size ≤ b := by
    rcases List.mem_cons.mp hb with z | z
    · rw [z]; exact Nat.le_add_right _ _
    · rw [List.mem_singleton.mp z]; exact Nat.le_refl _
  exact I2.fpOk hle (I2.hok.fresh hle)
/-- a comprehension over anything that serves n items -/
theorem lc_it {J : It} {n : Nat} {g : TG} {tt : TT} {te : TE} {vs : List Nat} {σ : St} {H1 : Hp} {D : Addr} {Qd : Hp → Prop} (Pv : Nat → Hp → Prop) (h0 : Pv 0 (upd H1 D (.lst []))) (hgo : ∀ i H, i < n → Pv i H → J.go i H) (hst : ∀ H, Pv n H → J.stop n H)
    (hs : ∀ i H x H', i < n → Pv i H → J.yld i H x H' → g x (wipe σ vs) H' fun σ2 H2 => wipe σ2 vs = wipe σ vs ∧ tt σ2 H2 fun b H3 =>
      if b = true then te σ2 H3 fun y H4 => ∃ acc, H4 D = some (.lst acc) ∧ acc.length < sizeLine ∧ Pv (i + 1) (upd H4 D (.lst (acc ++ [y]))) else Pv (i + 1) H3) (hd : ∀ H, Pv n H → Qd H) :
    ∃ W : Nat → Nat → Hp → Prop, (∃ m, W 0 m (upd H1 D (.lst []))) ∧ ∀ i m H, W i m H →
      (J.stop i H ∧ Qd H) ∨ (J.go i H ∧ ∃ Nx : Hp → Prop, (∀ H', Nx H' → ∃ m', m' < m ∧ W (i + 1) m' H') ∧ ∀ x H', J.yld i H x H' → g x (wipe σ vs) H' fun σ2 H2 => wipe σ2 vs = wipe σ vs ∧ tt σ2 H2 fun b H3 =>
        if b = true then te σ2 H3 fun y H4 => ∃ acc, H4 D = some (.lst acc) ∧ acc.length < sizeLine ∧ Nx (upd H4 D (.lst (acc ++ [y]))) else Nx H3) := by
  refine ⟨fun i m H => m = n - i ∧ i ≤ n ∧ Pv i H, ⟨n, rfl, Nat.zero_le _, h0⟩, ?_⟩
  rintro i m H ⟨rfl, hi, p⟩
  rcases Nat.lt_or_ge i n with hlt | hge
  · exact .inr ⟨hgo i H hlt p, Pv (i + 1), fun H' p' => ⟨n - (i + 1), by omega, rfl, hlt, p'⟩, fun x H' y => hs i H x H' hlt p y⟩
  · obtain rfl : i = n := by omega
    exact .inl ⟨hst H p, hd H p⟩
end L2

namespace L2
open PySem PySem.Spec PyProof.Rows HotX L2H
/-! ## joint walks: what their defs promise -/
/-- a drawn place: a position, or one beyond -/
def spPlace (K : PySem.W.Frag) : Sp := fun vs H Q _ => ∃ (p c D : Addr) (xs : List V) (e : Int), vs = [.ref p, .ref D, .int e] ∧ Stt p c H ∧ H D = some (.lst xs) ∧ D ≠ p ∧ D ≠ c ∧ xs.length ≤ 60 ∧ 1 ≤ e ∧ e ≤ 60 ∧
  ∀ H' v, Fr p c H H' → Stt p c H' → -100 ≤ v → v ≤ 100 → Q (.int v) H'
def spFits : Sp := fun vs H Q _ => ∃ (D : Addr) (xs : List V) (e v : Int), vs = [.ref D, .int e, .int v] ∧ H D = some (.lst xs) ∧ Q (.bl (decide (-e ≤ v ∧ v < xs.length))) H
/-- what an error of Joint is told as -/
inductive JDue where
  | count (n : Int) | rel (z : Str) | pos (n : Int)
  deriving DecidableEq
def JDue.row : JDue → List V
  | .count n => [.str "count", .int n]
  | .rel z => [.str "relation", .str z]
  | .pos n => [.str "positions", .int n]
def JDue.At (C1 C2 C3 : Addr) (H : Hp) (cls : Value) (d : Option Addr) : JDue → Prop
  | .count n => cls = .ref C1 ∧ ∃ dd, d = some dd ∧ H dd = some (.xd [("count", .int n)])
  | .rel z => cls = .ref C2 ∧ ∃ dd, d = some dd ∧ H dd = some (.xd [("word", .str z)])
  | .pos n => cls = .ref C3 ∧ ∃ dd, d = some dd ∧ H dd = some (.xd [("index", .int n)])
def spTold (C1 C2 C3 : Addr) : Addr → Value → Option Addr → Sp := fun b cls d vs H Q _ => ∃ j : JDue, vs = [.ref b] ∧ j.At C1 C2 C3 H cls d ∧ ∀ t, H t = none → Q (.ref t) (upd H t (.tup j.row))
/-- a word of an error -/
def okWd (v : V) : Prop := ∃ z : Str, v = .str z ∧ z.length ≤ 60
end L2
namespace L2
open PySem PySem.Spec PyProof.Rows HotX L2H RZ
/-- webs by their rows, ends and starts -/
abbrev JW := List (List Int) × Int × Int
def WebsAt (C : Addr) (H : Hp) (as : List Addr) (ws : List JW) : Prop := as.length = ws.length ∧ ∀ (i : Nat) (x : Addr) (w : JW), as[i]? = some x → ws[i]? = some w → WebAt C H x w.1 w.2.1 w.2.2
theorem WebsAt.same {C : Addr} {H H' : Hp} {as : List Addr} {ws : List JW} (s : Same H H') (h : WebsAt C H as ws) : WebsAt C H' as ws := ⟨h.1, fun i x w hi hw => (h.2 i x w hi hw).same s⟩
def plOk (w : JW) (z : Int) : Bool := decide (-w.2.1 ≤ z ∧ z < (w.1.length : Nat))
def havePl (ws : List JW) (zs : List Int) : Bool := decide (zs.length = ws.length) && ((List.zipWith plOk ws zs).all id)
def spHavePl (K : PySem.W.Frag) (C : Addr) : Sp := fun vs H Q _ => ∃ (wt pt : Addr) (as : List Addr) (ws : List JW) (zs : List Int), vs = [.ref wt, .ref pt] ∧ H wt = some (.tup (as.map V.ref)) ∧ WebsAt C H as ws ∧ H pt = some (.tup (zs.map V.int)) ∧ ws.length ≤ 60 ∧
  ∀ H', Same H H' → Q (.bl (havePl ws zs)) H'
end L2

namespace L2
open PySem PySem.Spec PyProof.Rows HotX L2H RZ
/-- the error that is due for what a Joint is given -/
def jDue (ws : List JW) (rel : Str) (sts : List (List Int)) : Option JDue :=
  if ¬ ((1 : Int) ≤ ws.length ∧ (ws.length : Int) ≤ 3) then some (.count ws.length)
  else if ¬ (rel = "same" ∨ rel = "within") then some (.rel rel)
  else if rel = "within" ∧ ws.length ≠ 2 then some (.rel rel)
  else (sts.findIdx? fun s => !havePl ws s).map fun (i : Nat) => JDue.pos (i : Int)
def spCheck (CJ C C1 C2 C3 : Addr) : Sp := fun vs H Q E => ∃ (x dx wt st : Addr) (fs : List (Str × V)) (as ss : List Addr) (ws : List JW) (sts : List (List Int)) (rel : Str), vs = [.ref x] ∧ H x = some (.ins CJ dx fs) ∧
  fs.lookup ("webs" : Str) = some (.ref wt) ∧ fs.lookup ("starts" : Str) = some (.ref st) ∧ fs.lookup ("relation" : Str) = some (.str rel) ∧ H wt = some (.tup (as.map V.ref)) ∧ WebsAt C H as ws ∧ H st = some (.tup (ss.map V.ref)) ∧ RowsAt H ss sts ∧
  ws.length ≤ 60 ∧ sts.length ≤ 60 ∧ rel.length ≤ 60 ∧ (jDue ws rel sts = none → ∀ H', Same H H' → Q .non H') ∧ ∀ j, jDue ws rel sts = some j → ∀ cls d H', Same H H' → j.At C1 C2 C3 H' cls d → E cls d H'
end L2

namespace L2
open PySem PySem.Spec PyProof.Rows
/-! ## set(l), l a list of ints -/
theorem call_set_lstI {P : Program} {w : World} {A : Around} {E : Value → Shared → Prop} {s : Shared} {l : Addr} {items : Array Value} (ns : List Int) {Q : Value → Shared → Prop} (hh : A.handled = none) (hl : s.heap.IsList l items) (hit : IntsAre items.toList ns) (hb : ns.length + 1 < scanBound)
    (h : ∀ (h' : Heap) (tk c : Nat), SetR w h' s.heap.objs.size (fun j => decide (j ∈ ns)) c → c ≤ ns.length → (∀ (b : Addr) (o : Obj), s.heap.get? b = some o → h'.get? b = some o) → Q (Value.ref s.heap.objs.size) { heap := h', gens := s.gens, drawn := s.drawn, toks := tk, os := s.os }) :
    wpAny (model P w) A (call (Value.type "set") [Value.ref l]) Q E s := by
  have hisz : items.size = ns.length := by have := hit.length; simpa using this
  obtain ⟨c, tl, hmro⟩ := F.called_set.mro
  have hmade := F.called_set.made
  refine wpAny_call (codeAny_of_tree ?_)
  refine wpAny_pure ⟨Code.quiet_builtin _ (by decide +kernel), codeAny_builtin F.entry_type_call ?_⟩
  rw [Around.under_plain (weight_type_call_type "set" [Value.ref l] []) rfl]
  have hct := F.typeCall_set_1 (Value.ref l)
  have h1 := F.called_set.notType
  have h2 := F.called_set.canCreate
  unfold Builtin.«type.__call__»
  dsimp only
  refine wpAny_ite_false (by rw [h1]; rfl) ?_
  refine wpAny_ite_false (by rw [h2]; rfl) ?_
  refine wpAny_bind (wpAny_of_eq hct ?_)
  refine wpAny_bind (wpAny_of_eq hmro ?_)
  refine wpAny_ite_false rfl ?_
  refine wpAny_bind (wpAny_of_eq hmade ?_)
  refine wpAny_bind (wpAny_pure ?_)
  refine wpAny_bind (wpAny_holding ?_)
  refine wpAny_call (codeAny_mono (code_set_led1 (Q₁ := fun obj s₁ => obj = .ref s.heap.objs.size ∧ s₁ = { heap := s.heap.push { cls := Value.type "set", data := Data.set #[] 0 (SetTable.fresh 0 0 !w.params.followText "set-order") }, gens := s.gens, drawn := s.drawn, toks := s.toks, os := s.os }) (E := E) (Value.ref l) ⟨rfl, rfl⟩) fun r s₁ hr => ?_)
  match r, hr with
  | .error e, hr => exact hr
  | .ok .next, hr => exact hr.elim
  | .ok .brk, hr => exact hr.elim
  | .ok .cont, hr => exact hr.elim
  | .ok (.ret v), hr =>
    obtain ⟨rfl, rfl⟩ := hr
    have hS : Shared.TypeIs { heap := s.heap.push { cls := Value.type "set", data := Data.set #[] 0 (SetTable.fresh 0 0 !w.params.followText "set-order") }, gens := s.gens, drawn := s.drawn, toks := s.toks, os := s.os } (.ref s.heap.objs.size) "set" := ⟨_, Heap.get?_push_size _ rfl, rfl⟩
    refine wpAny_bind (wpAny_isInstance hS F.called_set.sub ?_)
    refine wpAny_ite_false rfl ?_
    refine wpAny_bind (wpAny_holding ?_)
    refine wpAny_bind (wpAny_specialOf hS F.called_set.init.lookup ?_)
    refine wpAny_holding ?_
    refine wpAny_bind (wpAny_of_eq (F.called_set.init.bind _) ?_)
    refine wpAny_bind (wpAny_call (codeAny_mono (codeAny_call_builtin (R := wants (fun r s₂ => r = Value.none ∧ ∃ h' tk c, s₂ = { heap := h', gens := s.gens, drawn := s.drawn, toks := tk, os := s.os } ∧ SetR w h' s.heap.objs.size (fun j => decide (j ∈ ns)) c ∧ c ≤ ns.length ∧ ∀ (b : Addr) (o : Obj), s.heap.get? b = some o → h'.get? b = some o) E) F.called_set.init.plain F.entry_set_init (check_set_init_1 hS ?_)) fun r s₂ hr => ?_))
    · show wpAny (model P w) A.in1.in1 (Builtin.«set.__init__» { pos := [Value.ref s.heap.objs.size, Value.ref l] }) _ _ _
      unfold Builtin.«set.__init__»
      dsimp only
      refine wpAny_bind ?_
      unfold noKeywords
      refine wpAny_ite_true rfl ?_
      refine wpAny_pure ?_
      refine wpAny_bind ?_
      unfold typeNameOfCut
      refine wpAny_bind ?_
      unfold shownTypeOf
      refine wpAny_bind ?_
      refine wpAny_typeOf hS ?_
      refine wpAny_ite_false rfl ?_
      refine wpAny_pure ?_
      refine wpAny_pure ?_
      refine wpAny_bind ?_
      unfold checkCount
      refine wpAny_ite_false rfl ?_
      refine wpAny_ite_false rfl ?_
      refine wpAny_ite_false rfl ?_
      refine wpAny_pure ?_
      refine wpAny_bind ?_
      refine wpAny_pure ?_
      refine wpAny_bind ?_
      unfold setUsed
      refine wpAny_bind ?_
      unfold setState
      refine wpAny_bind ?_
      refine wpAny_load' (Heap.get?_push_size _ rfl) ?_
      refine wpAny_ite_false rfl ?_
      refine wpAny_pure ?_
      refine wpAny_pure ?_
      refine wpAny_ite_false rfl ?_
      refine wpAny_bind ?_
      unfold Builtin.Frozenset.updateFrom Builtin.Frozenset.isAnySet
      refine wpAny_bind ?_
      obtain ⟨ol, hol, hcl, nl, hdl⟩ := id hl
      have hlt : l < s.heap.objs.size := Heap.lt_size hol
      have hol' : (s.heap.push { cls := Value.type "set", data := Data.set #[] 0 (SetTable.fresh 0 0 !w.params.followText "set-order") }).get? l = some ol := Heap.get?_push_of_some _ hol
      have hL : Shared.TypeIs { heap := s.heap.push { cls := Value.type "set", data := Data.set #[] 0 (SetTable.fresh 0 0 !w.params.followText "set-order") }, gens := s.gens, drawn := s.drawn, toks := s.toks, os := s.os } (.ref l) "list" := ⟨_, hol', hcl⟩
      refine wpAny_bind ?_
      refine wpAny_isInstance hL F.sub_list_set ?_
      refine wpAny_bind ?_
      refine wpAny_typeOf hL ?_
      refine wpAny_of_eq F.sub_list_frozenset ?_
      refine wpAny_ite_false rfl ?_
      refine wpAny_bind ?_
      refine wpAny_typeOf hL ?_
      refine wpAny_ite_false rfl ?_
      refine wpAny_bind ?_
      refine wpAny_pyIter_list (items := items) ⟨ol, hol', hcl, nl, hdl⟩ ?_
      refine wpAny_bind (wpAny_runValue ?_)
      have hz1 : (s.heap.push { cls := Value.type "set", data := Data.set #[] 0 (SetTable.fresh 0 0 !w.params.followText "set-order") }).objs.size = s.heap.objs.size + 1 := Heap.size_push _ _
      have hli : (s.heap.push { cls := Value.type "set", data := Data.set #[] 0 (SetTable.fresh 0 0 !w.params.followText "set-order") }).IsList l items := ⟨ol, hol', hcl, nl, hdl⟩
      refine set_update_ints (Walks.toS (Walks.list (A := A.in1.in1.in1) hh _ l (by rw [hz1]; exact Nat.ne_of_lt (Nat.lt_succ_of_lt hlt)) items)) s.heap.objs.size (by
        rw [hz1]
        intro hm
        rcases List.mem_cons.mp hm with h | h
        · exact absurd h (Nat.ne_of_lt (Nat.lt_succ_self _))
        · exact absurd (List.mem_singleton.mp h) (Nat.ne_of_gt hlt)) ns hisz hb (fun i v hv => ?_) _ 0 _ rfl (Nat.zero_le _) ⟨⟨_, Heap.get?_push_size _ rfl, rfl, rfl⟩, hli.push _⟩ ⟨0, Nat.le_refl _, setR_new_at ?_⟩ fun s' c2 mv hc hR => ?_
      · obtain ⟨t, e⟩ := IntsAre.int_at hit i v (by rw [Array.getElem?_toList]; exact hv)
        have hi : i < ns.length := by rw [← hisz]; exact (Array.getElem?_eq_some_iff.mp hv).1
        exact ⟨ns.getD i 0, t, by rw [List.getD_eq_getElem?_getD, List.getElem?_eq_getElem hi]; rfl, e⟩
      · exact Heap.get?_push_of_some _ (Heap.get?_push_size _ rfl)
      · refine wpAny_pure (wpAny_pure ⟨rfl, s'.heap, s'.toks, c2, ?_, hR, by omega, fun b o hbo => mv.heap b o ?_ (Heap.get?_push_of_some _ (Heap.get?_push_of_some _ hbo))⟩)
        · have m1 := mv.gens
          have m2 := mv.drawn
          have m3 := mv.os
          obtain ⟨h', g', d', t', o'⟩ := s'
          dsimp only at m1 m2 m3
          subst m1 m2 m3
          rfl
        · have hbl := Heap.lt_size hbo
          intro hm
          rcases List.mem_cons.mp hm with h | h
          · exact absurd h (Nat.ne_of_lt hbl)
          · have h := List.mem_singleton.mp h
            rw [hz1] at h
            exact absurd h (Nat.ne_of_lt (Nat.lt_succ_of_lt hbl))
    · match r, hr with
      | .error e, hr => exact hr
      | .ok .next, hr => exact hr.elim
      | .ok .brk, hr => exact hr.elim
      | .ok .cont, hr => exact hr.elim
      | .ok (.ret v), hr =>
        obtain ⟨rfl, h', tk, c2, rfl, hR, hc, hk⟩ := hr
        refine wpAny_pure ?_
        refine wpAny_ite_false rfl ?_
        exact wpAny_pure (h h' tk c2 hR hc hk)
section
variable {X : Cx}
/-- set(l), l a list of ints -/
def rSetOfL (K : PySem.W.Frag) (w : World) : List V → Hp → VK → Prop := fun xs H Q => ∃ (l : Addr) (ns : List Int), xs = [V.ref l] ∧ SqL K H l (ns.map V.int) ∧ ns.length ≤ 1000 ∧
  ∀ p c, H p = none → c ≤ ns.length → (∀ L : List Int, (∀ k ∈ ns, k ∈ L) → c ≤ L.length) → Q (.ref p) (upd H p (SetO w p (fun j => decide (j ∈ ns)) c))
theorem cr_setOfL (hc : X.calm = true) : CallR X (.type "set") (rSetOfL X.K X.w) := by
  intro pins s σ H xs us Q I r h
  obtain ⟨l, ns, rfl, hq, hl, q⟩ := h
  rw [Vals.ref1 r]
  obtain ⟨its, rv, pt, hz⟩ := I.list hq
  have hi : IntsAre its.toArray.toList ns := by simpa using ints_of_vals rv
  refine call_set_lstI ns (I.ok.hd hc) (let ⟨o, n, h1, h2, _, h4⟩ := pt; ⟨o, h1, h2, n, h4⟩) hi (by unfold scanBound; omega) fun h' tk c R hcn k => ?_
  have hn : H s.heap.objs.size = none := I.hok.fresh (Nat.le_refl _)
  refine ⟨.ref s.heap.objs.size, upd H s.heap.objs.size (SetO X.w s.heap.objs.size (fun j => decide (j ∈ ns)) c), I.laid (t' := tk) k (Nat.le_refl _) (setO_new R), rfl, q _ c hn hcn fun L hL => ?_⟩
  obtain ⟨o, es, ep, t, ho, hex, hdt, g, nd, hm2, hb, hf, hn2, hr, hl2⟩ := R
  have z := nodup_le _ L nd fun x hx => hL x (of_decide_eq_true ((hm2 x).mpr hx))
  rw [List.length_map, Array.length_toList, hn2] at z
  exact z
end
end L2

namespace L2
open PySem PySem.Spec PyProof.Rows
/-! ## what is led to -/
inductive Led (rows : List (List Int)) (i : Int) : Int → Prop
  | refl : Led rows i i
  | step {j t q a b : Int} {r : List Int} : Led rows i j → 0 ≤ j → rows[j.toNat]? = some (q :: a :: b :: r) → (t = a ∨ t = b) → Led rows i t
theorem Led.sub {rows : List (List Int)} {i : Int} {S : Int → Prop} (h0 : S i) (hc : ∀ j q a b r, S j → 0 ≤ j → rows[j.toNat]? = some (q :: a :: b :: r) → S a ∧ S b) {j : Int} (h : Led rows i j) : S j := by
  induction h with
  | refl => exact h0
  | step _ h1 h2 h3 ih =>
    obtain ⟨x, y⟩ := hc _ _ _ _ _ ih h1 h2
    rcases h3 with rfl | rfl
    · exact x
    · exact y
theorem GoodW.two {rows : List (List Int)} {e o : Int} (h : GoodW rows e o) {i : Nat} {row : List Int} (hi : rows[i]? = some row) : ∃ q a b r, row = q :: a :: b :: r ∧ 0 ≤ q ∧ q < 48 ∧ (-e ≤ a ∧ a < rows.length ∧ ¬ (0 ≤ a ∧ a ≤ i)) ∧ (-e ≤ b ∧ b < rows.length ∧ ¬ (0 ≤ b ∧ b ≤ i)) := by
  obtain ⟨q, r, rfl, hl, q0, q1, ht⟩ := h.row i row hi
  match r, hl, ht with
  | a :: b :: r, _, ht => exact ⟨q, a, b, r, rfl, q0, q1, ht a List.mem_cons_self, ht b (List.mem_cons_of_mem _ List.mem_cons_self)⟩
theorem Led.bounds {rows : List (List Int)} {e o i : Int} (h : GoodW rows e o) (h1 : -e ≤ i) (h2 : i < rows.length) {j : Int} (hj : Led rows i j) : -e ≤ j ∧ j < rows.length := by
  refine hj.sub (S := fun j => -e ≤ j ∧ j < rows.length) ⟨h1, h2⟩ fun j q a b r _ j0 hr => ?_
  obtain ⟨q', a', b', r', er, _, _, x, y⟩ := h.two hr
  simp only [List.cons.injEq] at er
  obtain ⟨rfl, rfl, rfl, rfl⟩ := er
  exact ⟨⟨x.1, x.2.1⟩, y.1, y.2.1⟩
/-- all positions -/
def posL (e n : Nat) : List Int := (List.range (e + n)).map fun i : Nat => (i : Int) - (e : Int)
theorem mem_pos {e n : Nat} {x : Int} (h1 : -(e : Int) ≤ x) (h2 : x < n) : x ∈ posL e n := by
  unfold posL
  rw [List.mem_map]
  exact ⟨(x + e).toNat, List.mem_range.mpr (by omega), by omega⟩
theorem pos_len (e n : Nat) : (posL e n).length = e + n := by
  unfold posL
  rw [List.length_map, List.length_range]
/-! dicts of True -/
def dTrue (ks : List Int) : List (Key × V) := ks.map fun j => (Sum.inl j, V.bl true)
theorem valV_dTrue (t : Int) : ∀ ks : List Int, valV (dTrue ks) (Sum.inl t) = if t ∈ ks then some (V.bl true) else none
  | [] => by simp [dTrue, valV_nil]
  | k :: ks => by
    have ih := valV_dTrue t ks
    unfold dTrue at ih ⊢
    rw [List.map_cons]
    by_cases e : k = t
    · subst e
      rw [valV_pos rfl, if_pos List.mem_cons_self]
    · rw [valV_neg (fun z => e (Sum.inl.inj z)), ih]
      by_cases m : t ∈ ks
      · rw [if_pos m, if_pos (List.mem_cons_of_mem _ m)]
      · rw [if_neg m, if_neg (fun z => (List.mem_cons.mp z).elim (fun z => e z.symm) m)]
theorem put_dTrue {t : Int} {ks : List Int} (h : t ∉ ks) : putK (dTrue ks) (Sum.inl t) (V.bl true) = dTrue (ks ++ [t]) := by
  rw [putK_new _ (by rw [valV_dTrue, if_neg h])]
  unfold dTrue
  rw [List.map_append]
  rfl
theorem keys_dTrue (ks : List Int) : ((dTrue ks).map fun kv => kV kv.1) = ks.map V.int := by
  unfold dTrue
  rw [List.map_map]
  rfl
/-! [1:3] of a row -/
theorem cut_13 (q a b : Int) (r : List Int) : cutV ((q :: a :: b :: r).map V.int) (some 1) (some 3) = [a, b].map V.int := by
  unfold cutV HT.sIx
  simp only [List.map_cons, List.length_cons]
  rw [if_neg (by decide), if_neg (by decide)]
  have h1 : min (3 : Int).toNat ((r.map V.int).length + 1 + 1 + 1) = 3 := Nat.min_eq_left (by show 3 ≤ _; omega)
  have h2 : min (1 : Int).toNat ((r.map V.int).length + 1 + 1 + 1) = 1 := Nat.min_eq_left (by show 1 ≤ _; omega)
  rw [h1, h2]
  rfl
theorem mid_row {K : PySem.W.Frag} {H : Hp} {x : Addr} {q a b : Int} {r : List Int} {Q : VK} (h : H x = some (.tup ((q :: a :: b :: r).map V.int))) (k : ∀ p, H p = none → Q (.ref p) (upd H p (.tup ([a, b].map V.int)))) : rSlA K (.ref x) (some 1) (some 3) H Q := by
  refine ⟨x, _, rfl, tup_of h, fun e => ?_, fun _ p np => ?_⟩
  · exfalso
    have e := e.1
    unfold HT.sIx at e
    simp only [List.map_cons, List.length_cons] at e
    rw [if_neg (by decide)] at e
    have h2 : min (1 : Int).toNat ((r.map V.int).length + 1 + 1 + 1) = 1 := Nat.min_eq_left (by show 1 ≤ _; omega)
    rw [h2] at e
    cases e
  · rw [cut_13]
    exact k p np
/-! the promises -/
def spLed (K : PySem.W.Frag) (C CN : Addr) : Sp := fun vs H Q E => ∃ (x : Addr) (rows : List (List Int)) (e o z : Int), vs = [.ref x, .int z] ∧ WebAt C H x rows e o ∧ GoodW rows e o ∧ Bd z ∧
  ((-e ≤ z ∧ z < rows.length) → ∀ (H' : Hp) (D : Addr) (l : List Int), Same H H' → H' D = some (.lst (l.map V.int)) → (∀ j, j ∈ l ↔ Led rows z j) → l.Nodup → Q (.ref D) H') ∧
  (¬ (-e ≤ z ∧ z < rows.length) → ∀ d H', H d = none → Same H H' → H' d = some (.xd [("place", .int z)]) → E (.ref CN) (some d) H')
/-- the questions asked from z -/
def IsAsked (rows : List (List Int)) (z : Int) (l : List Int) : Prop := ∀ k, k ∈ l ↔ ∃ (j : Nat) (r : List Int), Led rows z j ∧ rows[j]? = some (k :: r)
def IsReach (rows : List (List Int)) (z : Int) (l : List Int) : Prop := ∀ k, k ∈ l ↔ (0 ≤ k ∧ Led rows z (-1 - k))
def IsReached (rows : List (List Int)) (z : Int) (l : List Int) : Prop := ∀ k, k ∈ l ↔ (0 ≤ k ∧ Led rows z k)
def spAsked (K : PySem.W.Frag) (C CN : Addr) : Sp := fun vs H Q E => ∃ (x : Addr) (rows : List (List Int)) (e o z : Int), vs = [.ref x, .int z] ∧ WebAt C H x rows e o ∧ GoodW rows e o ∧ rows.length ≤ 40 ∧ Bd z ∧
  ((-e ≤ z ∧ z < rows.length) → ∀ (H' : Hp) (t : Addr) (l : List Int), Same H H' → H' t = some (.tup ((norm l).map V.int)) → IsAsked rows z l → Q (.ref t) H') ∧
  (¬ (-e ≤ z ∧ z < rows.length) → ∀ d H', H d = none → Same H H' → H' d = some (.xd [("place", .int z)]) → E (.ref CN) (some d) H')
def spReach (K : PySem.W.Frag) (C CN : Addr) : Sp := fun vs H Q E => ∃ (x : Addr) (rows : List (List Int)) (e o z : Int), vs = [.ref x, .int z] ∧ WebAt C H x rows e o ∧ GoodW rows e o ∧ e ≤ 40 ∧ Bd z ∧
  ((-e ≤ z ∧ z < rows.length) → ∀ (H' : Hp) (t : Addr) (l : List Int), Same H H' → H' t = some (.tup ((norm l).map V.int)) → IsReach rows z l → Q (.ref t) H') ∧
  (¬ (-e ≤ z ∧ z < rows.length) → ∀ d H', H d = none → Same H H' → H' d = some (.xd [("place", .int z)]) → E (.ref CN) (some d) H')
def spReached (C : Addr) : Sp := fun vs H Q _ => ∃ (x : Addr) (rows : List (List Int)) (e o : Int), vs = [.ref x] ∧ WebAt C H x rows e o ∧ GoodW rows e o ∧ rows.length ≤ 40 ∧
  ∀ (H' : Hp) (t : Addr) (l : List Int), Same H H' → H' t = some (.tup ((norm l).map V.int)) → IsReached rows o l → Q (.ref t) H'
def lenD : Option HO → Nat
  | some (.dK kvs) => kvs.length
  | _ => 0
def lenL : Option HO → Nat
  | some (.lst xs) => xs.length
  | _ => 0
end L2

namespace L2
open PySem PySem.Spec PyProof.Rows
/-! ## what can be asked from a position, as bits -/
theorem Led.into {rows : List (List Int)} {i t q a b : Int} {r : List Int} (i0 : 0 ≤ i) (h : rows[i.toNat]? = some (q :: a :: b :: r)) (ht : t = a ∨ t = b) {j : Int} (hj : Led rows t j) : Led rows i j := by
  induction hj with
  | refl => exact .step .refl i0 h ht
  | step _ h1 h2 h3 ih => exact .step ih h1 h2 h3
theorem Led.cases1 {rows : List (List Int)} {i j : Int} (h : Led rows i j) : j = i ∨ ∃ q a b r, 0 ≤ i ∧ rows[i.toNat]? = some (q :: a :: b :: r) ∧ (Led rows a j ∨ Led rows b j) := by
  induction h with
  | refl => exact .inl rfl
  | step h1 h2 h3 h4 ih =>
    rcases ih with rfl | ⟨q, a, b, r, i0, hr, h⟩
    · refine .inr ⟨_, _, _, _, h2, h3, ?_⟩
      rcases h4 with rfl | rfl
      · exact .inl .refl
      · exact .inr .refl
    · exact .inr ⟨q, a, b, r, i0, hr, h.imp (fun z => .step z h2 h3 h4) fun z => .step z h2 h3 h4⟩
def AskP (rows : List (List Int)) (z t : Int) : Prop := ∃ (i : Nat) (r : List Int), Led rows z (i : Int) ∧ rows[i]? = some (t :: r)
def AskMs (rows : List (List Int)) (e : Int) (ms : List Nat) : Prop := ms.length = rows.length + e.toNat ∧ ∀ (j m : Nat), ms[j]? = some m → ∀ z : Nat, m.testBit z = true ↔ AskP rows (j : Int) (z : Int)
theorem AskP.none {rows : List (List Int)} {z t : Int} (h : z < 0 ∨ rows.length ≤ z) : ¬ AskP rows z t := by
  rintro ⟨i, r, hl, hr⟩
  rcases hl.cases1 with e | ⟨q, a, b, r', z0, hz, _⟩
  · have := (List.getElem?_eq_some_iff.mp hr).1
    omega
  · have := (List.getElem?_eq_some_iff.mp hz).1
    omega
theorem AskP.node {rows : List (List Int)} {j : Nat} {q a b t : Int} {r : List Int} (hj : rows[j]? = some (q :: a :: b :: r)) : AskP rows (j : Int) t ↔ t = q ∨ AskP rows a t ∨ AskP rows b t := by
  have hj' : rows[((j : Nat) : Int).toNat]? = some (q :: a :: b :: r) := by rw [Int.toNat_natCast]; exact hj
  constructor
  · rintro ⟨i, r', hl, hr⟩
    rcases hl.cases1 with e | ⟨q', a', b', r2, _, hz, h⟩
    · have e : i = j := by omega
      subst e
      rw [hj] at hr
      simp only [Option.some.injEq, List.cons.injEq] at hr
      exact .inl hr.1.symm
    · rw [hj'] at hz
      simp only [Option.some.injEq, List.cons.injEq] at hz
      obtain ⟨rfl, rfl, rfl, rfl⟩ := hz
      exact .inr (h.imp (fun z => ⟨i, r', z, hr⟩) fun z => ⟨i, r', z, hr⟩)
  · rintro (rfl | ⟨i, r', hl, hr⟩ | ⟨i, r', hl, hr⟩)
    · exact ⟨j, _, .refl, hj⟩
    · exact ⟨i, r', Led.into (Int.natCast_nonneg _) hj' (.inl rfl) hl, hr⟩
    · exact ⟨i, r', Led.into (Int.natCast_nonneg _) hj' (.inr rfl) hl, hr⟩
/-- the mask at a target -/
theorem mask_at {rows : List (List Int)} {e : Nat} {ms : List Nat} {j : Nat} {t : Int} (hl : ms.length = rows.length + e) (hm : ∀ (u m : Nat), j ≤ u → ms[u]? = some m → ∀ z : Nat, m.testBit z = true ↔ AskP rows (u : Int) (z : Int)) (hj : j ≤ rows.length)
    (t0 : -(e : Int) ≤ t) (t1 : t < rows.length) (t2 : 0 ≤ t → (j : Int) ≤ t) : ∃ m : Nat, atI (ms.map natV) t = some (V.int (m : Int)) ∧ ∀ z : Nat, m.testBit z = true ↔ AskP rows t (z : Int) := by
  by_cases h : 0 ≤ t
  · obtain ⟨u, rfl⟩ : ∃ u : Nat, t = (u : Int) := ⟨t.toNat, by omega⟩
    have hu : u < ms.length := by omega
    have hmu : ms[u]? = some ms[u] := List.getElem?_eq_getElem hu
    exact ⟨ms[u], atI_nat (get_natV hmu), hm u _ (by have := t2 h; omega) hmu⟩
  · have hu : (t + ms.length).toNat < ms.length := by omega
    have hmu : ms[(t + ms.length).toNat]? = some ms[(t + ms.length).toNat] := List.getElem?_eq_getElem hu
    refine ⟨ms[(t + ms.length).toNat], ?_, fun z => (hm _ _ (by omega) hmu z).trans ⟨fun h => absurd h (AskP.none (.inr (by omega))), fun h' => absurd h' (AskP.none (.inl (by omega)))⟩⟩
    unfold atI ixN
    rw [List.length_map, if_neg h, if_pos (by omega)]
    show (ms.map natV)[(t + (ms.length : Int)).toNat]? = _
    exact get_natV hmu
def spAsk (C : Addr) : Sp := fun vs H Q _ => ∃ (x : Addr) (rows : List (List Int)) (e o : Int), vs = [.ref x] ∧ WebAt C H x rows e o ∧ GoodW rows e o ∧
  ∀ (H' : Hp) (D : Addr) (ms : List Nat), Same H H' → H D = none → H' D = some (.lst (ms.map natV)) → AskMs rows e ms → Q (.ref D) H'
/-! [:3] of a row -/
theorem cut_03 (q a b : Int) (r : List Int) : cutV ((q :: a :: b :: r).map V.int) none (some 3) = [q, a, b].map V.int := by
  unfold cutV HT.sIx
  simp only [List.map_cons, List.length_cons]
  rw [if_neg (by decide)]
  have h1 : min (3 : Int).toNat ((r.map V.int).length + 1 + 1 + 1) = 3 := Nat.min_eq_left (by show 3 ≤ _; omega)
  rw [h1]
  rfl
theorem first3 {K : PySem.W.Frag} {H : Hp} {x : Addr} {q a b : Int} {r : List Int} {Q : VK} (h : H x = some (.tup ((q :: a :: b :: r).map V.int))) (k : ∀ p H', Same H H' → H' p = some (.tup ([q, a, b].map V.int)) → Q (.ref p) H') : rSlA K (.ref x) none (some 3) H Q := by
  refine ⟨x, _, rfl, tup_of h, fun e => ?_, fun _ p np => ?_⟩
  · have e := e.2
    unfold HT.sIx at e
    simp only [List.map_cons, List.length_cons] at e
    rw [if_neg (by decide)] at e
    have h1 : min (3 : Int).toNat ((r.map V.int).length + 1 + 1 + 1) = 3 := Nat.min_eq_left (by show 3 ≤ _; omega)
    rw [h1, List.length_map] at e
    have hr : r = [] := List.length_eq_zero_iff.mp (by omega)
    subst hr
    exact k x H (Same.refl _) h
  · rw [cut_03]
    exact k p _ (same_upd np) upd_same
/-! ## a list or a tuple that is walked -/
def LtAt (H : Hp) (p : Addr) (xs : List V) : Prop := H p = some (.lst xs) ∨ H p = some (.tup xs)
theorem LtAt.same {H H' : Hp} {p : Addr} {xs : List V} (s : Same H H') (h : LtAt H p xs) : LtAt H' p xs := h.imp (s _ _) (s _ _)
theorem iSeq_of {K : PySem.W.Frag} {tl : TE} {σ : St} {H : Hp} {R : It → Hp → Prop} {p : Addr} {xs : List V} (h : LtAt H p xs) (ht : ∀ Q : VK, Q (.ref p) H → tl σ H Q)
    (k : ∀ J : It, (∀ i H', i < xs.length → H' p = H p → J.go i H') → (∀ H', H' p = H p → J.stop xs.length H') → (∀ i H' x H2, H' p = H p → J.yld i H' x H2 → H2 = H' ∧ xs[i]? = some x) → R J H) : iList K tl σ H R ∨ iTup K tl σ H R := by
  rcases h with h | h
  · exact .inl (ht _ ⟨p, rfl, ⟨_, lst_of h⟩, k _ (fun i H' hi e => ⟨xs, xs[i], lst_of (e.trans h), by simp [hi]⟩) (fun H' e => ⟨xs, lst_of (e.trans h), Nat.le_refl _⟩) (fun i H' x H2 e y => ⟨y.1, y.2 xs (lst_of (e.trans h))⟩)⟩)
  · exact .inr (ht _ ⟨p, rfl, ⟨_, tup_of h⟩, k _ (fun i H' hi e => ⟨xs, xs[i], tup_of (e.trans h), by simp [hi]⟩) (fun H' e => ⟨xs, tup_of (e.trans h), Nat.le_refl _⟩) (fun i H' x H2 e y => ⟨y.1, y.2 xs (tup_of (e.trans h))⟩)⟩)
/-! ## Joint -/
/-- all but x stands -/
def Kx (x : Addr) (H H' : Hp) : Prop := ∀ b u, b ≠ x → H b = some u → H' b = some u
theorem Same.kx {x : Addr} {H H' : Hp} (s : Same H H') : Kx x H H' := fun b u _ h => s b u h
theorem Kx.trans {x : Addr} {H H1 H2 : Hp} (a : Kx x H H1) (b : Kx x H1 H2) : Kx x H H2 := fun c u n h => b c u n (a c u n h)
theorem Kx.put {x : Addr} {o : HO} {H H' : Hp} (a : Kx x H H') : Kx x H (upd H' x o) := fun c u n h => by rw [upd_ne n]; exact a c u n h
theorem Kx.then {x : Addr} {H H1 H2 : Hp} (a : Kx x H H1) (b : Same H1 H2) : Kx x H H2 := a.trans b.kx
theorem ne_ins {H : Hp} {x b C dx : Addr} {fs : List (Str × V)} {zs : List V} (hx : H x = some (.ins C dx fs)) (hb : H b = some (.tup zs)) : b ≠ x := ne_of hb hx (by intro z; cases z)
theorem ne_insL {H : Hp} {x b C dx : Addr} {fs : List (Str × V)} {zs : List V} (hx : H x = some (.ins C dx fs)) (hb : H b = some (.lst zs)) : b ≠ x := ne_of hb hx (by intro z; cases z)
theorem RowsAt.kx {x CJ dx : Addr} {fs : List (Str × V)} {H H' : Hp} {as : List Addr} {rows : List (List Int)} (hx : H x = some (.ins CJ dx fs)) (s : Kx x H H') (h : RowsAt H as rows) : RowsAt H' as rows :=
  ⟨h.1, fun i a row h1 h2 => s _ _ (ne_ins hx (h.2 i a row h1 h2)) (h.2 i a row h1 h2)⟩
theorem WebAt.kx {C x y CJ dx : Addr} {fs : List (Str × V)} {H H' : Hp} {rows : List (List Int)} {e o : Int} (hx : H x = some (.ins CJ dx fs)) (hf : fs.lookup ("nodes" : Str) = none) (s : Kx x H H') (h : WebAt C H y rows e o) : WebAt C H' y rows e o := by
  obtain ⟨dy, nt, as, h1, h2, h3⟩ := h
  refine ⟨dy, nt, as, s _ _ (fun z => ?_) h1, s _ _ (ne_ins hx h2) h2, h3.kx hx s⟩
  subst z
  rw [hx] at h1
  cases h1
  cases hf
theorem WebsAt.kx {C x CJ dx : Addr} {fs : List (Str × V)} {H H' : Hp} {as : List Addr} {ws : List JW} (hx : H x = some (.ins CJ dx fs)) (hf : fs.lookup ("nodes" : Str) = none) (s : Kx x H H') (h : WebsAt C H as ws) : WebsAt C H' as ws :=
  ⟨h.1, fun i y w h1 h2 => (h.2 i y w h1 h2).kx hx hf s⟩
def AskL (H : Hp) (ks : List Addr) (ws : List JW) : Prop := ks.length = ws.length ∧ ∀ (i : Nat) k w, ks[i]? = some k → ws[i]? = some w → ∃ ms : List Nat, H k = some (.lst (ms.map natV)) ∧ AskMs w.1 w.2.1 ms
def JtAt (CJ C : Addr) (H : Hp) (x : Addr) (ws : List JW) (sts : List (List Int)) (rel : Str) (wv : V) : Prop := ∃ (dx wt st ak : Addr) (as ss ks : List Addr), H x = some (.ins CJ dx [("webs", .ref wt), ("starts", .ref st), ("relation", .str rel), ("_askable", .ref ak), ("_ways", wv)]) ∧
  H wt = some (.tup (as.map V.ref)) ∧ WebsAt C H as ws ∧ H st = some (.tup (ss.map V.ref)) ∧ RowsAt H ss sts ∧ H ak = some (.lst (ks.map V.ref)) ∧ AskL H ks ws
theorem JtAt.same {CJ C : Addr} {H H' : Hp} {x : Addr} {ws : List JW} {sts : List (List Int)} {rel : Str} {wv : V} (s : Same H H') (h : JtAt CJ C H x ws sts rel wv) : JtAt CJ C H' x ws sts rel wv := by
  obtain ⟨dx, wt, st, ak, as, ss, ks, h1, h2, h3, h4, h5, h6, h7⟩ := h
  exact ⟨dx, wt, st, ak, as, ss, ks, s _ _ h1, s _ _ h2, h3.same s, s _ _ h4, h5.same s, s _ _ h6, h7.1, fun i k w e1 e2 => let ⟨ms, m1, m2⟩ := h7.2 i k w e1 e2; ⟨ms, s _ _ m1, m2⟩⟩
/-- its own lists are among N -/
def JtAtN (N : Addr → Prop) (CJ C : Addr) (H : Hp) (x : Addr) (ws : List JW) (sts : List (List Int)) (rel : Str) (wv : V) : Prop := ∃ (dx wt st ak : Addr) (as ss ks : List Addr), H x = some (.ins CJ dx [("webs", .ref wt), ("starts", .ref st), ("relation", .str rel), ("_askable", .ref ak), ("_ways", wv)]) ∧
  H wt = some (.tup (as.map V.ref)) ∧ WebsAt C H as ws ∧ H st = some (.tup (ss.map V.ref)) ∧ RowsAt H ss sts ∧ H ak = some (.lst (ks.map V.ref)) ∧ AskL H ks ws ∧ N ak ∧ ∀ k ∈ ks, N k
theorem JtAtN.jt {N : Addr → Prop} {CJ C : Addr} {H : Hp} {x : Addr} {ws : List JW} {sts : List (List Int)} {rel : Str} {wv : V} (h : JtAtN N CJ C H x ws sts rel wv) : JtAt CJ C H x ws sts rel wv := by
  obtain ⟨dx, wt, st, ak, as, ss, ks, h1, h2, h3, h4, h5, h6, h7, _⟩ := h
  exact ⟨dx, wt, st, ak, as, ss, ks, h1, h2, h3, h4, h5, h6, h7⟩
theorem JtAtN.mono {N N' : Addr → Prop} {CJ C : Addr} {H : Hp} {x : Addr} {ws : List JW} {sts : List (List Int)} {rel : Str} {wv : V} (h : JtAtN N CJ C H x ws sts rel wv) (hn : ∀ b, N b → N' b) : JtAtN N' CJ C H x ws sts rel wv := by
  obtain ⟨dx, wt, st, ak, as, ss, ks, h1, h2, h3, h4, h5, h6, h7, h8, h9⟩ := h
  exact ⟨dx, wt, st, ak, as, ss, ks, h1, h2, h3, h4, h5, h6, h7, hn _ h8, fun k hk => hn _ (h9 k hk)⟩
/-- starts as they are passed: each a list or a tuple -/
def RowsIn (H : Hp) (as : List Addr) (rows : List (List Int)) : Prop := as.length = rows.length ∧ ∀ (i : Nat) a row, as[i]? = some a → rows[i]? = some row → RowIn H a row
theorem RowsAt.in {H : Hp} {as : List Addr} {rows : List (List Int)} (h : RowsAt H as rows) : RowsIn H as rows := ⟨h.1, fun i a row h1 h2 => .inl (h.2 i a row h1 h2)⟩
def spJoint (CJ C C1 C2 C3 : Addr) : Sp := fun vs H Q E => ∃ (x dx wl sl : Addr) (as ss : List Addr) (ws : List JW) (sts : List (List Int)) (rel : Str), vs = [.ref x, .ref wl, .ref sl, .str rel] ∧ H x = some (.ins CJ dx []) ∧
  LtAt H wl (as.map V.ref) ∧ WebsAt C H as ws ∧ (∀ w ∈ ws, GoodW w.1 w.2.1 w.2.2) ∧ LtAt H sl (ss.map V.ref) ∧ RowsIn H ss sts ∧ ws.length ≤ 60 ∧ sts.length ≤ 60 ∧ rel.length ≤ 60 ∧
  (jDue ws rel sts = none → ∀ H', JtAtN (fun b => H b = none) CJ C H' x ws sts rel .non → Kx x H H' → Q .non H') ∧ ∀ j, jDue ws rel sts = some j → ∀ cls d H', Kx x H H' → j.At C1 C2 C3 H' cls d → E cls d H'
theorem putJ1 {v : V} : putF ("webs" : Str) v [] = [(("webs" : Str), v)] := by rfl
theorem putJ2 {u v : V} : putF ("starts" : Str) v [(("webs" : Str), u)] = [(("webs" : Str), u), (("starts" : Str), v)] := by rfl
theorem putJ3 {u v z : V} : putF ("relation" : Str) z [(("webs" : Str), u), (("starts" : Str), v)] = [(("webs" : Str), u), (("starts" : Str), v), (("relation" : Str), z)] := by rfl
theorem putJ4 {u v z y : V} : putF ("_askable" : Str) y [(("webs" : Str), u), (("starts" : Str), v), (("relation" : Str), z)] = [(("webs" : Str), u), (("starts" : Str), v), (("relation" : Str), z), (("_askable" : Str), y)] := by rfl
theorem putJ5 {u v z y x : V} : putF ("_ways" : Str) x [(("webs" : Str), u), (("starts" : Str), v), (("relation" : Str), z), (("_askable" : Str), y)] = [(("webs" : Str), u), (("starts" : Str), v), (("relation" : Str), z), (("_askable" : Str), y), (("_ways" : Str), x)] := by rfl
end L2
namespace L2
open PySem PySem.Spec PyProof.Rows
/-! ## drawn webs as pairs of a list and a number; starts as lists -/
def RowsL (H : Hp) (as : List Addr) (rows : List (List Int)) : Prop := as.length = rows.length ∧ ∀ (i : Nat) a row, as[i]? = some a → rows[i]? = some row → H a = some (.lst (row.map V.int))
def WpAt (H : Hp) (p : Addr) (w : JW) : Prop := ∃ (D : Addr) (as : List Addr), H p = some (.tup [.ref D, .int w.2.1]) ∧ H D = some (.lst (as.map V.ref)) ∧ RowsAt H as w.1
def WpsAt (H : Hp) (ps : List Addr) (ws : List JW) : Prop := ps.length = ws.length ∧ ∀ (i : Nat) p w, ps[i]? = some p → ws[i]? = some w → WpAt H p w
theorem RowsL.same {H H' : Hp} {as : List Addr} {rows : List (List Int)} (s : Same H H') (h : RowsL H as rows) : RowsL H' as rows := ⟨h.1, fun i a row h1 h2 => s _ _ (h.2 i a row h1 h2)⟩
theorem WpAt.same {H H' : Hp} {p : Addr} {w : JW} (s : Same H H') (h : WpAt H p w) : WpAt H' p w := let ⟨D, as, h1, h2, h3⟩ := h; ⟨D, as, s _ _ h1, s _ _ h2, h3.same s⟩
theorem WpsAt.same {H H' : Hp} {ps : List Addr} {ws : List JW} (s : Same H H') (h : WpsAt H ps ws) : WpsAt H' ps ws := ⟨h.1, fun i p w h1 h2 => (h.2 i p w h1 h2).same s⟩
def spDueJ : Sp := fun vs H Q _ => ∃ (wl sl : Addr) (ps ss : List Addr) (ws : List JW) (sts : List (List Int)) (rel : Str), vs = [.ref wl, .str rel, .ref sl] ∧ H wl = some (.lst (ps.map V.ref)) ∧ WpsAt H ps ws ∧ H sl = some (.lst (ss.map V.ref)) ∧ RowsL H ss sts ∧ ws.length ≤ 60 ∧ sts.length ≤ 60 ∧
  (jDue ws rel sts = none → ∀ H', Same H H' → Q .non H') ∧ ∀ j, jDue ws rel sts = some j → ∀ H' t, Same H H' → H' t = some (.tup j.row) → Q (.ref t) H'
theorem get_map_ref {xs : List Addr} {i : Nat} {v : V} (h : (xs.map V.ref)[i]? = some v) : ∃ b, xs[i]? = some b ∧ v = .ref b := by
  rw [List.getElem?_map] at h
  cases q : xs[i]? with
  | none => rw [q] at h; cases h
  | some b => rw [q] at h; exact ⟨b, rfl, (Option.some.inj h).symm⟩
theorem havePl_false {ws : List JW} {zs : List Int} {i : Nat} {w : JW} {z : Int} (hw : ws[i]? = some w) (hz : zs[i]? = some z) (h : plOk w z = false) : havePl ws zs = false := by
  unfold havePl
  have : ((List.zipWith plOk ws zs).all id) = false := by
    rw [List.all_eq_false]
    exact ⟨plOk w z, List.mem_of_getElem? (i := i) (by rw [List.getElem?_zipWith, hw, hz]), by rw [h]; decide⟩
  rw [this, Bool.and_false]
theorem havePl_true {ws : List JW} {zs : List Int} (hl : zs.length = ws.length) (h : ∀ (i : Nat) w z, ws[i]? = some w → zs[i]? = some z → plOk w z = true) : havePl ws zs = true := by
  unfold havePl
  rw [decide_eq_true hl, Bool.true_and, List.all_eq_true]
  intro b hb
  obtain ⟨i, hi⟩ := List.getElem?_of_mem hb
  rw [List.getElem?_zipWith] at hi
  cases hw : ws[i]? with
  | none => rw [hw] at hi; cases hi
  | some w =>
    cases hz : zs[i]? with
    | none => rw [hw, hz] at hi; cases hi
    | some z =>
      rw [hw, hz] at hi
      obtain rfl := Option.some.inj hi
      exact h i w z hw hz
theorem havePl_len {ws : List JW} {zs : List Int} (h : zs.length ≠ ws.length) : havePl ws zs = false := by
  unfold havePl
  rw [decide_eq_false h, Bool.false_and]
theorem jDue_pos {ws : List JW} {rel : Str} {sts : List (List Int)} (h0 : (1 : Int) ≤ ws.length ∧ (ws.length : Int) ≤ 3) (h1 : rel = "same" ∨ rel = "within") (h2 : rel = "within" → ws.length = 2) {i : Nat} {row : List Int} (hr : sts[i]? = some row) (hf : havePl ws row = false) (hb : ∀ (j : Nat) s, j < i → sts[j]? = some s → havePl ws s = true) :
    jDue ws rel sts = some (.pos i) := by
  unfold jDue
  rw [if_neg (fun q => q h0), if_neg (fun q => q h1), if_neg (fun q => q.2 (h2 q.1))]
  obtain ⟨hi, he⟩ := List.getElem?_eq_some_iff.mp hr
  rw [List.findIdx?_eq_some_iff_getElem.mpr ⟨hi, by rw [he, hf]; rfl, fun j hj => by rw [hb j _ hj (List.getElem?_eq_getElem (by omega))]; decide⟩]
  rfl
theorem jDue_none {ws : List JW} {rel : Str} {sts : List (List Int)} (h0 : (1 : Int) ≤ ws.length ∧ (ws.length : Int) ≤ 3) (h1 : rel = "same" ∨ rel = "within") (h2 : rel = "within" → ws.length = 2) (hb : ∀ (j : Nat) s, sts[j]? = some s → havePl ws s = true) : jDue ws rel sts = none := by
  unfold jDue
  rw [if_neg (fun q => q h0), if_neg (fun q => q h1), if_neg (fun q => q.2 (h2 q.1))]
  rw [List.findIdx?_eq_none_iff.mpr fun s hs => by
    obtain ⟨j, hj⟩ := List.getElem?_of_mem hs
    rw [hb j s hj]
    rfl]
  rfl
theorem jDue_none_iff {ws : List JW} {rel : Str} {sts : List (List Int)} (h : jDue ws rel sts = none) : ((1 : Int) ≤ ws.length ∧ (ws.length : Int) ≤ 3) ∧ (rel = "same" ∨ rel = "within") ∧ (rel = "within" → ws.length = 2) ∧ ∀ (j : Nat) s, sts[j]? = some s → havePl ws s = true := by
  unfold jDue at h
  by_cases h0 : (1 : Int) ≤ ws.length ∧ (ws.length : Int) ≤ 3
  · rw [if_neg (fun q => q h0)] at h
    by_cases h1 : rel = "same" ∨ rel = "within"
    · rw [if_neg (fun q => q h1)] at h
      by_cases h2 : rel = "within" ∧ ws.length ≠ 2
      · rw [if_pos h2] at h; cases h
      · rw [if_neg h2] at h
        refine ⟨h0, h1, fun z => Decidable.byContradiction fun q => h2 ⟨z, q⟩, fun j s hj => ?_⟩
        cases hf : sts.findIdx? (fun s => !havePl ws s) with
        | some i => rw [hf] at h; cases h
        | none =>
          have := List.findIdx?_eq_none_iff.mp hf s (List.mem_of_getElem? hj)
          simpa using this
    · rw [if_pos h1] at h; cases h
  · rw [if_pos h0] at h; cases h
theorem in_rel {rel : Str} : inV (.str rel) [.str "same", .str "within"] = decide (rel = "same" ∨ rel = "within") := by
  by_cases h : rel = "same" ∨ rel = "within"
  · rw [decide_eq_true h]
    rcases h with rfl | rfl <;> decide +kernel
  · rw [decide_eq_false h]
    cases q : inV (.str rel) [.str "same", .str "within"] with
    | false => rfl
    | true =>
      simp only [inV, List.any_cons, List.any_nil, Bool.or_false, Bool.or_eq_true] at q
      exact absurd (q.imp (fun z => (of_decide_eq_true z).symm) (fun z => (of_decide_eq_true z).symm)) (by
        intro z
        exact h z)
end L2

namespace L2
open PySem PySem.Spec PyProof.Rows Gg
/-! ## what is raised meets every handler's wish, whatever the slots hold -/
def EA (C : Addr) (n : Nat) (W : WX) : XK := fun cls d H => cls = .ref C ∧ ∀ σ : St, σ.length = n → W cls d σ H
theorem passA {X : Cx} {W : WX} {C : Addr} {n : Nat} (tk : Takes X W) (hn : X.N.length = n) : Passes (L2.CX X.prog X.w) X (EA C n W) := fun pins σ H s e s' I c => tk e s' (XE.of_call I (fun cls d H' h => h.2 σ (by rw [I.len, hn])) c)
theorem noStopA {K : PySem.W.Frag} {W : WX} {C : Addr} {n : Nat} (hs : PySem.W.subIn K (.ref C) (.type "StopIteration") = some false) : NoStop K (EA C n W) := fun cls d H h => by rw [h.1]; exact hs
/-! ## the law's own walk; marks -/
theorem in_norm {q : Int} {R : List Int} (h : 0 ≤ q ∧ q < 48) : q ∈ norm R ↔ q ∈ R := by
  rw [mem_norm]
  exact ⟨fun z => z.2, fun z => ⟨h, z⟩⟩
def spLW (K : PySem.W.Frag) : Sp := fun vs H Q _ => ∃ (q rr : Addr) (as : List Addr) (rows : List (List Int)) (R : List Int) (e o z : Int), vs = [.ref q, .int z, .ref rr] ∧ H q = some (.lst (as.map V.ref)) ∧ RowsAt H as rows ∧ GoodW rows e o ∧ H rr = some (.lst (R.map V.int)) ∧ -e ≤ z ∧ z < rows.length ∧
  ∀ H' t D, Same H H' → H' t = some (.tup [.ref D, .int (WN rows R z)]) → LsAt H' D (WK rows R z) → Q (.ref t) H'
def NoP (H : Hp) (t : Addr) (z : Int) : Prop := H t = some (.tup [.str "no position", .int z])
def spTWk (C CP : Addr) : Sp := fun vs H Q _ => ∃ (web pu : Addr) (rows : List (List Int)) (R : List Int) (e o z : Int), vs = [.ref web, .ref pu, .int z] ∧ WebAt C H web rows e o ∧ GoodW rows e o ∧ PupAt CP H pu R ∧ Bd z ∧
  ((-e ≤ z ∧ z < rows.length) → ∀ H' p, Same H H' → LsAt H' p (WK rows R z) → Q (.ref p) H') ∧
  (¬ (-e ≤ z ∧ z < rows.length) → ∀ H' p, Same H H' → NoP H' p z → Q (.ref p) H')
def spTEn (C CP : Addr) : Sp := fun vs H Q _ => ∃ (web pu : Addr) (rows : List (List Int)) (R : List Int) (e o z : Int), vs = [.ref web, .ref pu, .int z] ∧ WebAt C H web rows e o ∧ GoodW rows e o ∧ PupAt CP H pu R ∧ Bd z ∧
  ((-e ≤ z ∧ z < rows.length) → ∀ H', Same H H' → Q (.int (WN rows R z)) H') ∧
  (¬ (-e ≤ z ∧ z < rows.length) → ∀ H' p, Same H H' → NoP H' p z → Q (.ref p) H')
def spChk (C CB : Addr) : Sp := fun vs H Q E => ∃ (web mp : Addr) (rows : List (List Int)) (ms : List Int) (e o : Int), vs = [.ref web, .ref mp] ∧ WebAt C H web rows e o ∧ H mp = some (.lst (ms.map V.int)) ∧ ms.length ≤ 100 ∧
  ((ms.length : Int) = e → Q .non H) ∧
  ((ms.length : Int) ≠ e → ∀ d H', H d = none → Same H H' → H' d = some (.xd [("count", .int ms.length)]) → E (.ref CB) (some d) H')
def mkP (ms : List Int) (z : Int) : Int := (ms[z.toNat]?).getD 0
theorem at_mk {ms : List Int} {z : Int} (h0 : 0 ≤ z) (h1 : z < ms.length) : atI (ms.map V.int) z = some (.int (mkP ms z)) := by
  obtain ⟨j, rfl⟩ : ∃ j : Nat, z = (j : Int) := ⟨z.toNat, by omega⟩
  have hj : j < ms.length := by omega
  unfold mkP
  rw [Int.toNat_natCast, List.getElem?_eq_getElem hj]
  exact at_tup (by rw [List.getElem?_map, List.getElem?_eq_getElem hj]; rfl)
def spMark (C CP CB : Addr) : Sp := fun vs H Q E => ∃ (web mp pu : Addr) (rows : List (List Int)) (ms R : List Int) (e o : Int), vs = [.ref web, .ref mp, .ref pu] ∧ WebAt C H web rows e o ∧ GoodW rows e o ∧ PupAt CP H pu R ∧ H mp = some (.lst (ms.map V.int)) ∧ ms.length ≤ 100 ∧
  ((ms.length : Int) = e → ∀ H', Same H H' → Q (.int (mkP ms (WN rows R o))) H') ∧
  ((ms.length : Int) ≠ e → ∀ d H', H d = none → Same H H' → H' d = some (.xd [("count", .int ms.length)]) → E (.ref CB) (some d) H')
def spTMk (C CP : Addr) : Sp := fun vs H Q _ => ∃ (web mp pu : Addr) (rows : List (List Int)) (ms R : List Int) (e o : Int), vs = [.ref web, .ref mp, .ref pu] ∧ WebAt C H web rows e o ∧ GoodW rows e o ∧ PupAt CP H pu R ∧ H mp = some (.lst (ms.map V.int)) ∧ ms.length ≤ 100 ∧
  ((ms.length : Int) = e → ∀ H' t, Same H H' → H' t = some (.tup [.str "mark", .int (mkP ms (WN rows R o))]) → Q (.ref t) H') ∧
  ((ms.length : Int) ≠ e → ∀ H' t, Same H H' → H' t = some (.tup [.str "bad marks", .int ms.length]) → Q (.ref t) H')
def spLMarks (K : PySem.W.Frag) : Sp := fun vs H Q _ => ∃ (p : Addr) (c : Nat) (e : Int), vs = [.ref p, .int e] ∧ PoolOk K p c H ∧ c + 200 < LIM ∧ 1 ≤ e ∧ e ≤ 60 ∧
  ∀ H' D (ms : List Int), H D = none → Gd H H' → PoolOk K p (c + 100) H' → H' D = some (.lst (ms.map V.int)) → (ms.length : Int) = e → Q (.ref D) H'
theorem neD_int {K : PySem.W.Frag} {H : Hp} {i j : Int} {Q : VK} (q : Q (.bl (!decide (i = j))) H) : rNeD K (.int i) (.int j) H Q :=
  ⟨_, _, .int _, .int _, rfl, rfl, by
    have : PyData.eqv (.int i) (.int j) = decide (i = j) := by
      unfold PyData.eqv
      by_cases h : i = j <;> simp [h]
    rw [this]
    exact q⟩
end L2

namespace L2
open PySem PySem.Spec PyProof.Rows Gg
/-! ## what some pupil meets -/
def VisW (rows : List (List Int)) (R : List Int) (z t : Int) : Prop := (0 ≤ t ∧ itP rows R t ∈ WK rows R z) ∨ (t < 0 ∧ WN rows R z = -1 - t)
theorem itP_inj {rows : List (List Int)} {R : List Int} {p p' : Int} (h : itP rows R p = itP rows R p') : p = p' := by
  unfold itP at h
  simp only [List.cons.injEq] at h
  exact h.1
theorem rowP_get {rows : List (List Int)} {p : Int} {row : List Int} (h : rows[p.toNat]? = some row) : rowP rows p = row := by
  unfold rowP
  rw [h] <;> rfl
theorem vis_led {rows : List (List Int)} {R : List Int} {e o : Int} (G : GoodW rows e o) : ∀ (k : Nat) (z t : Int), -e ≤ z → z < rows.length → (0 ≤ z → (rows.length : Int) - z ≤ k) → VisW rows R z t → Led rows z t
  | k, z, t, z0, z1, hk, h => by
    by_cases hz : z < 0
    · rcases h with ⟨h1, h2⟩ | ⟨h1, h2⟩
      · rw [WK_neg hz] at h2
        cases h2
      · rw [WN_neg hz] at h2
        have : t = z := by omega
        subst this
        exact .refl
    · have p0 : 0 ≤ z := by omega
      cases k with
      | zero => have := hk p0; omega
      | succ k =>
        obtain ⟨c1, c2⟩ := WK_cons (R := R) G p0 z1
        obtain ⟨n1, n2, n3⟩ := nxP_ok (R := R) G p0 z1
        obtain ⟨q, t1, t2, r, hrow, hrw, _, _, b1, b2⟩ := row3 G p0 z1
        have hm : nxP rows R z = t1 ∨ nxP rows R z = t2 := by
          unfold nxP tRow
          rw [hrow]
          split
          · exact .inl rfl
          · exact .inr rfl
        have first : Led rows z (nxP rows R z) := .step .refl p0 (by rw [hrw, hrow]) hm
        have tr : ∀ {u : Int}, Led rows (nxP rows R z) u → Led rows z u := fun hu => by
          induction hu with
          | refl => exact first
          | step _ h1 h2 h3 ih => exact .step ih h1 h2 h3
        have rest : VisW rows R (nxP rows R z) t → Led rows z t := fun hv => tr (vis_led G k _ t n1 n2 (fun h => by omega) hv)
        rcases h with ⟨h1, h2⟩ | ⟨h1, h2⟩
        · rw [c1] at h2
          rcases List.mem_cons.mp h2 with h2 | h2
          · rw [itP_inj h2]
            exact .refl
          · exact rest (.inl ⟨h1, h2⟩)
        · rw [c2] at h2
          exact rest (.inr ⟨h1, h2⟩)
theorem vis_some {rows : List (List Int)} {e o z : Int} (G : GoodW rows e o) (z0 : -e ≤ z) (z1 : z < rows.length) {t : Int} (h : Led rows z t) : ∃ R, VisW rows R z t := by
  induction h with
  | refl =>
    refine ⟨[], ?_⟩
    by_cases hz : z < 0
    · exact .inr ⟨hz, by rw [WN_neg hz]⟩
    · have p0 : 0 ≤ z := by omega
      exact .inl ⟨p0, by rw [(WK_cons (R := []) G p0 z1).1]; exact List.mem_cons_self⟩
  | @step j t q a b r hj j0 hr ht ih =>
    obtain ⟨R, hv⟩ := ih
    obtain ⟨_, j1⟩ := hj.bounds G z0 z1
    rcases hv with ⟨_, hv⟩ | ⟨h, _⟩
    · obtain ⟨k, hk⟩ := List.getElem?_of_mem hv
      have hrow : rowP rows j = q :: a :: b :: r := rowP_get hr
      have hqj : qP rows j = q := by unfold qP; rw [hrow] <;> rfl
      obtain ⟨q', t1, t2, r', hrow', _, q0, q1, _⟩ := row3 G j0 j1
      have q01 : 0 ≤ q ∧ q < 48 := by
        rw [hrow] at hrow'
        simp only [List.cons.injEq] at hrow'
        rw [hrow'.1]
        exact ⟨q0, q1⟩
      have fin : ∀ S : List Int, (∀ u, u ≠ q → (u ∈ norm R ↔ u ∈ norm S)) → nxP rows S j = t → VisW rows S z t := fun S hS hn => by
        obtain ⟨p', p0, p1, hp, hall⟩ := WK_turn (S := S) G z0 z1 hk
        have ep := itP_inj hp
        subst ep
        rw [hqj] at hall
        obtain ⟨_, h2, h3⟩ := hall hS
        obtain ⟨c1, c2⟩ := WK_cons (R := S) G j0 j1
        rw [hn] at c1 c2
        obtain ⟨n1, n2, _⟩ := nxP_ok (R := S) G j0 j1
        rw [hn] at n1 n2
        by_cases t0 : 0 ≤ t
        · refine .inl ⟨t0, ?_⟩
          have : itP rows S t ∈ (WK rows S z).drop k := by
            rw [h2, c1, (WK_cons (R := S) G t0 n2).1]
            exact List.mem_cons_of_mem _ List.mem_cons_self
          exact List.mem_of_mem_drop this
        · exact .inr ⟨by omega, by rw [h3, c2, WN_neg (by omega)]⟩
      rcases ht with rfl | rfl
      · refine ⟨R ++ [q], fin _ (fun u hu => ?_) ?_⟩
        · rw [add_norm q01]
          exact ⟨.inl, fun h => h.elim id fun h => absurd h hu⟩
        · unfold nxP tRow aP
          rw [hrow, hqj, if_pos ((add_norm q01).mpr (.inr rfl)), if_pos rfl]
          rfl
      · refine ⟨fSub R [q], fin _ (fun u hu => ?_) ?_⟩
        · rw [sub_norm]
          exact ⟨fun h => ⟨h, hu⟩, fun h => h.1⟩
        · unfold nxP tRow aP
          rw [hrow, hqj, if_neg fun h => (sub_norm.mp h).2 rfl, if_neg (by decide)]
          rfl
    · omega
/-! ## all pupils over some questions -/
def subsW (l : List Int) : List (List Int) := l.foldl (fun acc x => acc ++ acc.map (· ++ [x])) [[]]
theorem subsW_snoc (l : List Int) (x : Int) : subsW (l ++ [x]) = subsW l ++ (subsW l).map (· ++ [x]) := by
  unfold subsW
  rw [List.foldl_append]
  rfl
theorem subsW_len : ∀ n (l : List Int), l.length = n → (subsW l).length = 2 ^ n
  | 0, l, h => by
    rw [List.length_eq_zero_iff] at h
    subst h
    rfl
  | n + 1, l, h => by
    obtain ⟨m, x, rfl⟩ : ∃ m x, l = m ++ [x] := ⟨l.dropLast, l.getLast (by intro z; rw [z] at h; cases h), (List.dropLast_concat_getLast _).symm⟩
    rw [List.length_append, List.length_singleton] at h
    rw [subsW_snoc, List.length_append, List.length_map, subsW_len n m (by omega), Nat.pow_succ]
    omega
theorem subsW_mem : ∀ n (l : List Int), l.length = n → ∀ S ∈ subsW l, (∀ z ∈ S, z ∈ l) ∧ S.length ≤ n
  | 0, l, h => by
    rw [List.length_eq_zero_iff] at h
    subst h
    intro S hS
    rw [List.mem_singleton.mp hS]
    exact ⟨fun z hz => (nomatch hz), Nat.le_refl _⟩
  | n + 1, l, h => by
    obtain ⟨m, x, rfl⟩ : ∃ m x, l = m ++ [x] := ⟨l.dropLast, l.getLast (by intro z; rw [z] at h; cases h), (List.dropLast_concat_getLast _).symm⟩
    rw [List.length_append, List.length_singleton] at h
    intro S hS
    rw [subsW_snoc] at hS
    rcases List.mem_append.mp hS with hS | hS
    · obtain ⟨h1, h2⟩ := subsW_mem n m (by omega) S hS
      exact ⟨fun z hz => List.mem_append.mpr (.inl (h1 z hz)), by omega⟩
    · obtain ⟨S', hS', rfl⟩ := List.mem_map.mp hS
      obtain ⟨h1, h2⟩ := subsW_mem n m (by omega) S' hS'
      refine ⟨fun z hz => ?_, by rw [List.length_append, List.length_singleton]; omega⟩
      rcases List.mem_append.mp hz with hz | hz
      · exact List.mem_append.mpr (.inl (h1 z hz))
      · exact List.mem_append.mpr (.inr hz)
theorem subsW_filter (p : Int → Bool) : ∀ n (l : List Int), l.length = n → l.filter p ∈ subsW l
  | 0, l, h => by
    rw [List.length_eq_zero_iff] at h
    subst h
    exact List.mem_singleton.mpr rfl
  | n + 1, l, h => by
    obtain ⟨m, x, rfl⟩ : ∃ m x, l = m ++ [x] := ⟨l.dropLast, l.getLast (by intro z; rw [z] at h; cases h), (List.dropLast_concat_getLast _).symm⟩
    rw [List.length_append, List.length_singleton] at h
    have ih := subsW_filter p n m (by omega)
    rw [subsW_snoc, List.filter_append, List.mem_append]
    by_cases hx : p x = true
    · refine .inr (List.mem_map.mpr ⟨_, ih, ?_⟩)
      rw [List.filter_cons, if_pos hx]
      rfl
    · refine .inl ?_
      rw [List.filter_cons, if_neg hx]
      show m.filter p ++ [] ∈ _
      rw [List.append_nil]
      exact ih
/-- one of these pupils meets it -/
theorem vis_subs {rows : List (List Int)} {l : List Int} {e o z : Int} (G : GoodW rows e o) (hl : ∀ row ∈ rows, ∃ q r, row = q :: r ∧ q ∈ l) (z0 : -e ≤ z) (z1 : z < rows.length) {t : Int} : Led rows z t ↔ ∃ R ∈ subsW l, VisW rows R z t := by
  constructor
  · intro h
    obtain ⟨R, hv⟩ := vis_some G z0 z1 h
    refine ⟨_, subsW_filter (fun x => decide (x ∈ norm R)) _ l rfl, ?_⟩
    have cong := WK_cong (rows := rows) (R := R) (S := l.filter fun x => decide (x ∈ norm R)) (p := z) fun u hu => by
      obtain ⟨k, hk⟩ := List.getElem?_of_mem hu
      obtain ⟨p', p0, p1, hp, _⟩ := WK_at G k z z0 z1 _ hk
      have ep := itP_inj hp
      subst ep
      obtain ⟨q, t1, t2, r, hrow, hrw, _⟩ := row3 G p0 p1
      have hq : qP rows u = q := by unfold qP; rw [hrow] <;> rfl
      obtain ⟨q2, r2, h1, h2⟩ := hl _ (List.mem_of_getElem? hrw)
      rw [hrow] at h1
      obtain ⟨rfl, _⟩ := List.cons.inj h1
      rw [hq, mem_norm (l := l.filter _), List.mem_filter]
      exact ⟨fun h => ⟨(mem_norm.mp h).1, h2, decide_eq_true h⟩, fun h => of_decide_eq_true h.2.2⟩
    rcases hv with ⟨h1, h2⟩ | ⟨h1, h2⟩
    · refine .inl ⟨h1, ?_⟩
      have : itP rows (l.filter fun x => decide (x ∈ norm R)) t = itP rows R t := by
        have h3 := h2
        rw [cong.1] at h3
        obtain ⟨u, hu⟩ := WK_row h3
        have : t = u := by
          unfold itP at hu
          simp only [List.cons.injEq] at hu
          exact hu.1
        rw [this] at hu ⊢
        exact hu.symm
      rw [this, ← cong.1]
      exact h2
    · exact .inr ⟨h1, by rw [← cong.2]; exact h2⟩
  · rintro ⟨R, _, hv⟩
    exact vis_led G rows.length z t z0 z1 (fun h => by omega) hv
theorem GoodS.qs {e : Int} {N : Nat} {nms : List Int} {rows bels : List (List Int)} (h : GoodS e N nms rows bels) (hN : rows.length = N) : ∀ row ∈ rows, ∃ q r, row = q :: r ∧ q ∈ nms := fun row hr => by
  obtain ⟨j, hj⟩ := List.getElem?_of_mem hr
  obtain ⟨q, r, b, h1, _, h2, _⟩ := h.at (base := 0) (by omega) j row hj
  exact ⟨q, r, h1, h2⟩
theorem rgI_sorted (n : Nat) : (rgI n).Pairwise (· < ·) := by
  unfold rgI
  rw [List.pairwise_map]
  exact List.pairwise_lt_range.imp fun h => by omega
/-! ## lists of lists of numbers -/
def IntsAt (H : Hp) (as : List Addr) (ls : List (List Int)) : Prop := as.length = ls.length ∧ ∀ (i : Nat) a l, as[i]? = some a → ls[i]? = some l → H a = some (.lst (l.map V.int))
theorem IntsAt.same {H H' : Hp} {as : List Addr} {ls : List (List Int)} (e : Same H H') (h : IntsAt H as ls) : IntsAt H' as ls := ⟨h.1, fun i a l h1 h2 => e _ _ (h.2 i a l h1 h2)⟩
theorem IntsAt.gd {H H' : Hp} {as : List Addr} {ls : List (List Int)} (e : Gd H H') (h : IntsAt H as ls) : IntsAt H' as ls := ⟨h.1, fun i a l h1 h2 => e.1 _ _ (np_ints _) (h.2 i a l h1 h2)⟩
theorem IntsAt.nil {H : Hp} : IntsAt H [] [] := ⟨rfl, fun i a r e1 _ => by simp at e1⟩
theorem IntsAt.append {H : Hp} {as bs : List Addr} {ls ms : List (List Int)} (h : IntsAt H as ls) (h2 : IntsAt H bs ms) : IntsAt H (as ++ bs) (ls ++ ms) := by
  refine ⟨by rw [List.length_append, List.length_append, h.1, h2.1], fun i a l e1 e2 => ?_⟩
  by_cases hi : i < as.length
  · rw [List.getElem?_append_left hi] at e1
    rw [List.getElem?_append_left (by rw [← h.1]; exact hi)] at e2
    exact h.2 i a l e1 e2
  · rw [List.getElem?_append_right (by omega)] at e1
    rw [List.getElem?_append_right (by rw [← h.1]; omega), ← h.1] at e2
    exact h2.2 _ a l e1 e2
theorem IntsAt.one {H : Hp} {a : Addr} {l : List Int} (h : H a = some (.lst (l.map V.int))) : IntsAt H [a] [l] :=
  ⟨rfl, fun i b m e1 e2 => by
    cases i with
    | zero => cases e1; cases e2; exact h
    | succ i => simp at e1⟩
theorem IntsAt.take {H : Hp} {as : List Addr} {ls : List (List Int)} (k : Nat) (h : IntsAt H as ls) : IntsAt H (as.take k) (ls.take k) :=
  ⟨by rw [List.length_take, List.length_take, h.1], fun i a row e1 e2 => by
    rw [List.getElem?_take] at e1 e2
    split at e1
    · rw [if_pos ‹_›] at e2
      exact h.2 i a row e1 e2
    · cases e1⟩
theorem IntsAt.get {H : Hp} {as : List Addr} {ls : List (List Int)} {i : Nat} {a : Addr} (h : IntsAt H as ls) (ha : as[i]? = some a) : ∃ l, ls[i]? = some l ∧ H a = some (.lst (l.map V.int)) := by
  have hi := (List.getElem?_eq_some_iff.mp ha).1
  rw [h.1] at hi
  exact ⟨_, List.getElem?_eq_getElem hi, h.2 i a _ ha (List.getElem?_eq_getElem hi)⟩
theorem IntsAt.upd_not {H : Hp} {as : List Addr} {ls : List (List Int)} {p : Addr} {o : HO} (h : IntsAt H as ls) (n : p ∉ as) : IntsAt (upd H p o) as ls :=
  ⟨h.1, fun i a l h1 h2 => by rw [upd_ne (fun z => n (by rw [← z]; exact List.mem_of_getElem? h1))]; exact h.2 i a l h1 h2⟩
def plW (l : List (List Int)) : List Int := l.map fun row => (row[0]?).getD 0
theorem mem_plW {rows : List (List Int)} {R : List Int} {p t : Int} : t ∈ plW (WK rows R p) ↔ itP rows R t ∈ WK rows R p := by
  unfold plW
  rw [List.mem_map]
  constructor
  · rintro ⟨row, h, rfl⟩
    obtain ⟨z, rfl⟩ := WK_row h
    exact h
  · intro h
    exact ⟨_, h, rfl⟩
theorem vis_pos {rows : List (List Int)} {R : List Int} {e o z t : Int} (G : GoodW rows e o) (z0 : -e ≤ z) (z1 : z < rows.length) (h : itP rows R t ∈ WK rows R z) : 0 ≤ t ∧ t < rows.length := by
  obtain ⟨k, hk⟩ := List.getElem?_of_mem h
  obtain ⟨p', p0, p1, hp, _⟩ := WK_at G k z z0 z1 _ hk
  rw [itP_inj hp]
  exact ⟨p0, p1⟩
/-- the three sets that a web tells, met by all pupils -/
theorem all_reach {rows : List (List Int)} {l L : List Int} {e o z : Int} (G : GoodW rows e o) (hl : ∀ row ∈ rows, ∃ q r, row = q :: r ∧ q ∈ l) (z0 : -e ≤ z) (z1 : z < rows.length) (e40 : e ≤ 48) (h : IsReach rows z L) :
    (rgI e.toNat).filter (fun x => decide (x ∈ (subsW l).map fun R => WN rows R z)) = norm L := by
  refine norm_of_sorted ((rgI_sorted _).filter _) (fun x => ?_) fun x hx => ?_
  · rw [List.mem_filter, mem_rgI, h, decide_eq_true_eq, List.mem_map]
    constructor
    · rintro ⟨_, R, hR, rfl⟩
      obtain ⟨w0, w1⟩ := WN_ok (R := R) G z0 z1
      exact ⟨w0, (vis_subs G hl z0 z1).mpr ⟨R, hR, .inr ⟨by omega, by omega⟩⟩⟩
    · rintro ⟨x0, hx⟩
      obtain ⟨R, hR, hv⟩ := (vis_subs G hl z0 z1).mp hx
      rcases hv with ⟨h1, _⟩ | ⟨h1, h2⟩
      · omega
      · obtain ⟨w0, w1⟩ := WN_ok (R := R) G z0 z1
        exact ⟨by omega, R, hR, by omega⟩
  · obtain ⟨x0, hx⟩ := (h x).mp hx
    have := hx.bounds G z0 z1
    omega
theorem all_asked {rows : List (List Int)} {l L : List Int} {e o z : Int} (G : GoodW rows e o) (hl : ∀ row ∈ rows, ∃ q r, row = q :: r ∧ q ∈ l) (z0 : -e ≤ z) (z1 : z < rows.length) (h : IsAsked rows z L) :
    norm ((subsW l).flatMap fun R => qsW (WK rows R z)) = norm L := by
  refine norm_ext fun x x0 x1 => ?_
  rw [List.mem_flatMap, h]
  constructor
  · rintro ⟨R, hR, hx⟩
    obtain ⟨u, hu, hq⟩ := mem_qsW.mp hx
    obtain ⟨u0, u1⟩ := vis_pos G z0 z1 hu
    obtain ⟨q, t1, t2, r, hrow, hrw, _⟩ := row3 G u0 u1
    have : q = x := by rw [← hq]; unfold qP; rw [hrow] <;> rfl
    subst this
    refine ⟨u.toNat, t1 :: t2 :: r, ?_, by rw [hrw, hrow]⟩
    rw [show ((u.toNat : Nat) : Int) = u by omega]
    exact (vis_subs G hl z0 z1).mpr ⟨R, hR, .inl ⟨u0, hu⟩⟩
  · rintro ⟨j, r, hj, hr⟩
    obtain ⟨R, hR, hv⟩ := (vis_subs G hl z0 z1).mp hj
    rcases hv with ⟨_, h2⟩ | ⟨h1, _⟩
    · refine ⟨R, hR, mem_qsW.mpr ⟨j, h2, ?_⟩⟩
      unfold qP
      rw [rowP_get (p := (j : Int)) (row := x :: r) (by rw [Int.toNat_natCast]; exact hr)]
      rfl
    · omega
theorem all_reached {rows : List (List Int)} {l L : List Int} {e o z : Int} (G : GoodW rows e o) (hl : ∀ row ∈ rows, ∃ q r, row = q :: r ∧ q ∈ l) (z0 : -e ≤ z) (z1 : z < rows.length) (n40 : rows.length ≤ 48) (h : IsReached rows z L) :
    (rgI rows.length).filter (fun x => decide (x ∈ (subsW l).flatMap fun R => plW (WK rows R z))) = norm L := by
  refine norm_of_sorted ((rgI_sorted _).filter _) (fun x => ?_) fun x hx => ?_
  · rw [List.mem_filter, mem_rgI, h, decide_eq_true_eq, List.mem_flatMap]
    constructor
    · rintro ⟨⟨x0, _⟩, R, hR, hx⟩
      exact ⟨x0, (vis_subs G hl z0 z1).mpr ⟨R, hR, .inl ⟨x0, mem_plW.mp hx⟩⟩⟩
    · rintro ⟨x0, hx⟩
      obtain ⟨R, hR, hv⟩ := (vis_subs G hl z0 z1).mp hx
      rcases hv with ⟨_, h2⟩ | ⟨h1, _⟩
      · exact ⟨vis_pos G z0 z1 h2, R, hR, mem_plW.mpr h2⟩
      · omega
  · obtain ⟨x0, hx⟩ := (h x).mp hx
    have := hx.bounds G z0 z1
    omega
def spPups (K : PySem.W.Frag) : Sp := fun vs H Q _ => ∃ (q : Addr) (l : List Int), vs = [.ref q] ∧ H q = some (.lst (l.map V.int)) ∧ l.length ≤ 8 ∧
  ∀ H' D as, Same H H' → H' D = some (.lst (as.map V.ref)) → IntsAt H' as (subsW l) → Q (.ref D) H'
def spWFits : Sp := fun vs H Q _ => ∃ (q t rp : Addr) (as : List Addr) (rows : List (List Int)) (R : List Int) (e o z : Int), vs = [.ref q, .ref t, .int (WN rows R z), .int z, .ref rp] ∧ H q = some (.lst (as.map V.ref)) ∧ RowsAt H as rows ∧ GoodW rows e o ∧ LsAt H t (WK rows R z) ∧ H rp = some (.lst (R.map V.int)) ∧ -e ≤ z ∧ z < rows.length ∧
  ∀ H', Same H H' → Q (.bl true) H'
def spPFits (C : Addr) : Sp := fun vs H Q _ => ∃ (wb cs ps q : Addr) (as bs : List Addr) (rows : List (List Int)) (l : List Int) (e o z : Int), vs = [.ref wb, .ref cs, .int z, .ref ps] ∧ WebAt C H wb rows e o ∧ GoodW rows e o ∧ rows.length ≤ 40 ∧ e ≤ 40 ∧ H cs = some (.tup [.ref q, .int e, .int o]) ∧ H q = some (.lst (as.map V.ref)) ∧ RowsAt H as rows ∧
  H ps = some (.lst (bs.map V.ref)) ∧ IntsAt H bs (subsW l) ∧ l.length ≤ 6 ∧ Qn l ∧ (∀ row ∈ rows, ∃ q r, row = q :: r ∧ q ∈ l) ∧ -e ≤ z ∧ z < rows.length ∧ ∀ H', Same H H' → Q (.bl true) H'
end L2

namespace L2
open PySem PySem.Spec PyProof.Rows
/-! ## what is raised meets the wish, whatever the slots hold -/
def EN (n : Nat) (W : WX) : XK := fun cls d H => ∀ σ : St, σ.length = n → W cls d σ H
theorem passN {X : Cx} {W : WX} {n : Nat} (tk : Takes X W) (hn : X.N.length = n) : Passes (L2.CX X.prog X.w) X (EN n W) := fun pins σ H s e s' I c => tk e s' (XE.of_call I (fun cls d H' h => h σ (by rw [I.len, hn])) c)
/-! ## several clauses 'except x as n' -/
def wManyAs (K : PySem.W.Frag) (Wout : WX) (D : Ends) : List (Value × Nat × (Addr → Value → Option Addr → TS)) → WX
  | [] => Wout
  | (c, i, ts) :: r => fun cls d σ H => ∃ b, PySem.W.exmOne K cls c = some b ∧ (b = true → ∀ a, H a = none → ts a cls d { nx := fun σ' H' => D.nx (σ'.set i none) H', rt := D.rt, bk := fun σ' H' => D.bk (σ'.set i none) H', ct := fun σ' H' => D.ct (σ'.set i none) H' } (σ.set i (some (.ref a))) H) ∧
    (b = false → wManyAs K Wout D r cls d σ H)
inductive HdsAs (X : Cx) : List ExceptHandler → List (Value × Nat × (Addr → Value → Option Addr → TS)) → Prop
  | nil : HdsAs X [] []
  | cons {x n : Str} {i : Nat} {c : Value} {ts : Addr → Value → Option Addr → TS} {b₀ : Stmt} {suite : List Stmt} {np pos' : Pos} {hds : List ExceptHandler} {l : List (Value × Nat × (Addr → Value → Option Addr → TS))} (hi : X.N[i]? = some n) (hln : X.env.kindOf n = some .local) (hc : Names X x c)
      (hsu : ∀ (a : Addr) (oe : Obj) (cls : Value) (d : Option Addr) (pn : List (Addr × Obj)), Zc cls d oe → (∃ vs, oe.data = .fields vs) → PSs (X.suite a ((a, oe) :: pn)) (b₀ :: suite) (ts a cls d)) (r : HdsAs X hds l) :
      HdsAs X (.ExceptHandler (some (.Name x np)) (some n) (b₀ :: suite) pos' :: hds) ((c, i, ts) :: l)
section
variable {X : Cx} {body : List Stmt} {h₀ : ExceptHandler} {hds : List ExceptHandler} {l : List (Value × Nat × (Addr → Value → Option Addr → TS))} {pos : Pos} {tb : WX → TS} {Wout : WX}
theorem ps_try_manyAs (hs : X.stack = X.env :: X.outer) (hf : X.env.frame = some X.env.locals) (hN : X.N.Nodup) (tk : Takes X Wout)
    (hb : ∀ (W : WX) (pn : List (Addr × Obj)) (xe : Value → Shared → Prop), Takes (X.tr pn xe) W → PassesOwn (model X.prog X.w) X.A X.env xe → PSs (X.tr pn xe) body (tb W))
    (hh : HdsAs X (h₀ :: hds) l) : PS X (.Try body (h₀ :: hds) [] [] pos) (fun D σ H => tb (wManyAs X.K Wout D l) D σ H) := by
  refine ⟨fun pins s σ H D I h => ?_⟩
  have ok := I.ok
  have hfr : X.A.frames = some (X.env :: X.outer) := by rw [ok.frames, hs]
  refine wpAny_Try_except ?_
  refine wpAny_mono ((hb (wManyAs X.K Wout D l) (X.pn ++ pins) (fun e s₁ => wpAny (model X.prog X.w) X.A (noteFrame e X.env) (fun _ s₂ => wpAny (model X.prog X.w) X.A (setFlight e none) (fun _ s₃ =>
    wpAny (model X.prog X.w) X.A (handleBy e X.env (h₀ :: hds)) (SP X pins D) X.xe s₃) X.xe s₂) X.xe s₁) (fun u s' xx => ?_) PassesOwn.looking).run [] s σ H D (I.toTry _) h) (fun f s1 hsp => ?_) (fun e s1 he => he)
  · obtain ⟨a, B, sI, pins', σ', H', cls, d, rfl, J', nb, up, sky, na, os, ag, w⟩ := xx
    have J : Inv X pins σ' H' sI := J'.ofTry ok
    have sky' : Sky B (X.env :: X.outer) a (Zc cls d) X.env.locals s'.heap := by rw [← hs]; exact sky
    show wpAny (model X.prog X.w) X.A (noteFrame (.ref a) X.env) _ _ _
    refine Sky.land Zc.steady hfr hf sky' fun h3 fl3 up3 => ?_
    have J3 : Inv X pins σ' H' { s' with heap := h3 } := J.landed nb fl3.1 (up.trans up3) os ag
    obtain ⟨oe3, vs3, he3, hz3, hd3⟩ := fl3.there
    have notFr : ∀ {h : Heap} {o : Obj} {vs : Array Value}, h.FunFrames B (X.env :: X.outer) → h.get? a = some o → o.data = .fields vs → a ∉ frs (X.env :: X.outer) := fun {h o vs} ff e dd hm => by
      obtain ⟨_, o', e', hnf⟩ := ff.mem hm
      rw [e] at e'; cases e'
      exact hnf _ dd
    have nfr := notFr fl3.2.2.1 he3 hd3
    have nL : a ≠ X.env.locals := fun z => nfr (List.mem_filterMap.mpr ⟨X.env, List.mem_cons_self, by rw [hf, z]⟩)
    have nF : a ∉ X.fs := fun hm => by
      obtain ⟨e, he, q⟩ := List.mem_filterMap.mp hm
      exact nfr (List.mem_filterMap.mpr ⟨e, List.mem_cons_of_mem _ he, q⟩)
    have S3 := J3.suite he3 hd3 na nL nF
    have go : ∀ {hds' : List ExceptHandler} {l' : List (Value × Nat × (Addr → Value → Option Addr → TS))}, HdsAs X hds' l' → wManyAs X.K Wout D l' cls d σ' H' →
        wpAny (model X.prog X.w) X.A (handleBy (.ref a) X.env hds') (SP X pins D) X.xe { s' with heap := h3 } := by
      intro hds' l' hk
      induction hk with
      | nil =>
        intro w
        refine wpAny_handleBy_nil ?_
        obtain ⟨k1, k2, k3, oe, vs, T, oT, ts', he, hz, hd, h1, hr⟩ := id fl3
        unfold PySem.passOn
        refine wpAny_bind (wpAny_field he hd h1 ?_)
        rw [if_neg (show ¬ ((Value.ref T == Value.none) = true) from by simp)]
        have fin : wpAny (model X.prog X.w) X.A (setFlight (.ref a) X.env.frame) (fun _ s4 => wpAny (model X.prog X.w) X.A (throw (.ref a) : Sem Flow) (SP X pins D) X.xe s4) X.xe { s' with heap := h3 } := by
          rw [hf]
          refine HandSPX.setFlight_upZ fl3 fun h4 hh4 up4 => wpAny_throw (tk _ _ ?_)
          exact ⟨a, B, sI, pins, σ', H', cls, d, rfl, J, nb, (up.trans up3).trans up4, .inr (.inr (by rw [hs]; exact hh4)), na, os, ag, w⟩
        first
          | exact wpAny_bind (wpAny_pure (wpAny_bind fin))
          | exact wpAny_bind fin
      | @cons x n i c ts b₀ suite np pos' hds2 l2 hi hln hc hsu r ih =>
        intro w
        obtain ⟨b, hb1, hyes, hno⟩ := w
        have hloc : Loc X.env.scope n := .inl hln
        refine wpAny_handleBy_cons (codeAny_handlers_test ?_) (by intro q; cases q)
        have LT : PySem.W.Looks (model X.prog X.w) h3 (typeOf (.ref a)) cls := fun A Q E s k q => wpAny_typeOf_ref (k _ _ he3) (by rw [hz3.1]; exact q)
        have LM := PySem.W.exm_one (M := model X.prog X.w) (J3.kIn) LT hb1
        have test : ∀ {Q : Value → Shared → Prop} {E : Value → Shared → Prop}, Q c { s' with heap := h3 } → wpAny (model X.prog X.w) (X.A.mark (some (.ref a))) (eval (.Name x np) X.env) Q E { s' with heap := h3 } := fun {Q E} q => by
          obtain ⟨hg, hdbg, hm | ⟨hm, hv, hnn⟩⟩ := hc
          · exact ld_glob (X := X.suite a ((a, oe3) :: (X.pn ++ pins))) S3 hg hm q hdbg
          · exact ld_blt (X := X.suite a ((a, oe3) :: (X.pn ++ pins))) S3 hg hm hv q hnn hdbg
        refine test (LM.here ?_)
        cases b with
        | true =>
          refine codeAny_handlers_suite_as ?_
          refine HandSPX.lands_againZ fl3 fun h4 fl4 up4 => ?_
          have J4 : Inv X pins σ' H' { s' with heap := h4 } := J.landed nb fl4.1 ((up.trans up3).trans up4) os ag
          obtain ⟨oe4, vs4, he4, hz4, hd4⟩ := fl4.there
          have S4 := J4.suite he4 hd4 na nL nF
          refine store_ok (X := X.suite a ((a, oe4) :: (X.pn ++ pins))) (v := .ref a) S4 hN hi hloc rfl (fun s5 S5 => ?_) (.inr hln)
          refine wpAny_mono ((hsu a oe4 cls d (X.pn ++ pins) hz4 ⟨_, hd4⟩).run [] s5 _ H' _ S5 (hyes rfl a na)) (fun f s6 hsp => ?_) (fun _ _ z => False.elim z)
          have end_ : ∀ {σ6 : St} {H6 : Hp} {Q : Shared → Prop}, Inv (X.suite a ((a, oe4) :: (X.pn ++ pins))) [] σ6 H6 s6 → (∀ s7, Inv X pins (σ6.set i none) H6 s7 → Q s7) →
              wpAny (model X.prog X.w) X.A (do bindName X.env n .none; unbindBehindTheSuite X.env n pos') (fun _ s7 => Q s7) X.xe s6 := fun {σ6 H6 Q} S6 hq => gone_ok (S6.unsuite ok) hN hi hln hq
          cases f with
          | next =>
            obtain ⟨σ6, H6, S6, q6⟩ := hsp
            exact end_ S6 fun s7 J7 => ⟨_, _, J7, q6⟩
          | brk =>
            obtain ⟨σ6, H6, S6, q6⟩ := hsp
            exact end_ S6 fun s7 J7 => ⟨_, _, J7, q6⟩
          | cont =>
            obtain ⟨σ6, H6, S6, q6⟩ := hsp
            exact end_ S6 fun s7 J7 => ⟨_, _, J7, q6⟩
          | ret u =>
            obtain ⟨v6, σ6, H6, S6, r6, q6⟩ := hsp
            exact end_ S6 fun s7 J7 => ⟨_, _, _, J7, r6, q6⟩
        | false =>
          show wpAny _ X.A (handleBy (.ref a) X.env hds2) _ _ _
          exact ih (hno rfl)
    exact go hh w
  · cases f with
    | next =>
      obtain ⟨σ', H', J', q⟩ := hsp
      exact wpAny_execs_nil ⟨σ', H', J'.ofTry ok, q⟩
    | brk =>
      obtain ⟨σ', H', J', q⟩ := hsp
      exact ⟨σ', H', J'.ofTry ok, q⟩
    | cont =>
      obtain ⟨σ', H', J', q⟩ := hsp
      exact ⟨σ', H', J'.ofTry ok, q⟩
    | ret u =>
      obtain ⟨v, σ', H', J', r, q⟩ := hsp
      exact ⟨v, σ', H', J'.ofTry ok, r, q⟩
end
end L2

namespace L2
open PySem PySem.Spec PyProof.Rows
section
variable {X : Cx}
def eqb (k : Bool) (v : Value) : Bool := match v with
  | .bool n => n == k
  | _ => false
def rCntB (K : PySem.W.Frag) : V → List V → Hp → VK → Prop := fun x xs H Q => ∃ (p : Addr) (bs : List Bool) (k : Bool), x = .ref p ∧ xs = [.bl k] ∧ SqL K H p (bs.map V.bl) ∧ Q (.int (bs.count k : Nat)) H
theorem eqb_at {A : Around} {s : Shared} (hu : A.units < cLine) (a b : Bool) : SeqAt.EqAt A s (.bool a) (.bool b) (a == b) := by
  have := SeqAt.eqAt_reads (.bool a) (.bool b) A s (.bool a) (.bool b) [] [] (.bool _) (.bool _) rfl rfl (by
    rw [show min (PyData.depth (.bool a)) (PyData.depth (.bool b)) = 0 by simp [PyData.depth]]
    omega)
  rwa [show PyData.eqv (.bool a) (.bool b) = (a == b) by simp [PyData.eqv]] at this
theorem mt_lcountB (hu : X.A.units + 65 < cLine) : MtR X "list.count" (rCntB X.K) := by
  intro pins s σ H x xs v us Q I rx rxs h
  obtain ⟨p, bs, k, rfl, rfl, hs, q⟩ := h
  cases rx
  obtain ⟨u, rfl, ru⟩ := rxs.one
  cases ru
  obtain ⟨its, rv, ⟨⟨cls, dd, data, sl⟩, n, ho, hc, hdn, hd⟩, hlen⟩ := I.list hs
  simp only at hc hd
  subst hc hd
  obtain rfl := Vals.bls rv
  refine call_meets PySem.F.slot_list_count ⟨_, ho, rfl⟩ PySem.F.entry_list_count (PySem.F.args_list_count_2 _ _)
    (SeqAt.list_countAt p (bs.map Value.bool).toArray n dd sl (.bool k) (eqb k)) ⟨ho, fun y hy => ?_, ?_⟩
  · obtain ⟨b, _, rfl⟩ := List.mem_map.mp (show y ∈ bs.map Value.bool by simpa using hy)
    refine eqb_at ?_ b k
    have : X.A.in1.units ≤ X.A.units + 2 := by first | exact Nat.le_refl _ | (show X.A.units + 1 ≤ _; omega) | (show X.A.units ≤ _; omega)
    omega
  have ec : ((bs.map Value.bool).toArray.toList.countP (eqb k)) = bs.count k := by
    rw [List.countP_map]
    rfl
  refine ⟨.int (bs.count k : Nat), H, I.tok _, ⟨s.toks, ?_⟩, q⟩
  show Value.int (((bs.map Value.bool).toArray.toList.countP (eqb k) : Nat) : Int) s.toks = _
  rw [ec]
/-- how many of what is told hold -/
def pgB (i j : Int) : List Bool := [decide (i < j), decide (i ≤ j), decide (i = j), decide (j ≤ i), decide (j < i)]
theorem pgB_count (i j : Int) : (pgB i j).count true = 2 ∨ (pgB i j).count true = 3 := by
  unfold pgB
  rcases Int.lt_trichotomy i j with h | h | h
  · left
    simp [h, Int.le_of_lt h, Int.ne_of_lt h, Int.not_le.mpr h, Int.not_lt.mpr (Int.le_of_lt h)]
  · right
    subst h
    simp
  · left
    simp [h, Int.le_of_lt h, (Int.ne_of_lt h).symm, Int.not_le.mpr h, Int.not_lt.mpr (Int.le_of_lt h)]
theorem pgB_rev (i j : Int) : (pgB i j).reverse = pgB j i := by
  unfold pgB
  simp [eq_comm]
end
end L2

namespace L2
open PySem PySem.Spec PyProof.Rows
section
variable {X : Cx}
/-- range(n) as a value -/
theorem cr_range1 : CallR X (.type "range") (fun vs H Q => ∃ j, vs = [V.int j] ∧ ∀ p, H p = none → Q (.ref p) (upd H p (.rng 0 j))) := by
  intro pins s σ H xs us Q I r h
  obtain ⟨j, rfl, q⟩ := h
  cases r with
  | cons ra rr =>
    cases rr
    obtain ⟨t, rfl⟩ := ra
    refine call_range_1 ?_
    have hn : H s.heap.objs.size = none := I.hok.fresh (Nat.le_refl _)
    exact ⟨.ref s.heap.objs.size, upd H s.heap.objs.size (.rng 0 j), I.laid (fun b u e => Heap.get?_push_of_some _ e) (Nat.le_refl _) ⟨_, _, _, Heap.get?_push_size _ rfl⟩, rfl, q _ hn⟩
/-- going over a range that stands in H -/
def iRngO (tl : TE) : TI := fun σ H R => tl σ H fun x H1 => ∃ a lo hi, x = V.ref a ∧ H1 a = some (.rng lo hi) ∧ -(2 ^ 62) ≤ lo ∧ lo < 2 ^ 62 ∧ -(2 ^ 62) ≤ hi ∧ hi < 2 ^ 62 ∧ R (Itr lo (hi - lo).toNat) H1
theorem pi_rngO {tg l : Expr} {tl : TE} (hl : PE X l tl) : PI X tg l (iRngO tl) := by
  refine ⟨fun pins s σ H R I h => ?_⟩
  refine thn (hl.run pins s σ H _ I h) fun v s1 hh => ?_
  obtain ⟨x, H1, I1, r, a, lo, hi, rfl, ha, h1, h2, h3, h4, hR⟩ := hh
  cases r
  obtain ⟨t, u, v, ho⟩ := I1.hok _ _ ha
  have g0 : IsRange s1.heap a lo hi 1 t u v := ho
  refine wpAny_pyIter_range g0 (small_one h1 h2 h3 h4) ?_
  have n0 := rangeSize_one lo hi
  refine ⟨s1.heap.objs.size, [s1.heap.objs.size], _, Itr lo (hi - lo).toNat, H1, rfl, I1.kept (fun b o e => Heap.get?_push_of_some _ e), turn_range s1.heap.objs.size lo (hi - lo).toNat, ?_, fun b hb => ?_, hR⟩
  · have e : ((Builtin.Range.rangeSize lo hi 1 : Int)) = (((hi - lo).toNat : Nat) : Int) := by
      rw [rangeSize_one]
      split <;> omega
    show (s1.heap.push _).get? _ = _
    rw [Heap.get?_push_size _ rfl, e]
    simp
  · rw [List.mem_singleton.mp hb]
    exact I1.fpOk (Nat.le_refl _) (I1.hok.fresh (Nat.le_refl _))
end
end L2

namespace L2
open PySem PySem.Spec PyProof.Rows
/-! ## an error is made without an argument and raised: no dict of its own -/
/-- X.__init__(self): the base's __init__ alone -/
def spErr0 (C : Addr) : Sp := fun vs H Q _ => ∃ a : Addr, vs = [.ref a] ∧ H a = some (exo a C none) ∧ Q .non H
def tMk0 (C : Addr) (sp : Sp) : St → Hp → XK → Prop := fun σ H Q => ∀ a, H a = none → sp [.ref a] (upd H a (exo a C none)) (fun v H2 => v = .non ∧ H2 a = some (exo a C none) ∧ Q (.ref C) none (del H2 a)) (fun _ _ _ => False)
theorem err_make0 {C : Addr} {H : Hp} {W : Value → Option Addr → Hp → Prop} {E : XK} (k : W (.ref C) none H) : ∀ a, H a = none → spErr0 C [.ref a] (upd H a (exo a C none)) (fun v H2 => v = .non ∧ H2 a = some (exo a C none) ∧ W (.ref C) none (del H2 a)) E := fun a na => by
  refine ⟨a, rfl, upd_same, rfl, upd_same, ?_⟩
  have e : del (upd H a (exo a C none)) a = H := by
    funext b
    by_cases hb : b = a
    · subst hb
      rw [del_same, na]
    · rw [del_ne hb, upd_ne hb]
  rw [e]
  exact k
section
variable {X : Cx}
theorem mk_endN {pins : List (Addr × Obj)} {σ : St} {H1 H2 : Hp} {hp hp2 h2 : Heap} {g1 g2 : Array GenState} {d1 d2 : Drawn} {t1 t2 : Nat} {os1 os2 : OsState} {a C : Addr} (I1 : Inv X pins σ H1 ⟨hp, g1, d1, t1, os1⟩)
    (ha : hp.objs.size ≤ a) (k : ∀ b o, hp.get? b = some o → hp2.get? b = some o) (un : Un (frs X.stack) [] (upd H1 a (exo a C none)) H2 hp2 h2) (hok : HOk X.prog X.w H2 h2) (ho : os2 = os1) (hb : AllBare g2)
    (ea : H2 a = some (exo a C none)) :
    ∃ (t0 : Addr) (G : Heap), Inv X pins σ (del H2 a) ⟨G, g2, d2, t2, os2⟩ ∧ (∀ b o, G.get? b = some o → h2.get? b = some o) ∧ G.get? a = none ∧
      h2.get? a = some ({ cls := .ref C, dict := none, data := .fields #[.ref t0, .none, .none, .none, .bool false, .none] } : Obj) ∧ (del H2 a) a = none := by
  obtain ⟨t0, hoe⟩ := exo_at hok ea
  have hn : H1 a = none := I1.hok.fresh ha
  obtain ⟨G, g1', g2'⟩ := restrict h2 fun b => decide (b ≠ a)
  have gk : ∀ b, b ≠ a → G.get? b = h2.get? b := fun b hb => g1' b (decide_eq_true hb)
  have ge : G.get? a = none := g2' a (by simp)
  have nha : ∀ {b : Addr} {o : Obj}, hp.get? b = some o → b ≠ a := fun {b o} z => Nat.ne_of_lt (Nat.lt_of_lt_of_le (Heap.lt_size z) ha)
  have up : ∀ {b : Addr}, b ≠ a → H1 b = none → upd H1 a (exo a C none) b = none := fun {b} hb n => by rw [upd_ne hb]; exact n
  have U : Un (frs X.stack) [] H1 (del H2 a) hp G := {
    keep := fun b o z n hf hx => by
      rw [gk b (nha z)]
      exact un.keep b o (k b o z) (up (nha z) n) hf hx
    slot := fun b o z n hf hx => by
      rw [gk b (nha z)]
      exact un.slot b o (k b o z) (up (nha z) n) hf hx
    free := fun b o z n hx => by
      rw [del_ne (nha z)]
      exact un.free b o (k b o z) (up (nha z) n) hx
    there := fun b o z hx => by
      rw [gk b (nha z)]
      exact un.there b o (k b o z) hx
    tups := fun b xs z => by
      rw [del_ne (ne_of_none z hn)]
      exact un.tups b xs (by rw [upd_ne (ne_of_none z hn)]; exact z)
    frzs := fun b o v z => by
      rw [del_ne (ne_of_none z hn)]
      exact un.frzs b o v (by rw [upd_ne (ne_of_none z hn)]; exact z)
    tbls := fun b ps z => by
      rw [del_ne (ne_of_none z hn)]
      exact un.tbls b ps (by rw [upd_ne (ne_of_none z hn)]; exact z) }
  have hok3 : HOk X.prog X.w (del H2 a) G := fun b o z => by
    have hba : b ≠ a := fun e => by
      rw [e, del_same] at z
      cases z
    rw [del_ne hba] at z
    have noa : ∀ {c : Addr}, H2 c = some (.own b) → c ≠ a := fun {c} hc => at_ne ea hc exo_own
    exact (hok b o z).stay (fun c v hc y => by
        have hca : c ≠ a := by
          rcases hc with hc | hc
          · rw [hc]
            exact hba
          · exact noa hc
        rw [gk c hca]
        exact y)
      (fun c hc => by rw [del_ne (noa hc)]; exact hc) (fun c xs hc => by rw [del_ne (at_ne ea hc exo_tup)]; exact hc)
  have J : Inv X pins σ (del H2 a) ⟨G, g2, d2, t2, os2⟩ := I1.call' (ch := []) ho U hok3 hb (fun b z => absurd z (by simp))
  refine ⟨t0, G, J, fun b o z => ?_, ge, hoe, del_same⟩
  by_cases hba : b = a
  · rw [hba, ge] at z
    cases z
  · exact (gk b hba).symm.trans z
theorem pmk_oex0 {CX : CXT} {x : Str} {C fI : Addr} {k : Nat} {fd : FuncData} {ps : List Str} {sp : Sp} {p pos : Pos} (T : OexC X.K C) (iC : PySem.W.findIn X.K (.ref C) "__init__" = some (some (.ref fI))) (tI : PySem.W.typeIn X.K (.ref fI) = some (.type "function"))
    (F1 : FnOk X.prog X.w X.K X.mg X.base CX k fI fd ps sp) (hr : Room (k + 1) X.A) (hb : Binds X.K fd ps []) (hx : Passes CX X (fun _ _ _ => False)) (hg : Gl X x) (hm : X.mg x = some (.ref C))
    (hdb : (x == ("__debug__" : Str)) = false := by decide) :
    PMk X (.Call (.Name x p) [] [] pos) (tMk0 C sp) := by
  intro pins s σ H Q I h
  obtain ⟨nm, q, N, bs, bm, sn, sub, ab, col, dd, k0, k1, k2, k3, k5, hC, hbm⟩ := T.cls
  refine wpAny_Call_Name_kw (ld_glob I hg hm ?_ hdb)
  refine PySem.W.callWith_K0 I.kIn T.kC ?_
  show wpAny _ _ (call (.ref C) []) _ _ _
  obtain ⟨hp, g, dr, tk, os⟩ := s
  have hsz : hp.objs.size ≤ hp.objs.size + 1 := Nat.le_succ _
  have hn : H (hp.objs.size + 1) = none := I.hok.fresh hsz
  have hq := h (hp.objs.size + 1) hn
  have kk : ∀ b o, hp.get? b = some o → ((hp.push (PySem.W.kdv_tup [])).push (PySem.HandSPX.excO C hp.objs.size)).get? b = some o := fun b o e => Heap.get?_push_of_some _ (Heap.get?_push_of_some _ e)
  have hget : ((hp.push (PySem.W.kdv_tup [])).push (PySem.HandSPX.excO C hp.objs.size)).get? (hp.objs.size + 1) = some (PySem.HandSPX.excO C hp.objs.size) := by heap_get
  have I2 : Inv X pins σ (upd H (hp.objs.size + 1) (exo (hp.objs.size + 1) C none)) ⟨(hp.push (PySem.W.kdv_tup [])).push (PySem.HandSPX.excO C hp.objs.size), g, dr, tk, os⟩ :=
    I.laid (t' := tk) (a := hp.objs.size + 1) (o := exo (hp.objs.size + 1) C none) (h' := (hp.push (PySem.W.kdv_tup [])).push (PySem.HandSPX.excO C hp.objs.size)) kk hsz (exo_ok hget)
  have r2 : Vals [V.ref (hp.objs.size + 1)] [Value.ref (hp.objs.size + 1)] := .cons rfl .nil
  have hl : ([Value.ref (hp.objs.size + 1)] ++ ([] : List Value)).length = ps.length := by
    have e := r2.length
    rw [F1.len _ _ _ _ hq] at e
    exact e.symm
  refine wpAny_call (PySem.HandSPX.call_own F.excBase_ValueError (fun Y => PySem.HandSPX.refsVE_contains Y bm hbm) (I.kIn _ _ hC) (PySem.W.looks_findIn I.kIn iC) (fun self => PySem.W.bind_fn I.kIn self tI) (by show 0 ≤ sizeLine; decide)
    (codeAny_mono (F1.run _ X.stack _ _ ⟨[Value.ref (hp.objs.size + 1)], []⟩ [Value.ref (hp.objs.size + 1)] _ _ (fun _ _ _ => False) (hr.make C [] []) (I2.env0.make C [] []) (hb _ [Value.ref (hp.objs.size + 1)] I2.kIn hl) r2 hq) fun r s' hq' => ?_))
  cases r with
  | error er => exact hx pins σ _ _ er s' I2 hq'
  | ok fl =>
    cases fl with
    | ret u =>
      obtain ⟨v, H2, os2, bare2, un2, hok2, rv, ev, ea, q2⟩ := hq'
      subst ev
      obtain ⟨h2, g2, d2, t2, os'⟩ := s'
      obtain ⟨t0, G, J, kG, ge, hoe, na⟩ := mk_endN (d2 := d2) (t2 := t2) I hsz kk un2 hok2 os2 bare2 ea
      exact ⟨rv, _, _, _, ⟨G, g2, d2, t2, os'⟩, _, .ref C, none, rfl, J, kG, ge, hoe, ⟨rfl, rfl⟩, rfl, rfl, na, rfl, bare2, raises_own T.exC T.tyC, q2⟩
    | next => exact False.elim hq'
    | brk => exact False.elim hq'
    | cont => exact False.elim hq'
/-- isinstance(e, c), e the error that the suite holds, without a dict of its own -/
def rIsN (K : PySem.W.Frag) (cls : Value) (d : Option Addr) (a : Addr) : List V → Hp → VK → Prop := fun xs H Q => ∃ (D : Addr) (c : V) (cv : Value) (b : Bool), cls = .ref D ∧ d = none ∧ PySem.W.ErrK K D ∧ xs = [.ref a, c] ∧ ClsV c cv ∧ PySem.W.kitOne K (.ref D) cv = some b ∧ Q (.bl b) H
theorem call_isN {a : Addr} {oe : Obj} {cls : Value} {d : Option Addr} {pn : List (Addr × Obj)} (hz : Zc cls d oe) (hf : ∃ vs, oe.data = .fields vs) : CallR (X.suite a ((a, oe) :: pn)) (.builtin "isinstance") (rIsN X.K cls d a) := by
  intro pins s σ H xs us Q I r h
  obtain ⟨D, c, cv, b, rfl, rfl, Z, rfl, hc, e, q⟩ := h
  cases r with
  | cons rx rr =>
    cases rr with
    | cons rt rr =>
      cases rr
      cases rx
      obtain rfl := hc.eq rt
      obtain ⟨hget, _⟩ := I.pin (a, oe) (List.mem_append.mpr (.inl List.mem_cons_self))
      obtain ⟨vs, hv⟩ := hf
      have J : PySem.W.InstAt s.heap a oe D none := ⟨hget, hz.1, by unfold PySem.W.notCls; rw [hv] <;> rfl, by rw [hz.2]; trivial⟩
      exact PySem.W.kia_one (PySem.W.err_kit Z) I.kIn ⟨oe, none, J⟩ e (fun z => nomatch z) fun tk => ⟨.bl b, H, I.kept (t' := tk) fun _ _ z => z, rfl, q⟩
end
/-! ## division by a number below 0 -/
def CDivZ (_ j : Int) : Prop := j ≠ 0 ∧ j.natAbs.log2 < 9000
theorem op_fdivZ {X : Cx} : OpR X (binaryOp .FloorDiv) (rI CDivZ fun i j => .int (Int.fdiv i j)) := opI fun i j _ _ _ _ _ hc q => by
  exact floordiv_int hc.1 q (.inl (PyProof.noPylong_of_log2 hc.2))
theorem wide_divZ {i j : Int} {b : Nat} (h : j ≠ 0) (hb : j.natAbs < 2 ^ b) (h0 : 0 < b) (h9 : b ≤ 9000) : CDivZ i j := ⟨h, Nat.lt_of_lt_of_le (PySem.Flt.log2_lt_of h0 hb) h9⟩
end L2

namespace L2
open PySem PySem.Spec PyProof.Rows Gg
/-! ## sittings -/
def sitFs (wb : Addr) (pl : Int) (st mk : Addr) : List (Str × V) := [(("web" : Str), .ref wb), (("_place" : Str), .int pl), (("_steps" : Str), .ref st), (("_marks" : Str), .ref mk)]
/-- a sitting at x: its web, its place, its list of steps, its marks -/
def SitAt (C : Addr) (H : Hp) (x wb : Addr) (pl : Int) (st mk : Addr) (ss : List Addr) : Prop := (∃ dx, H x = some (.ins C dx (sitFs wb pl st mk))) ∧ H st = some (.lst (ss.map V.ref))
/-- pairs of a number and a value stand at as -/
def PrsAt (H : Hp) (as : List Addr) (ps : List (Int × V)) : Prop := as.length = ps.length ∧ ∀ (i : Nat) a p, as[i]? = some a → ps[i]? = some p → H a = some (.tup [.int p.1, p.2])
theorem PrsAt.nil {H : Hp} : PrsAt H [] [] := ⟨rfl, fun i a p h _ => by simp at h⟩
theorem PrsAt.mono {H H' : Hp} {as : List Addr} {ps : List (Int × V)} (f : ∀ t xs, H t = some (.tup xs) → H' t = some (.tup xs)) (h : PrsAt H as ps) : PrsAt H' as ps := ⟨h.1, fun i a p x y => f _ _ (h.2 i a p x y)⟩
theorem PrsAt.same {H H' : Hp} {as : List Addr} {ps : List (Int × V)} (f : Same H H') (h : PrsAt H as ps) : PrsAt H' as ps := h.mono fun t xs e => f _ _ e
theorem PrsAt.gd {H H' : Hp} {as : List Addr} {ps : List (Int × V)} (f : Gd H H') (h : PrsAt H as ps) : PrsAt H' as ps := h.mono fun t xs e => f.1 _ _ (np_tup _) e
theorem PrsAt.snoc {H : Hp} {as : List Addr} {ps : List (Int × V)} {a : Addr} {p : Int × V} (h : PrsAt H as ps) (ha : H a = some (.tup [.int p.1, p.2])) : PrsAt H (as ++ [a]) (ps ++ [p]) := by
  refine ⟨by rw [List.length_append, List.length_append, h.1]; rfl, fun i b q e1 e2 => ?_⟩
  rcases Nat.lt_or_ge i as.length with hi | hi
  · rw [List.getElem?_append_left hi] at e1
    rw [List.getElem?_append_left (by rw [← h.1]; exact hi)] at e2
    exact h.2 i b q e1 e2
  · rw [List.getElem?_append_right hi] at e1
    rw [List.getElem?_append_right (by rw [← h.1]; exact hi)] at e2
    rw [← h.1] at e2
    rcases hk : i - as.length with _ | k
    · rw [hk] at e1 e2
      cases e1
      cases e2
      exact ha
    · rw [hk] at e1
      simp at e1
theorem PrsAt.take {H : Hp} {as : List Addr} {ps : List (Int × V)} (k : Nat) (h : PrsAt H as ps) : PrsAt H (as.take k) (ps.take k) :=
  ⟨by rw [List.length_take, List.length_take, h.1], fun i a p e1 e2 => by
    rw [List.getElem?_take] at e1 e2
    split at e1
    · rw [if_pos ‹_›] at e2
      exact h.2 i a p e1 e2
    · cases e1⟩
theorem PrsAt.last {H : Hp} {as : List Addr} {ps : List (Int × V)} {a : Addr} {p : Int × V} (h : PrsAt H (as ++ [a]) (ps ++ [p])) : PrsAt H as ps ∧ H a = some (.tup [.int p.1, p.2]) := by
  have hl : as.length = ps.length := by have := h.1; rw [List.length_append, List.length_append] at this; simpa using this
  refine ⟨?_, h.2 as.length a p (by rw [List.getElem?_append_right (Nat.le_refl _), Nat.sub_self]; rfl) (by rw [hl, List.getElem?_append_right (Nat.le_refl _), Nat.sub_self]; rfl)⟩
  have := h.take as.length
  rw [List.take_left, hl, List.take_left] at this
  exact this
/-- pairs of numbers as rows -/
theorem PrsAt.rows {H : Hp} {as : List Addr} {α : Type} {l : List α} {f g : α → Int} (h : PrsAt H as (l.map fun z => (f z, V.int (g z)))) : RowsAt H as (l.map fun z => [f z, g z]) :=
  ⟨by rw [h.1, List.length_map, List.length_map], fun i a row e1 e2 => by
    rw [List.getElem?_map] at e2
    obtain ⟨z, hz, rfl⟩ := Option.map_eq_some_iff.mp e2
    exact h.2 i a _ e1 (by rw [List.getElem?_map, hz]; rfl)⟩
/-! what a sitting's deeds leave -/
def Kq (x st : Addr) (H H' : Hp) : Prop := ∀ b u, b ≠ x → b ≠ st → H b = some u → H' b = some u
def Kp (x st : Addr) (H H' : Hp) : Prop := ∀ b u, b ≠ x → b ≠ st → ¬ isPool u → H b = some u → H' b = some u
theorem Kq.kp {x st : Addr} {H H' : Hp} (h : Kq x st H H') : Kp x st H H' := fun b u h1 h2 _ e => h b u h1 h2 e
theorem Same.kq {x st : Addr} {H H' : Hp} (h : Same H H') : Kq x st H H' := fun b u _ _ e => h b u e
theorem Same.kp {x st : Addr} {H H' : Hp} (h : Same H H') : Kp x st H H' := fun b u _ _ _ e => h b u e
theorem Gd.kp {x st : Addr} {H H' : Hp} (h : Gd H H') : Kp x st H H' := fun b u _ _ n e => h.1 b u n e
theorem Kq.trans {x st : Addr} {H H1 H2 : Hp} (h : Kq x st H H1) (g : Kq x st H1 H2) : Kq x st H H2 := fun b u h1 h2 e => g b u h1 h2 (h b u h1 h2 e)
theorem Kp.trans {x st : Addr} {H H1 H2 : Hp} (h : Kp x st H H1) (g : Kp x st H1 H2) : Kp x st H H2 := fun b u h1 h2 n e => g b u h1 h2 n (h b u h1 h2 n e)
theorem Kp.refl {x st : Addr} (H : Hp) : Kp x st H H := fun _ _ _ _ _ e => e
/-- where a sitting and its list stand -/
def Lv (H : Hp) (x st : Addr) : Prop := (∃ C dx wb pl mk, H x = some (.ins C dx (sitFs wb pl st mk))) ∧ ∃ ss : List Addr, H st = some (.lst (ss.map V.ref))
theorem SitAt.lv {C : Addr} {H : Hp} {x wb st mk : Addr} {pl : Int} {ss : List Addr} (h : SitAt C H x wb pl st mk ss) : Lv H x st := by
  obtain ⟨⟨dx, h1⟩, h2⟩ := h
  exact ⟨⟨C, dx, wb, pl, mk, h1⟩, ss, h2⟩
theorem SitAt.same {C : Addr} {H H' : Hp} {x wb st mk : Addr} {pl : Int} {ss : List Addr} (f : Same H H') (h : SitAt C H x wb pl st mk ss) : SitAt C H' x wb pl st mk ss := by
  obtain ⟨⟨dx, h1⟩, h2⟩ := h
  exact ⟨⟨dx, f _ _ h1⟩, f _ _ h2⟩
theorem SitAt.gd {C : Addr} {H H' : Hp} {x wb st mk : Addr} {pl : Int} {ss : List Addr} (f : Gd H H') (h : SitAt C H x wb pl st mk ss) : SitAt C H' x wb pl st mk ss := by
  obtain ⟨⟨dx, h1⟩, h2⟩ := h
  exact ⟨⟨dx, f.1 _ _ (np_ins _ _ _) h1⟩, f.1 _ _ (np_refs _) h2⟩
theorem Lv.ne {H : Hp} {x st : Addr} (L : Lv H x st) : x ≠ st := by
  obtain ⟨⟨C, dx, wb, pl, mk, h1⟩, ss, h2⟩ := L
  exact ne_of h1 h2 (by intro z; cases z)
theorem Lv.ne_tup {H : Hp} {x st t : Addr} {xs : List V} (L : Lv H x st) (h : H t = some (.tup xs)) : t ≠ x ∧ t ≠ st := by
  obtain ⟨⟨C, dx, wb, pl, mk, h1⟩, ss, h2⟩ := L
  exact ⟨ne_of h h1 (by intro z; cases z), ne_of h h2 (by intro z; cases z)⟩
theorem Kp.tup {x st t : Addr} {H H' : Hp} {xs : List V} (f : Kp x st H H') (L : Lv H x st) (h : H t = some (.tup xs)) : H' t = some (.tup xs) := f _ _ (L.ne_tup h).1 (L.ne_tup h).2 (np_tup _) h
theorem RowsAt.kp {x st : Addr} {H H' : Hp} {as : List Addr} {rows : List (List Int)} (f : Kp x st H H') (L : Lv H x st) (h : RowsAt H as rows) : RowsAt H' as rows := ⟨h.1, fun i a row e1 e2 => f.tup L (h.2 i a row e1 e2)⟩
theorem PrsAt.kp {x st : Addr} {H H' : Hp} {as : List Addr} {ps : List (Int × V)} (f : Kp x st H H') (L : Lv H x st) (h : PrsAt H as ps) : PrsAt H' as ps := h.mono fun t xs e => f.tup L e
theorem Lv.ne_lst {H : Hp} {x st t : Addr} {xs : List V} (L : Lv H x st) (h : H t = some (.lst xs)) : t ≠ x := by
  obtain ⟨⟨C, dx, wb, pl, mk, h1⟩, ss, h2⟩ := L
  exact ne_of h h1 (by intro z; cases z)
theorem LsAt.kp {x st p : Addr} {H H' : Hp} {rows : List (List Int)} (f : Kp x st H H') (L : Lv H x st) (n : p ≠ st) (h : LsAt H p rows) : LsAt H' p rows := by
  obtain ⟨as, h1, h2⟩ := h
  exact ⟨as, f _ _ (L.ne_lst h1) n (np_refs _) h1, h2.kp f L⟩
theorem TsAt.kp {x st p : Addr} {H H' : Hp} {rows : List (List Int)} (f : Kp x st H H') (L : Lv H x st) (h : TsAt H p rows) : TsAt H' p rows := by
  obtain ⟨as, h1, h2⟩ := h
  exact ⟨as, f.tup L h1, h2.kp f L⟩
theorem Lv.ne_fs {H : Hp} {x st t C dx : Addr} {f : Str} {v : V} {fs : List (Str × V)} (L : Lv H x st) (hf : f ≠ ("web" : Str)) (h : H t = some (.ins C dx ((f, v) :: fs))) : t ≠ x ∧ t ≠ st := by
  obtain ⟨⟨C', dx', wb, pl, mk, h1⟩, ss, h2⟩ := L
  refine ⟨ne_of h h1 fun z => ?_, ne_of h h2 (by intro z; cases z)⟩
  unfold sitFs at z
  injection z with _ _ z
  injection z with z _
  injection z with z _
  exact hf z
theorem Kp.fs {x st t C dx : Addr} {H H' : Hp} {f : Str} {v : V} {fs : List (Str × V)} (k : Kp x st H H') (L : Lv H x st) (hf : f ≠ ("web" : Str)) (h : H t = some (.ins C dx ((f, v) :: fs))) : H' t = some (.ins C dx ((f, v) :: fs)) :=
  k _ _ (L.ne_fs hf h).1 (L.ne_fs hf h).2 (np_ins _ _ _) h
theorem WebAt.kp {C x st wb : Addr} {H H' : Hp} {rows : List (List Int)} {e o : Int} (f : Kp x st H H') (L : Lv H x st) (h : WebAt C H wb rows e o) : WebAt C H' wb rows e o := by
  obtain ⟨dx, nt, as, h1, h2, h3⟩ := h
  exact ⟨dx, nt, as, f.fs L (by decide) h1, f.tup L h2, h3.kp f L⟩
theorem PupAt.kp {C x st pu : Addr} {H H' : Hp} {l : List Int} (f : Kp x st H H') (L : Lv H x st) (h : PupAt C H pu l) : PupAt C H' pu l := by
  obtain ⟨dx, t, h1, h2⟩ := h
  exact ⟨dx, t, f.fs L (by decide) h1, f.tup L h2⟩
theorem Lv.ne_frz {H : Hp} {x st t : Addr} {o : Obj} {u : HO} (L : Lv H x st) (h : H t = some (.frz o u)) : t ≠ x ∧ t ≠ st := by
  obtain ⟨⟨C, dx, wb, pl, mk, h1⟩, ss, h2⟩ := L
  exact ⟨ne_of h h1 (by intro z; cases z), ne_of h h2 (by intro z; cases z)⟩
theorem SqT.kp {K : PySem.W.Frag} {x st t : Addr} {H H' : Hp} {xs : List V} (f : Kp x st H H') (L : Lv H x st) (h : SqT K H t xs) : SqT K H' t xs := by
  rcases h with (h | ⟨o, h⟩) | h
  · exact .inl (.inl (f.tup L h))
  · exact .inl (.inr ⟨o, f _ _ (L.ne_frz h).1 (L.ne_frz h).2 (np_frz _ _) h⟩)
  · exact .inr h
theorem Lv.kp {x st x' st' : Addr} {H H' : Hp} (f : Kp x st H H') (n1 : x' ≠ x) (n2 : x' ≠ st) (n3 : st' ≠ x) (n4 : st' ≠ st) (L : Lv H x' st') : Lv H' x' st' := by
  obtain ⟨⟨C, dx, wb, pl, mk, h1⟩, ss, h2⟩ := L
  exact ⟨⟨C, dx, wb, pl, mk, f _ _ n1 n2 (np_ins _ _ _) h1⟩, ss, f _ _ n3 n4 (np_refs _) h2⟩
theorem SitAt.kp {C x st x' st' wb mk : Addr} {pl : Int} {ss : List Addr} {H H' : Hp} (f : Kp x st H H') (n1 : x' ≠ x) (n2 : x' ≠ st) (n3 : st' ≠ x) (n4 : st' ≠ st) (h : SitAt C H x' wb pl st' mk ss) : SitAt C H' x' wb pl st' mk ss := by
  obtain ⟨⟨dx, h1⟩, h2⟩ := h
  exact ⟨⟨dx, f _ _ n1 n2 (np_ins _ _ _) h1⟩, f _ _ n3 n4 (np_refs _) h2⟩
theorem Lv.ne_pool {K : PySem.W.Frag} {H : Hp} {x st p : Addr} {c : Nat} (L : Lv H x st) (h : PoolOk K p c H) : p ≠ x ∧ p ≠ st := by
  obtain ⟨⟨C, dx, wb, pl, mk, h1⟩, ss, h2⟩ := L
  obtain ⟨sa, ns, c', i, b, s, g1, g2, g3⟩ := h
  refine ⟨ne_of g2 h1 (by intro z; cases z), fun e => ?_⟩
  subst e
  rw [g2] at h2
  exact np_refs ss ⟨sa, c', i, b, s, (Option.some.inj h2).symm⟩
theorem PoolOk.kq {K : PySem.W.Frag} {H H' : Hp} {x st p : Addr} {c : Nat} (f : Kq x st H H') (L : Lv H x st) (h : PoolOk K p c H) : PoolOk K p c H' := by
  obtain ⟨n1, n2⟩ := L.ne_pool h
  obtain ⟨sa, ns, c', i, b, s, g1, g2, g3⟩ := h
  refine ⟨sa, ns, c', i, b, s, ?_, f _ _ n1 n2 g2, g3⟩
  rcases g1 with ⟨o, g1⟩ | g1
  · exact .inl ⟨o, f _ _ (L.ne_frz g1).1 (L.ne_frz g1).2 g1⟩
  · exact .inr g1
/-- one object is changed, another one too -/
theorem kq_upd {x st : Addr} {H H' : Hp} {o u : HO} (f : Same H H') : Kq x st H (upd (upd H' st o) x u) := fun b v h1 h2 e => by
  rw [upd_ne h1, upd_ne h2]
  exact f _ _ e
theorem kq_one {x st : Addr} {H H' : Hp} {u : HO} (f : Same H H') : Kq x st H (upd H' x u) := fun b v h1 h2 e => by
  rw [upd_ne h1]
  exact f _ _ e
/-! promises -/
def spChk2 (K : PySem.W.Frag) (C CB : Addr) : Sp := fun vs H Q E => ∃ (web mp : Addr) (rows : List (List Int)) (ms : List Int) (e o : Int), vs = [.ref web, .ref mp] ∧ WebAt C H web rows e o ∧ SqA K H mp (ms.map V.int) ∧ ms.length ≤ 100 ∧
  ((ms.length : Int) = e → Q .non H) ∧
  ((ms.length : Int) ≠ e → ∀ d H', H d = none → Same H H' → H' d = some (.xd [("count", .int ms.length)]) → E (.ref CB) (some d) H')
def spMark2 (K : PySem.W.Frag) (C CP CB : Addr) : Sp := fun vs H Q E => ∃ (web mp pu : Addr) (rows : List (List Int)) (ms R : List Int) (e o : Int), vs = [.ref web, .ref mp, .ref pu] ∧ WebAt C H web rows e o ∧ GoodW rows e o ∧ PupAt CP H pu R ∧ SqT K H mp (ms.map V.int) ∧ ms.length ≤ 100 ∧
  ((ms.length : Int) = e → ∀ H', Same H H' → Q (.int (mkP ms (WN rows R o))) H') ∧
  ((ms.length : Int) ≠ e → ∀ d H', H d = none → Same H H' → H' d = some (.xd [("count", .int ms.length)]) → E (.ref CB) (some d) H')
def spMkBy (K : PySem.W.Frag) (CS C CB : Addr) : Sp := fun vs H Q E => ∃ (x mq wb dx : Addr) (fs : List (Str × V)) (rows : List (List Int)) (ms : List Int) (e o : Int), vs = [.ref x, .ref mq] ∧ H x = some (.ins CS dx fs) ∧ fs.lookup ("web" : Str) = some (.ref wb) ∧ fs.length ≤ 10 ∧ WebAt C H wb rows e o ∧ SqA K H mq (ms.map V.int) ∧ ms.length ≤ 100 ∧
  ((ms.length : Int) = e → ∀ H' t, (∀ b u, b ≠ x → H b = some u → H' b = some u) → H' x = some (.ins CS dx (putF ("_marks" : Str) (.ref t) fs)) → SqT K H' t (ms.map V.int) → Q .non H') ∧
  ((ms.length : Int) ≠ e → ∀ d H', H d = none → Same H H' → H' d = some (.xd [("count", .int ms.length)]) → E (.ref CB) (some d) H')
def spSitInit (K : PySem.W.Frag) (CS C CB : Addr) : Sp := fun vs H Q E => ∃ (x mq wb dx : Addr) (rows : List (List Int)) (ms : List Int) (e o : Int), vs = [.ref x, .ref wb, .ref mq] ∧ H x = some (.ins CS dx []) ∧ WebAt C H wb rows e o ∧ SqA K H mq (ms.map V.int) ∧ ms.length ≤ 100 ∧
  ((ms.length : Int) = e → ∀ H' st mk, (∀ b u, b ≠ x → H b = some u → H' b = some u) → H st = none → SitAt CS H' x wb o st mk [] → SqT K H' mk (ms.map V.int) → Q .non H') ∧
  ((ms.length : Int) ≠ e → ∀ d H', H d = none → (∀ b u, b ≠ x → H b = some u → H' b = some u) → H' d = some (.xd [("count", .int ms.length)]) → E (.ref CB) (some d) H')
def spSitPos (CS : Addr) : Sp := fun vs H Q _ => ∃ (x dx wb st mk : Addr) (pl : Int), vs = [.ref x] ∧ H x = some (.ins CS dx (sitFs wb pl st mk)) ∧ Q (.int pl) H
def spSitMks (CS : Addr) : Sp := fun vs H Q _ => ∃ (x dx wb st mk : Addr) (pl : Int), vs = [.ref x] ∧ H x = some (.ins CS dx (sitFs wb pl st mk)) ∧ Q (.ref mk) H
def spSitQ (CS C : Addr) : Sp := fun vs H Q _ => ∃ (x wb st mk : Addr) (pl e o : Int) (ss : List Addr) (rows : List (List Int)), vs = [.ref x] ∧ SitAt CS H x wb pl st mk ss ∧ WebAt C H wb rows e o ∧ GoodW rows e o ∧ -e ≤ pl ∧ pl < rows.length ∧
  (0 ≤ pl → Q (.int (qP rows pl)) H) ∧ (pl < 0 → Q .non H)
def spSitMk (K : PySem.W.Frag) (CS : Addr) : Sp := fun vs H Q _ => ∃ (x wb st mk : Addr) (pl e : Int) (ss : List Addr) (ms : List Int), vs = [.ref x] ∧ SitAt CS H x wb pl st mk ss ∧ SqT K H mk (ms.map V.int) ∧ (ms.length : Int) = e ∧ -e ≤ pl ∧
  (0 ≤ pl → Q .non H) ∧ (pl < 0 → Q (.int (mkP ms (-1 - pl))) H)
def spSitRun (CS C : Addr) : Sp := fun vs H Q _ => ∃ (x wb st mk : Addr) (pl e o : Int) (ss : List Addr) (ps : List (Int × V)) (rows : List (List Int)), vs = [.ref x] ∧ SitAt CS H x wb pl st mk ss ∧ PrsAt H ss ps ∧ ss.length ≤ 1000 ∧ WebAt C H wb rows e o ∧ GoodW rows e o ∧ (∀ p ∈ ps, 0 ≤ p.1 ∧ p.1 < rows.length) ∧
  ∀ H' t ts, Same H H' → H' t = some (.tup (ts.map V.ref)) → PrsAt H' ts (ps.map fun p => (qP rows p.1, p.2)) → Q (.ref t) H'
def spSitNode (CS C CE : Addr) : Sp := fun vs H Q E => ∃ (x wb st mk : Addr) (pl e o : Int) (ss : List Addr) (rows : List (List Int)), vs = [.ref x] ∧ SitAt CS H x wb pl st mk ss ∧ WebAt C H wb rows e o ∧ GoodW rows e o ∧ -e ≤ pl ∧ pl < rows.length ∧
  (0 ≤ pl → ∀ t, H t = some (.tup ((rowP rows pl).map V.int)) → Q (.ref t) H) ∧ (pl < 0 → E (.ref CE) none H)
def spSitGo (CS : Addr) : Sp := fun vs H Q _ => ∃ (x wb st mk : Addr) (pl z : Int) (v : V) (ss : List Addr), vs = [.ref x, .int z, v] ∧ SitAt CS H x wb pl st mk ss ∧ ss.length ≤ 1000 ∧
  ∀ H' b, Kq x st H H' → SitAt CS H' x wb z st mk (ss ++ [b]) → H' b = some (.tup [.int pl, v]) → H b = none → Q .non H'
def b2 (r : Bool) : Int := if r then 1 else 0
def spSitAns (CS C CE : Addr) : Sp := fun vs H Q E => ∃ (x wb st mk : Addr) (pl e o : Int) (ss : List Addr) (rows : List (List Int)) (r : Bool), vs = [.ref x, .bl r] ∧ SitAt CS H x wb pl st mk ss ∧ ss.length ≤ 1000 ∧ WebAt C H wb rows e o ∧ GoodW rows e o ∧ -e ≤ pl ∧ pl < rows.length ∧
  (0 ≤ pl → ∀ H' b, Kq x st H H' → SitAt CS H' x wb (tRow (rowP rows pl) (b2 r)) st mk (ss ++ [b]) → H' b = some (.tup [.int pl, .int (b2 r)]) → H b = none → Q .non H') ∧ (pl < 0 → E (.ref CE) none H)
def spSitUndo (CS : Addr) : Sp := fun vs H Q _ => ∃ (x wb st mk : Addr) (pl : Int) (ss : List Addr) (ps : List (Int × V)), vs = [.ref x] ∧ SitAt CS H x wb pl st mk ss ∧ PrsAt H ss ps ∧
  (ps = [] → Q (.bl false) H) ∧ (∀ ss' b ps' z v, ss = ss' ++ [b] → ps = ps' ++ [(z, v)] → ∀ H', Kq x st H H' → SitAt CS H' x wb z st mk ss' → Q (.bl true) H')
end L2

namespace L2
open PySem PySem.Spec PyProof.Rows Gg
theorem three_at {x y z : V} {r : Int} (h0 : 0 ≤ r) (h1 : r < 3) : atI [x, y, z] r = some (if r = 0 then x else if r = 1 then y else z) := by
  obtain rfl | rfl | rfl : r = 0 ∨ r = 1 ∨ r = 2 := by omega
  · rfl
  · rfl
  · rfl
theorem eqD_ls {K : PySem.W.Frag} {H : Hp} {a b : Addr} {r1 r2 : List (List Int)} {Q : VK} (h1 : LsAt H a r1) (h2 : LsAt H b r2) (q : Q (.bl (decide (r1 = r2))) H) : rEqD K (.ref a) (.ref b) H Q := by
  obtain ⟨as, a1, a2⟩ := h1
  obtain ⟨bs, b1, b2⟩ := h2
  exact ⟨_, _, .lst (lst_of a1) (dpAll_rows a2), .lst (lst_of b1) (dpAll_rows b2), shLs r1, shLs r2, by rw [PyData.eqv, ev_rows]; exact q⟩
theorem eqD_ts {K : PySem.W.Frag} {H : Hp} {a b : Addr} {r1 r2 : List (List Int)} {Q : VK} (h1 : TsAt H a r1) (h2 : TsAt H b r2) (q : Q (.bl (decide (r1 = r2))) H) : rEqD K (.ref a) (.ref b) H Q := by
  obtain ⟨as, a1, a2⟩ := h1
  obtain ⟨bs, b1, b2⟩ := h2
  exact ⟨_, _, .tup (tup_of a1) (dpAll_rows a2), .tup (tup_of b1) (dpAll_rows b2), shR r1, shR r2, by rw [PyData.eqv, ev_rows]; exact q⟩
theorem eqD_int {K : PySem.W.Frag} {H : Hp} {i j : Int} {Q : VK} (q : Q (.bl (decide (i = j))) H) : rEqD K (.int i) (.int j) H Q :=
  ⟨_, _, .int _, .int _, rfl, rfl, by
    have : PyData.eqv (.int i) (.int j) = decide (i = j) := by
      unfold PyData.eqv
      by_cases h : i = j <;> simp [h]
    rw [this]
    exact q⟩
/-- t[:k] of a tuple of rows -/
theorem slA_to {K : PySem.W.Frag} {H : Hp} {a : Addr} {rows : List (List Int)} {k : Nat} {Q : VK} (h : TsAt H a rows) (q : ∀ H' p, Same H H' → TsAt H' p (rows.take k) → Q (.ref p) H') : rSlA K (.ref a) none (some (k : Int)) H Q := by
  obtain ⟨as, h1, h2⟩ := h
  refine ⟨a, _, rfl, tup_of h1, fun e => ?_, fun _ p np => ?_⟩
  · have e := e.2
    rw [HT.sIx_nat] at e
    refine q H a (Same.refl _) ⟨as, h1, ?_⟩
    rw [List.length_map, h2.1] at e
    rw [List.take_of_length_le (by omega)]
    exact h2
  · rw [cut_to]
    exact q _ p (same_upd np) ⟨as.take k, upd_same, (h2.take k).same (same_upd np)⟩
/-- what a step leaves in a sitting -/
def stP (row : List Int) : Int × V := ((row[0]?).getD 0, .int ((row[2]?).getD 0))
theorem b2_aP {rows : List (List Int)} {R : List Int} {p : Int} : b2 (decide (qP rows p ∈ norm R)) = aP rows R p := by
  unfold b2 aP
  by_cases h : qP rows p ∈ norm R
  · rw [if_pos h, decide_eq_true h]; rfl
  · rw [if_neg h, decide_eq_false h]; rfl
theorem WK_mem {rows : List (List Int)} {R : List Int} {e o p : Int} (G : GoodW rows e o) (p0 : -e ≤ p) (p1 : p < rows.length) {row : List Int} (h : row ∈ WK rows R p) : ∃ z : Int, 0 ≤ z ∧ z < rows.length ∧ row = itP rows R z := by
  obtain ⟨k, hk, e⟩ := List.getElem_of_mem h
  obtain ⟨z, z0, z1, hz, _⟩ := WK_at G k p p0 p1 row (by rw [List.getElem?_eq_getElem hk, e])
  exact ⟨z, z0, z1, hz⟩
/-- the steps of a walk as a run -/
theorem run_rows {rows : List (List Int)} {R : List Int} {e o p : Int} (G : GoodW rows e o) (p0 : -e ≤ p) (p1 : p < rows.length) {H : Hp} {ts : List Addr} {l : List (List Int)} (hl : ∀ row ∈ l, row ∈ WK rows R p)
    (h : PrsAt H ts ((l.map stP).map fun p => (qP rows p.1, p.2))) : RowsAt H ts (l.map List.tail) := by
  have e1 : (l.map stP).map (fun p => (qP rows p.1, p.2)) = l.map fun row => ((fun row : List Int => (row[1]?).getD 0) row, V.int ((fun row : List Int => (row[2]?).getD 0) row)) := by
    rw [List.map_map]
    refine List.map_congr_left fun row hr => ?_
    obtain ⟨z, _, _, rfl⟩ := WK_mem G p0 p1 (hl row hr)
    rfl
  rw [e1] at h
  have := h.rows
  have e2 : (l.map fun row : List Int => [(row[1]?).getD 0, (row[2]?).getD 0]) = l.map List.tail := by
    refine List.map_congr_left fun row hr => ?_
    obtain ⟨z, _, _, rfl⟩ := WK_mem G p0 p1 (hl row hr)
    rfl
  rw [e2] at this
  exact this
theorem st_in {rows : List (List Int)} {R : List Int} {e o p : Int} (G : GoodW rows e o) (p0 : -e ≤ p) (p1 : p < rows.length) {l : List (List Int)} (hl : ∀ row ∈ l, row ∈ WK rows R p) : ∀ q ∈ l.map stP, 0 ≤ q.1 ∧ q.1 < rows.length := fun q hq => by
  obtain ⟨row, hr, rfl⟩ := List.mem_map.mp hq
  obtain ⟨z, z0, z1, rfl⟩ := WK_mem G p0 p1 (hl row hr)
  exact ⟨z0, z1⟩
theorem sit_make {K : PySem.W.Frag} {CS C CB : Addr} {H : Hp} {wb mq : Addr} {rows : List (List Int)} {ms : List Int} {e o : Int} {R : Addr → Hp → Prop} {E : XK} (hw : WebAt C H wb rows e o) (hm : SqA K H mq (ms.map V.int)) (hl : ms.length ≤ 100) (he : (ms.length : Int) = e)
    (k : ∀ H' x st mk, Same H H' → H x = none → H st = none → SitAt CS H' x wb o st mk [] → SqT K H' mk (ms.map V.int) → R x H') :
    ∀ x dx, H x = none → H dx = none → dx ≠ x → spSitInit K CS C CB [.ref x, .ref wb, .ref mq] (upd (upd H dx (.own x)) x (.ins CS dx [])) (fun v H2 => v = .non ∧ R x H2) E := fun x dx nx ndx ne => by
  have hx2 : upd H dx (.own x) x = none := by rw [upd_ne ne.symm]; exact nx
  have s := (same_upd ndx (o := .own x)).trans (same_upd hx2 (o := .ins CS dx []))
  refine ⟨x, mq, wb, dx, rows, ms, e, o, rfl, upd_same, hw.same s, hm.same s, hl, fun _ H' st mk f nst hs ht => ⟨rfl, k H' x st mk (fun b u e => f b u (ne_of_none e nx) (s b u e)) nx ?_ hs ht⟩, fun h => absurd he h⟩
  cases q : H st with
  | none => rfl
  | some u =>
    have := s st u q
    rw [nst] at this
    cases this
theorem tRow_ok {rows : List (List Int)} {e o p : Int} (G : GoodW rows e o) (p0 : 0 ≤ p) (p1 : p < rows.length) (z : Int) : -e ≤ tRow (rowP rows p) z ∧ tRow (rowP rows p) z < rows.length := by
  obtain ⟨q, t1, t2, r, hr, _, _, _, h1, h2⟩ := row3 G p0 p1
  unfold tRow
  rw [hr]
  split
  · exact ⟨h1.1, h1.2.1⟩
  · exact ⟨h2.1, h2.2.1⟩
theorem iteT' {α : Type} [DecidableEq α] {x y : α} (h : x = y) {A B : Prop} (b : A) : if decide (x = y) = true then A else B := by
  rw [decide_eq_true h]
  exact iteT b
/-! promises of the law k76 -/
def spMarksT (K : PySem.W.Frag) : Sp := fun vs H Q _ => ∃ (p : Addr) (c : Nat) (e : Int), vs = [.ref p, .int e] ∧ PoolOk K p c H ∧ c + 200 < LIM ∧ 1 ≤ e ∧ e ≤ 60 ∧
  ∀ (H' : Hp) (t : Addr) (ms : List Int), Gd H H' → PoolOk K p (c + 100) H' → H' t = some (.tup (ms.map V.int)) → (ms.length : Int) = e → Q (.ref t) H'
def spCaseS (K : PySem.W.Frag) (N E : Nat) : Sp := fun vs H Q _ => ∃ (p : Addr) (c : Nat), vs = [.ref p, .int (N : Int)] ∧ PoolOk K p c H ∧ c + 3000 < LIM ∧
  ∀ (H' : Hp) (t q mk : Addr) (as : List Addr) (rows : List (List Int)) (e o : Int) (ms : List Int), Gd H H' → PoolOk K p (c + 1500) H' → H' t = some (.tup [.ref q, .int e, .int o, .ref mk]) → H' q = some (.lst (as.map V.ref)) → RowsAt H' as rows → GoodW rows e o → rows.length < N → e ≤ E → H' mk = some (.tup (ms.map V.int)) → (ms.length : Int) = e → Q (.ref t) H'
def spDetour (K : PySem.W.Frag) (CS C : Addr) : Sp := fun vs H Q _ => ∃ (p x wb st mk : Addr) (c : Nat) (pl e o : Int) (ss : List Addr) (ps : List (Int × V)) (rows : List (List Int)), vs = [.ref p, .ref x] ∧ PoolOk K p c H ∧ c + 100 < LIM ∧ SitAt CS H x wb pl st mk ss ∧ ss.length ≤ 500 ∧ PrsAt H ss ps ∧ WebAt C H wb rows e o ∧ GoodW rows e o ∧ -e ≤ pl ∧ pl < rows.length ∧
  ∀ H' : Hp, Kp x st H H' → PoolOk K p (c + 10) H' → SitAt CS H' x wb pl st mk ss → PrsAt H' ss ps → Q (.bl true) H'
def spLed76 (K : PySem.W.Frag) (CS C CP : Addr) : Sp := fun vs H Q _ => ∃ (p x pu tp rt wb st mk : Addr) (c : Nat) (e o : Int) (rows : List (List Int)) (R ms : List Int), vs = [.ref p, .ref x, .ref pu, .ref tp, .ref rt] ∧ PoolOk K p c H ∧ c + 5000 < LIM ∧ SitAt CS H x wb o st mk [] ∧ WebAt C H wb rows e o ∧ GoodW rows e o ∧ PupAt CP H pu R ∧
  LsAt H tp (WK rows R o) ∧ tp ≠ st ∧ TsAt H rt ((WK rows R o).map List.tail) ∧ SqT K H mk (ms.map V.int) ∧ (ms.length : Int) = e ∧
  ∀ (H' : Hp) (ss : List Addr), Kp x st H H' → PoolOk K p (c + 4500) H' → SitAt CS H' x wb (-1 - WN rows R o) st mk ss → PrsAt H' ss ((WK rows R o).map stP) → Q (.bl true) H'
end L2

namespace L2
open PySem PySem.Spec PyProof.Rows Gg
/-! ## the marks that are left -/
def PupsAt (C : Addr) (H : Hp) (as : List Addr) (ls : List (List Int)) : Prop := as.length = ls.length ∧ ∀ (i : Nat) a l, as[i]? = some a → ls[i]? = some l → PupAt C H a l
theorem PupsAt.same {C : Addr} {H H' : Hp} {as : List Addr} {ls : List (List Int)} (f : Same H H') (h : PupsAt C H as ls) : PupsAt C H' as ls := ⟨h.1, fun i a l e1 e2 => (h.2 i a l e1 e2).same f⟩
theorem PupsAt.gd {C : Addr} {H H' : Hp} {as : List Addr} {ls : List (List Int)} (f : Gd H H') (h : PupsAt C H as ls) : PupsAt C H' as ls := ⟨h.1, fun i a l e1 e2 => (h.2 i a l e1 e2).gd f⟩
theorem PupsAt.kp {C x st : Addr} {H H' : Hp} {as : List Addr} {ls : List (List Int)} (f : Kp x st H H') (L : Lv H x st) (h : PupsAt C H as ls) : PupsAt C H' as ls := ⟨h.1, fun i a l e1 e2 => (h.2 i a l e1 e2).kp f L⟩
theorem PupsAt.mut {C : Addr} {H : Hp} {q : Addr} {zs : List V} {o : HO} {as : List Addr} {ls : List (List Int)} (hq : H q = some (.lst zs)) (h : PupsAt C H as ls) : PupsAt C (upd H q o) as ls := ⟨h.1, fun i a l e1 e2 => (h.2 i a l e1 e2).mut hq⟩
theorem PupsAt.nil {C : Addr} {H : Hp} : PupsAt C H [] [] := ⟨rfl, fun i a l h _ => by simp at h⟩
theorem PupsAt.snoc {C : Addr} {H : Hp} {as : List Addr} {ls : List (List Int)} {a : Addr} {l : List Int} (h : PupsAt C H as ls) (ha : PupAt C H a l) : PupsAt C H (as ++ [a]) (ls ++ [l]) := by
  refine ⟨by rw [List.length_append, List.length_append, h.1]; rfl, fun i b q e1 e2 => ?_⟩
  rcases Nat.lt_or_ge i as.length with hi | hi
  · rw [List.getElem?_append_left hi] at e1
    rw [List.getElem?_append_left (by rw [← h.1]; exact hi)] at e2
    exact h.2 i b q e1 e2
  · rw [List.getElem?_append_right hi] at e1
    rw [List.getElem?_append_right (by rw [← h.1]; exact hi)] at e2
    rw [← h.1] at e2
    rcases hk : i - as.length with _ | k
    · rw [hk] at e1 e2
      cases e1
      cases e2
      exact ha
    · rw [hk] at e1
      simp at e1
/-- a mark that can still come -/
def LeftM (rows : List (List Int)) (ms : List Int) (z y : Int) : Prop := ∃ k, 0 ≤ k ∧ Led rows z (-1 - k) ∧ y = mkP ms k
theorem left_subs {rows : List (List Int)} {l ms : List Int} {e o z : Int} (G : GoodW rows e o) (hl : ∀ row ∈ rows, ∃ q r, row = q :: r ∧ q ∈ l) (z0 : -e ≤ z) (z1 : z < rows.length) (y : Int) : LeftM rows ms z y ↔ ∃ R ∈ subsW l, y = mkP ms (WN rows R z) := by
  constructor
  · rintro ⟨k, k0, hk, rfl⟩
    obtain ⟨R, hR, hv⟩ := (vis_subs G hl z0 z1).mp hk
    rcases hv with ⟨h1, _⟩ | ⟨h1, h2⟩
    · omega
    · exact ⟨R, hR, by rw [show k = WN rows R z by omega]⟩
  · rintro ⟨R, hR, rfl⟩
    obtain ⟨w0, w1⟩ := WN_ok (R := R) G z0 z1
    exact ⟨_, w0, (vis_subs G hl z0 z1).mpr ⟨R, hR, .inr ⟨by omega, by omega⟩⟩, rfl⟩
theorem Led.head {rows : List (List Int)} {i t q a b : Int} {r : List Int} (i0 : 0 ≤ i) (h : rows[i.toNat]? = some (q :: a :: b :: r)) (ht : t = a ∨ t = b) {j : Int} (hj : Led rows t j) : Led rows i j := by
  induction hj with
  | refl => exact .step .refl i0 h ht
  | step _ h1 h2 h3 ih => exact .step ih h1 h2 h3
theorem LeftM.step {rows : List (List Int)} {ms : List Int} {e o z : Int} (G : GoodW rows e o) (z0 : 0 ≤ z) (z1 : z < rows.length) (x y : Int) (h : LeftM rows ms (tRow (rowP rows z) x) y) : LeftM rows ms z y := by
  obtain ⟨k, k0, hk, rfl⟩ := h
  obtain ⟨q, t1, t2, r, hr, hrw, _, _, _, _⟩ := row3 G z0 z1
  rw [hr] at hrw
  refine ⟨k, k0, Led.head z0 hrw ?_ hk, rfl⟩
  unfold tRow
  rw [hr]
  split
  · exact .inl rfl
  · exact .inr rfl
theorem LeftM.neg {rows : List (List Int)} {ms : List Int} {z y : Int} (z0 : z < 0) : LeftM rows ms z y ↔ y = mkP ms (-1 - z) := by
  constructor
  · rintro ⟨k, k0, hk, rfl⟩
    have : -1 - k = z := hk.sub (S := fun j => j = z) rfl fun j q a b r hj j0 _ => by omega
    rw [show k = -1 - z by omega]
  · rintro rfl
    exact ⟨-1 - z, by omega, by rw [show -1 - (-1 - z) = z by omega]; exact .refl, rfl⟩
/-- an ascending list, one more put where it belongs -/
theorem ins_sorted {L : List Int} {m : Int} {n : Nat} (hs : L.Pairwise (· < ·)) (hm : m ∉ L) (hn : n = (L.filter fun x => decide (x < m)).length) : (L.take n ++ [m] ++ L.drop n).Pairwise (· < ·) ∧ ∀ x, x ∈ L.take n ++ [m] ++ L.drop n ↔ x ∈ L ∨ x = m := by
  have hf : L.filter (fun x => decide (x < m)) = L.take n ∧ (∀ x ∈ L.take n, x < m) ∧ ∀ x ∈ L.drop n, m < x := by
    subst hn
    induction L with
    | nil => exact ⟨rfl, fun x h => by simp at h, fun x h => by simp at h⟩
    | cons a r ih =>
      obtain ⟨ha, hr⟩ := List.pairwise_cons.mp hs
      by_cases h : a < m
      · have e : (a :: r).filter (fun x => decide (x < m)) = a :: r.filter (fun x => decide (x < m)) := by rw [List.filter_cons, if_pos (decide_eq_true h)]
        obtain ⟨i1, i2, i3⟩ := ih hr (fun z => hm (List.mem_cons_of_mem _ z))
        rw [e, List.length_cons, List.take_succ_cons, List.drop_succ_cons]
        refine ⟨by rw [← i1], fun x hx => ?_, i3⟩
        rcases List.mem_cons.mp hx with rfl | hx
        · exact h
        · exact i2 x hx
      · have hma : m < a := by
          have : a ≠ m := fun z => hm (by rw [z]; exact List.mem_cons_self)
          omega
        have e : (a :: r).filter (fun x => decide (x < m)) = [] := by
          rw [List.filter_eq_nil_iff]
          intro x hx
          rw [decide_eq_true_eq]
          rcases List.mem_cons.mp hx with rfl | hx
          · exact h
          · have := ha x hx
            omega
        rw [e]
        refine ⟨rfl, fun x h => by simp at h, fun x hx => ?_⟩
        rcases List.mem_cons.mp hx with rfl | hx
        · exact hma
        · have := ha x hx
          omega
  obtain ⟨_, h1, h2⟩ := hf
  constructor
  · rw [List.append_assoc, List.pairwise_append]
    refine ⟨hs.sublist (List.take_sublist _ _), ?_, fun a ha b hb => ?_⟩
    · rw [List.singleton_append, List.pairwise_cons]
      exact ⟨h2, hs.sublist (List.drop_sublist _ _)⟩
    · rw [List.singleton_append] at hb
      have a1 := h1 a ha
      rcases List.mem_cons.mp hb with rfl | hb
      · exact a1
      · have := h2 b hb
        omega
  · intro x
    rw [List.mem_append, List.mem_append, List.mem_singleton]
    have : x ∈ L ↔ x ∈ L.take n ∨ x ∈ L.drop n := by rw [← List.mem_append, List.take_append_drop]
    rw [this]
    constructor
    · rintro ((h | h) | h)
      · exact .inl (.inl h)
      · exact .inr h
      · exact .inl (.inr h)
    · rintro ((h | h) | h)
      · exact .inl (.inl h)
      · exact .inr h
      · exact .inl (.inr h)
theorem skip_ok {rows : List (List Int)} {e o p : Int} (G : GoodW rows e o) (p0 : 0 ≤ p) (p1 : p < rows.length) (h4 : (rowP rows p).length = 4) : -e ≤ ((rowP rows p)[3]?).getD 0 ∧ ((rowP rows p)[3]?).getD 0 < (rows.length : Int) := by
  obtain ⟨_, _, _, _, _, hrw, _⟩ := row3 G p0 p1
  obtain ⟨q, r, hq, _, _, _, ht⟩ := G.row _ _ hrw
  rw [hq] at h4
  rw [hq]
  obtain ⟨x, y, z, rfl⟩ : ∃ x y z, r = [x, y, z] := by
    rcases r with _ | ⟨x, _ | ⟨y, _ | ⟨z, _ | ⟨u, r⟩⟩⟩⟩ <;> simp at h4
    exact ⟨x, y, z, rfl⟩
  have := ht z (by simp)
  exact ⟨this.1, this.2.1⟩
/-! promises -/
def spSitSkip (CS C CE CK : Addr) : Sp := fun vs H Q E => ∃ (x wb st mk : Addr) (pl e o : Int) (ss : List Addr) (rows : List (List Int)), vs = [.ref x] ∧ SitAt CS H x wb pl st mk ss ∧ ss.length ≤ 1000 ∧ WebAt C H wb rows e o ∧ GoodW rows e o ∧ -e ≤ pl ∧ pl < rows.length ∧
  (0 ≤ pl → 4 ≤ (rowP rows pl).length → ∀ H' b, Kq x st H H' → SitAt CS H' x wb (((rowP rows pl)[3]?).getD 0) st mk (ss ++ [b]) → H' b = some (.tup [.int pl, .non]) → H b = none → Q .non H') ∧
  (0 ≤ pl → (rowP rows pl).length < 4 → ∀ d H', H d = none → Same H H' → H' d = some (.xd [("index", .int pl)]) → E (.ref CK) (some d) H') ∧
  (pl < 0 → E (.ref CE) none H)
def spLeft (K : PySem.W.Frag) (CS C : Addr) : Sp := fun vs H Q _ => ∃ (x wb st mk : Addr) (pl e o : Int) (ss : List Addr) (rows : List (List Int)) (ms : List Int), vs = [.ref x] ∧ SitAt CS H x wb pl st mk ss ∧ WebAt C H wb rows e o ∧ GoodW rows e o ∧ rows.length ≤ 40 ∧ -e ≤ pl ∧ pl < rows.length ∧ SqT K H mk (ms.map V.int) ∧ (ms.length : Int) = e ∧ e ≤ 40 ∧
  ∀ (H' : Hp) (t : Addr) (L : List Int), Same H H' → H' t = some (.tup (L.map V.int)) → L.Pairwise (· < ·) → (∀ y, y ∈ L ↔ LeftM rows ms pl y) → Q (.ref t) H'
def spPupO (C : Addr) : Sp := fun vs H Q _ => ∃ (q : Addr) (l : List Int), vs = [.ref q] ∧ H q = some (.lst (l.map V.int)) ∧ l.length ≤ 8 ∧ Qn l ∧
  ∀ (H' : Hp) (D : Addr) (as : List Addr), Same H H' → H D = none → H' D = some (.lst (as.map V.ref)) → PupsAt C H' as (subsW l) → Q (.ref D) H'
def spDue77 (C CP : Addr) : Sp := fun vs H Q _ => ∃ (wb mq pq : Addr) (z e o : Int) (as : List Addr) (rows : List (List Int)) (ms l : List Int), vs = [.ref wb, .ref mq, .int z, .ref pq] ∧ WebAt C H wb rows e o ∧ GoodW rows e o ∧ -e ≤ z ∧ z < rows.length ∧ H mq = some (.lst (ms.map V.int)) ∧ (ms.length : Int) = e ∧ H pq = some (.lst (as.map V.ref)) ∧ PupsAt CP H as (subsW l) ∧ l.length ≤ 8 ∧
  ∀ (H' : Hp) (t : Addr) (L : List Int), Same H H' → H' t = some (.tup (L.map V.int)) → L.Pairwise (· < ·) → (∀ y, y ∈ L ↔ ∃ R ∈ subsW l, y = mkP ms (WN rows R z)) → Q (.ref t) H'
def spSomeM (K : PySem.W.Frag) : Sp := fun vs H Q _ => ∃ (p : Addr) (c : Nat) (e : Int), vs = [.ref p, .int e] ∧ PoolOk K p c H ∧ c + 300 < LIM ∧ 1 ≤ e ∧ e ≤ 60 ∧
  ∀ (H' : Hp) (D : Addr) (ms : List Int), H D = none → Gd H H' → PoolOk K p (c + 200) H' → H' D = some (.lst (ms.map V.int)) → (ms.length : Int) = e → Q (.ref D) H'
def StepsIn (rows : List (List Int)) (ps : List (Int × V)) : Prop := ∀ q ∈ ps, 0 ≤ q.1 ∧ q.1 < rows.length
def spDeed77 (K : PySem.W.Frag) (CS C : Addr) : Sp := fun vs H Q _ => ∃ (p x wb st mk : Addr) (c : Nat) (pl e o : Int) (ss : List Addr) (ps : List (Int × V)) (rows : List (List Int)) (ms : List Int), vs = [.ref p, .ref x, .ref wb, .int e] ∧ PoolOk K p c H ∧ c + 500 < LIM ∧ SitAt CS H x wb pl st mk ss ∧ PrsAt H ss ps ∧ StepsIn rows ps ∧ ss.length ≤ 500 ∧ WebAt C H wb rows e o ∧ GoodW rows e o ∧ -e ≤ pl ∧ pl < rows.length ∧ SqT K H mk (ms.map V.int) ∧ (ms.length : Int) = e ∧
  ∀ (H' : Hp) (tl mk' : Addr) (w : Str) (v : V) (pl' : Int) (ss' : List Addr) (ps' : List (Int × V)) (ns : List Int), Kp x st H H' → PoolOk K p (c + 300) H' → SitAt CS H' x wb pl' st mk' ss' → PrsAt H' ss' ps' → StepsIn rows ps' → ss'.length ≤ ss.length + 1 → -e ≤ pl' → pl' < rows.length → SqT K H' mk' (ns.map V.int) → (ns.length : Int) = e → H' tl = some (.lst [.str w, v]) →
    ((w = "marks" ∧ ∃ mq, v = .ref mq ∧ H' mq = some (.lst (ns.map V.int)) ∧ H mq = none) ∨ (w = "answer" ∧ ns = ms ∧ ∀ y, LeftM rows ms pl' y → LeftM rows ms pl y) ∨ ((w = "undo" ∨ w = "none" ∨ w = "skip") ∧ ns = ms)) → Q (.ref tl) H'
end L2

namespace L2
open PySem PySem.Spec PyProof.Rows
/-! ratios with a bottom of any sign, and ZeroBottom raised -/
def spRInitX (C Z : Addr) : Sp := fun vs H Q E => ∃ (x dx : Addr) (p q : Int), vs = [.ref x, .int p, .int q] ∧ H x = some (.ins C dx []) ∧ Sz 900 q ∧
  (q ≠ 0 → ∀ H' t b, RatAt C H' x t b → (∀ c u, c ≠ x → H c = some u → H' c = some u) → IsR t b p q → t.natAbs ≤ p.natAbs → b.natAbs ≤ q.natAbs → Q .non H') ∧ (q = 0 → E (.ref Z) none H)
theorem mkRX {C Z : Addr} {H : Hp} {p q : Int} {R : VK} {E : XK} {x dx : Addr} (nx : H x = none) (nd : H dx = none) (ndx : dx ≠ x) (sq : Sz 900 q) (h0 : q = 0 → ∀ H', Same H H' → E (.ref Z) none H') (h : q ≠ 0 → ∀ H' t b, Same H H' → RatAt C H' x t b → IsR t b p q → t.natAbs ≤ p.natAbs → b.natAbs ≤ q.natAbs → R .non H') :
    spRInitX C Z [.ref x, .int p, .int q] (upd (upd H dx (.own x)) x (.ins C dx [])) R E := by
  have hx2 : upd H dx (.own x) x = none := by rw [upd_ne (fun z => ndx z.symm)]; exact nx
  have s := (same_upd nd (o := .own x)).trans (same_upd hx2 (o := .ins C dx []))
  exact ⟨x, dx, p, q, rfl, upd_same, sq, fun hq H' t b hr kk hi l1 l2 => h hq H' t b (fun c u hc => kk c u (ne_of_none hc nx) (s c u hc)) hr hi l1 l2, fun z => h0 z _ s⟩
theorem mkR1 {C Z : Addr} {H : Hp} {p q : Int} {R : VK} {E : XK} {x dx : Addr} (nx : H x = none) (nd : H dx = none) (ndx : dx ≠ x) (hq : q ≠ 0) (sq : Sz 900 q) (h : ∀ H' t b, Same H H' → RatAt C H' x t b → IsR t b p q → t.natAbs ≤ p.natAbs → b.natAbs ≤ q.natAbs → R .non H') :
    spRInitX C Z [.ref x, .int p, .int q] (upd (upd H dx (.own x)) x (.ins C dx [])) R E := mkRX nx nd ndx sq (fun z => absurd z hq) fun _ => h
def spRMul (C : Addr) : Sp := fun vs H Q _ => ∃ (x : Addr) (y : V) (t1 b1 t2 b2 : Int), vs = [.ref x, y] ∧ RatAt C H x t1 b1 ∧ RV C H y t2 b2 ∧ 0 < b1 ∧ 0 < b2 ∧ Sz 400 t1 ∧ Sz 400 b1 ∧ Sz 400 t2 ∧ Sz 400 b2 ∧ spRNew C H (t1 * t2) (b1 * b2) Q
def spROver (C Z : Addr) : Sp := fun vs H Q E => ∃ (x : Addr) (y : V) (t1 b1 t2 b2 : Int), vs = [.ref x, y] ∧ RatAt C H x t1 b1 ∧ RV C H y t2 b2 ∧ 0 < b1 ∧ 0 < b2 ∧ Sz 400 t1 ∧ Sz 400 b1 ∧ Sz 400 t2 ∧ Sz 400 b2 ∧ (t2 ≠ 0 → spRNew C H (t1 * b2) (b1 * t2) Q) ∧ (t2 = 0 → ∀ H', Same H H' → E (.ref Z) none H')
def spRI (C : Addr) (f : Int → Int → Int → Int) : Sp := fun vs H Q _ => ∃ (x : Addr) (t1 b1 i : Int), vs = [.ref x, .int i] ∧ RatAt C H x t1 b1 ∧ Nrm t1 b1 ∧ Sz 400 t1 ∧ Sz 400 b1 ∧ Sz 400 i ∧ spRNew C H (f t1 b1 i) (b1 * 1) Q
def spDv : Sp := fun vs H Q _ => ∃ i j : Int, vs = [.int i, .int j] ∧ Sz 900 i ∧ Sz 900 j ∧ ∀ H', Same H H' → Q (.int (Nat.gcd i.natAbs j.natAbs : Nat)) H'
def spIsR (C : Addr) : Sp := fun vs H Q _ => ∃ (x : Addr) (t b p q : Int), vs = [.ref x, .int p, .int q] ∧ RatAt C H x t b ∧ IsR t b p q ∧ Sz 400 t ∧ Sz 400 b ∧ Sz 400 p ∧ Sz 400 q ∧ ∀ H', Same H H' → Q (.bl true) H'
theorem isR_to {t b P Q P' Q' : Int} (h : IsR t b P Q) (hQ : Q ≠ 0) (e : P * Q' = P' * Q) : IsR t b P' Q' := by
  refine ⟨h.1, Int.eq_of_mul_eq_mul_right hQ ?_⟩
  have := h.2
  grind
theorem isR_self {t b : Int} (h : Nrm t b) : IsR t b t b := ⟨h, rfl⟩
/-- one round of the divisor's loop -/
def Dv (g : Nat) (i : Nat) (m n : Nat) : Prop := Nat.gcd m n = g ∧ ((i = 0 ∧ m < 2 ^ 900 ∧ n < 2 ^ 900) ∨ (0 < i ∧ n < m ∧ 2 ^ (i - 1) * (m * n) < 2 ^ 1800))
theorem Dv.step {g i m n : Nat} (h : Dv g i m n) (hn : n ≠ 0) : Dv g (i + 1) n (m % n) := by
  obtain ⟨hg, h⟩ := h
  have r := Nat.mod_lt m (Nat.pos_of_ne_zero hn)
  have r2 := Nat.mod_le m n
  refine ⟨by rw [← hg, Nat.gcd_comm m n, Nat.gcd_rec n m, Nat.gcd_comm], .inr ⟨Nat.succ_pos _, r, ?_⟩⟩
  rw [Nat.add_sub_cancel]
  rcases h with ⟨rfl, h1, h2⟩ | ⟨hi, h1, h2⟩
  · rw [Nat.pow_zero, Nat.one_mul, show (1800 : Nat) = 900 + 900 from rfl, Nat.pow_add]
    exact Nat.mul_lt_mul'' h2 (Nat.lt_trans r h2)
  · refine Nat.lt_of_le_of_lt ?_ h2
    have e : 2 ^ i = 2 ^ (i - 1) * 2 := by rw [← Nat.pow_succ]; congr 1; omega
    rw [e, Nat.mul_assoc]
    refine Nat.mul_le_mul_left _ ?_
    have d := Nat.div_add_mod m n
    have q1 : 1 ≤ m / n := (Nat.one_le_div_iff (Nat.pos_of_ne_zero hn)).mpr (Nat.le_of_lt h1)
    have : n * 1 ≤ n * (m / n) := Nat.mul_le_mul_left _ q1
    have : 2 * (m % n) ≤ m := by omega
    calc 2 * (n * (m % n)) = n * (2 * (m % n)) := by rw [Nat.mul_left_comm]
      _ ≤ n * m := Nat.mul_le_mul_left _ this
      _ = m * n := Nat.mul_comm _ _
theorem Dv.last {g m n : Nat} (h : Dv g 2000 m n) : n = 0 := by
  obtain ⟨_, h⟩ := h
  rcases h with ⟨h, _⟩ | ⟨_, h1, h2⟩
  · cases h
  · refine Nat.eq_zero_of_not_pos fun hn => ?_
    have h3 : 1 ≤ m * n := Nat.mul_pos (Nat.lt_trans hn h1) hn
    have h4 : 2 ^ (2000 - 1) * 1 ≤ 2 ^ (2000 - 1) * (m * n) := Nat.mul_le_mul_left _ h3
    have h5 : (2 : Nat) ^ 1800 ≤ 2 ^ (2000 - 1) := Nat.pow_le_pow_right (by decide) (by decide)
    omega
theorem isR_le {t b p q : Int} (h : IsR t b p q) (hq : q ≠ 0) : t.natAbs ≤ p.natAbs ∧ b.natAbs ≤ q.natAbs := by
  obtain ⟨⟨b0, hg⟩, e⟩ := h
  have e2 := congrArg Int.natAbs e
  rw [Int.natAbs_mul, Int.natAbs_mul] at e2
  have q0 : 0 < q.natAbs := by omega
  have d1 : b.natAbs ∣ q.natAbs := by
    have : b.natAbs ∣ t.natAbs * q.natAbs := by rw [e2]; exact Nat.dvd_mul_left _ _
    exact (Nat.Coprime.symm (show Nat.Coprime t.natAbs b.natAbs from hg)).dvd_of_dvd_mul_left this
  have d2 : t.natAbs ∣ p.natAbs := by
    have : t.natAbs ∣ p.natAbs * b.natAbs := by rw [← e2]; exact Nat.dvd_mul_right _ _
    exact (show Nat.Coprime t.natAbs b.natAbs from hg).dvd_of_dvd_mul_right this
  refine ⟨?_, Nat.le_of_dvd q0 d1⟩
  by_cases hp : p.natAbs = 0
  · rw [hp, Nat.zero_mul] at e2
    rcases Nat.mul_eq_zero.mp e2 with h | h <;> omega
  · exact Nat.le_of_dvd (by omega) d2
/-- a fraction in the heap that is p / q, both of at most n bits -/
def Rn (n : Nat) (C : Addr) (H : Hp) (x : Addr) (p q : Int) : Prop := ∃ t b, RatAt C H x t b ∧ IsR t b p q ∧ q ≠ 0 ∧ Sz n p ∧ Sz n q
theorem Rn.same {n : Nat} {C : Addr} {H H' : Hp} {x : Addr} {p q : Int} (h : Rn n C H x p q) (e : Same H H') : Rn n C H' x p q := let ⟨t, b, h1, h2⟩ := h; ⟨t, b, h1.same e, h2⟩
theorem Rn.mono {n m : Nat} {C : Addr} {H : Hp} {x : Addr} {p q : Int} (h : Rn n C H x p q) (e : n ≤ m) : Rn m C H x p q := let ⟨t, b, h1, h2, h3, h4, h5⟩ := h; ⟨t, b, h1, h2, h3, h4.mono e, h5.mono e⟩
/-- all but one list stays -/
def Fp (p : Addr) (H H' : Hp) : Prop := ∀ c u, c ≠ p → H c = some u → H' c = some u
theorem Same.fp {p : Addr} {H H' : Hp} (h : Same H H') : Fp p H H' := fun c u _ hc => h c u hc
theorem Fp.trans {p : Addr} {H H1 H2 : Hp} (a : Fp p H H1) (b : Fp p H1 H2) : Fp p H H2 := fun c u n h => b c u n (a c u n h)
theorem RatAt.fp {C p x : Addr} {H H' : Hp} {t b : Int} {xs : List V} (h : RatAt C H x t b) (f : Fp p H H') (hp : H p = some (.lst xs)) : RatAt C H' x t b := let ⟨dx, e⟩ := h; ⟨dx, f _ _ (fun z => by subst z; rw [e] at hp; cases hp) e⟩
theorem Rn.fp {n : Nat} {C p x : Addr} {H H' : Hp} {u v : Int} {xs : List V} (h : Rn n C H x u v) (f : Fp p H H') (hp : H p = some (.lst xs)) : Rn n C H' x u v := let ⟨t, b, h1, h2⟩ := h; ⟨t, b, h1.fp f hp, h2⟩
/-! what a step and its way back come to -/
theorem bk0 {t1 b1 t2 b2 ts bs p q : Int} (h : b1 ≠ 0) (e : ts * (b1 * b2) = (t1 * b2 + t2 * b1) * bs) (f : t1 * q = p * b1) : (ts * b2 + -t2 * bs) * q = p * (bs * b2) := Int.eq_of_mul_eq_mul_left h (by grind)
theorem bk1 {t1 b1 t2 b2 td bd p q : Int} (h : b1 ≠ 0) (e : td * (b1 * b2) = (t1 * b2 + -t2 * b1) * bd) (f : t1 * q = p * b1) : (t2 * bd + td * b2) * q = p * (b2 * bd) := Int.eq_of_mul_eq_mul_left h (by grind)
theorem bk2 {t1 b1 t2 b2 td bd p q : Int} (h : b1 ≠ 0) (e : td * (b2 * b1) = (t2 * b1 + -t1 * b2) * bd) (f : t1 * q = p * b1) : (t2 * bd + -td * b2) * q = p * (b2 * bd) := Int.eq_of_mul_eq_mul_left h (by grind)
theorem bk3 {t1 b1 t2 b2 tm bm p q : Int} (h : b1 ≠ 0) (e : tm * (b1 * b2) = (t1 * t2) * bm) (f : t1 * q = p * b1) : (tm * b2) * q = p * (bm * t2) := Int.eq_of_mul_eq_mul_left h (by grind)
theorem bk4 {t1 b1 c td bd p q : Int} (h : b1 ≠ 0) (e : td * (b1 * 1) = (-t1 * 1 + c * b1) * bd) (f : t1 * q = p * b1) : (-td * 1 + c * bd) * q = p * (bd * 1) := Int.eq_of_mul_eq_mul_left h (by grind)
theorem bk5 {t1 b1 t2 b2 tq bq p q : Int} (h : b1 ≠ 0) (e : tq * (b1 * t2) = (t1 * b2) * bq) (f : t1 * q = p * b1) : (tq * t2) * q = p * (bq * b2) := Int.eq_of_mul_eq_mul_left h (by grind)
end L2

namespace PySem.W
open PySem PySem.Spec PyProof.Rows L2
section
variable {prog : Program} {w : World} {A : Around} {E : Value → Shared → Prop} {s : Shared} {K : Frag} {x C L f : Addr} {h₀ : Heap} {m : Str → Option Value} {ox : Obj} {od : Option Obj}
theorem ksb_new (v : Value) : Builtin.«bool.__new__» ⟨[Value.type "bool", v], []⟩ = (do
    if !(← isType (Value.type "bool")) then
      rule "bool.__new__.no-type"; raiseError "TypeError" s!"bool.__new__(X): X is not a type object ({← PySem.typeNameOf (Value.type "bool")})"
    if !(← isSubtype (Value.type "bool") (Value.type "bool")) then
      rule "bool.__new__.no-subtype"; raiseError "TypeError" s!"bool.__new__({← typeName (Value.type "bool")}): {← typeName (Value.type "bool")} is not a subtype of bool"
    match ← someArgs "bool" 0 1 ⟨[v], []⟩ with
    | x :: _ => ret (.bool (← truthy x))
    | [] => ret (.bool false)) := rfl
theorem ksb_call {Q : Value → Shared → Prop} (F : Fr h₀ L s.heap m) (X₀ : K.In h₀) (I : InstAt s.heap x ox C od) (hs : findIn K (.ref C) "__bool__" = some (some (.ref f))) (hf : isFn K (.ref f) = true)
    (h : wpAny (model prog w) A.in1.in1 (call (.ref f) [.ref x]) (BoolBack fun b => Q (.bool b)) E s) : wpAny (model prog w) A (call (Value.type "bool") [.ref x]) Q E s := by
  refine callType_codes (T := "bool") (Bi := Builtin.«object.__init__») (Q₁ := fun r s₁ => ∃ b, r = .bool b ∧ Q r s₁) PySem.F.called_bool (PySem.F.typeCall_bool_1 _) PySem.F.entry_object_init ?_ ?_
  · refine codeAny_of_tree ?_
    show wpAny _ A.in1.in1 (do checkBuiltinCall "bool.__new__" ⟨[Value.type "bool", .ref x], []⟩; again (.builtin "bool.__new__" ⟨[Value.type "bool", .ref x], []⟩)) _ _ s
    refine wpAny_bind (wpAny_of_eq (PySem.F.newCall_bool_1 _) (wpAny_pure ⟨plainId_quiet (by decide +kernel) _, codeAny_builtin PySem.F.entry_bool_new ?_⟩))
    rw [Around.under_plainId (by decide +kernel) _]
    rw [ksb_new]
    refine wpAny_bind (wpAny_pure ?_)
    refine wpAny_bind (wpAny_of_eq PySem.F.conv_sub_bool ?_)
    refine wpAny_bind (wpAny_of_eq (a := [Value.ref x]) rfl ?_)
    refine wpAny_bind (truthy_K (Q := fun b s' => Q (.bool b) s') F X₀ I hs hf (wpAny_mono h (fun r s₁ hr => hr) fun _ _ y => y) |> fun z => wpAny_mono z (fun b s₁ hb => ?_) fun _ _ y => y)
    exact wpAny_pure ⟨b, rfl, hb⟩
  · rintro obj s₁ ⟨b, rfl, hq⟩
    exact ⟨rfl, PySem.F.args_object_init_2 _ _, object_init_meets PySem.F.called_bool.init.lookup PySem.F.called_bool.made (by decide) prog w A.in1 _ s₁ ⟨rfl, rfl, hq⟩⟩
end
end PySem.W
namespace L2
open PySem PySem.Spec PyProof.Rows
section
variable {X : Cx} {n : Nat} {CX : CXT} {C f : Addr} {fd : FuncData} {ps : List Str} {sp : Sp} {E : XK}
/-- bool(own object) by its __bool__ -/
def rOwnBl (C : Addr) (sp : Sp) (E : XK) : List V → Hp → VK → Prop := fun xs H Q => ∃ b dy gs, xs = [.ref b] ∧ H b = some (.ins C dy gs) ∧ sp [.ref b] H (fun v H' => ∃ k, v = .bl k ∧ Q (.bl k) H') E
theorem call_boolOwn (F : FnOk X.prog X.w X.K X.mg X.base CX n f fd ps sp) (hr : Room (n + 2) X.A) (hs : PySem.W.findIn X.K (.ref C) "__bool__" = some (some (.ref f))) (hf : PySem.W.isFn X.K (.ref f) = true)
    (hb : Binds X.K fd ps []) (hx : Passes CX X E) : CallR X (.type "bool") (rOwnBl C sp E) := by
  intro pins s σ H xs us Q I r h
  obtain ⟨b, dy, gs, rfl, hb', h⟩ := h
  rw [Vals.ref1 r]
  obtain ⟨mB, J', _⟩ := ins_get I.hok hb'
  obtain ⟨od', J', _⟩ := J'.look
  obtain ⟨m, hF⟩ := I.fr
  have sb : Sub X (n + 2) X.A := ⟨hr, rfl⟩
  refine PySem.W.ksb_call hF I.ok.mod.kin J' hs hf ?_
  refine thn (run_own (vs := [.ref b]) F sb.in1.in1 hb hx I (.cons rfl .nil) h) fun u s' q => ?_
  obtain ⟨z, H', I', rz, k, rfl, q⟩ := q
  cases rz
  exact ⟨.bl k, H', I', rfl, q⟩
/-- str(own object) by its __str__ -/
def rOwnSt (C : Addr) (sp : Sp) (E : XK) : List V → Hp → VK → Prop := fun xs H Q => ∃ b dy gs, xs = [.ref b] ∧ H b = some (.ins C dy gs) ∧ sp [.ref b] H (fun v H' => ∃ k, v = .str k ∧ Q (.str k) H') E
theorem call_strOwn (F : FnOk X.prog X.w X.K X.mg X.base CX n f fd ps sp) (hr : Room (n + 2) X.A) (hs : PySem.W.findIn X.K (.ref C) "__str__" = some (some (.ref f))) (hf : PySem.W.isFn X.K (.ref f) = true)
    (hb : Binds X.K fd ps []) (hx : Passes CX X E) : CallR X (.type "str") (rOwnSt C sp E) := by
  intro pins s σ H xs us Q I r h
  obtain ⟨b, dy, gs, rfl, hb', h⟩ := h
  rw [Vals.ref1 r]
  obtain ⟨mB, J', _⟩ := ins_get I.hok hb'
  obtain ⟨od', J', _⟩ := J'.look
  obtain ⟨m, hF⟩ := I.fr
  have sb : Sub X (n + 2) X.A := ⟨hr, rfl⟩
  refine PySem.W.kso_call sb.in1.in1.room.units0 (I.kIn) J' hs hf ?_
  refine thn (run_own (vs := [.ref b]) F sb.in1.in1 hb hx I (.cons rfl .nil) h) fun u s' q => ?_
  obtain ⟨z, H', I', rz, k, rfl, q⟩ := q
  obtain ⟨t, rfl⟩ := rz
  exact ⟨.str k, H', I', ⟨_, rfl⟩, q⟩
end
end L2
namespace L2
open PySem PySem.Spec PyProof.Rows
theorem kit_tyR {K : PySem.W.Frag} {C : Addr} {T : String} {r : Bool} (h : PySem.W.subIn K (.ref C) (.type T) = some r) (hm : PySem.W.kitMeta T = true) : PySem.W.kitOne K (.ref C) (.type T) = some r := by
  unfold PySem.W.kitOne
  split
  · rename_i z
    cases z
  · show (if PySem.W.kitMeta T = true then PySem.W.subIn K (.ref C) (.type T) else none) = some r
    rw [if_pos hm, h]
theorem kit_refF {K : PySem.W.Frag} {C B : Addr} (hs : PySem.W.subIn K (.ref C) (.ref C) = some true) (h : PySem.W.subIn K (.ref C) (.ref B) = some false) (h2 : PySem.W.isClsIn K B = true) (h3 : PySem.W.typeIn K (.ref B) = some (.type "type")) : PySem.W.kitOne K (.ref C) (.ref B) = some false := by
  unfold PySem.W.kitOne
  split
  · rename_i z
    have e : C = B := Value.ref.inj (beq_iff_eq.mp z)
    subst e
    rw [hs] at h
    cases h
  · show (if ((PySem.W.clsIn K B).isSome && PySem.W.typeIn K (.ref B) == some (.type "type")) = true then PySem.W.subIn K (.ref C) (.ref B) else none) = some false
    rw [show (PySem.W.clsIn K B).isSome = true from h2, h3, h]
    rfl
end L2

namespace L2
open PySem PySem.Spec PyProof.Rows Gg
theorem skip_ok' {rows : List (List Int)} {e o p : Int} (G : GoodW rows e o) (p0 : 0 ≤ p) (p1 : p < rows.length) (h4 : 4 ≤ (rowP rows p).length) : -e ≤ ((rowP rows p)[3]?).getD 0 ∧ ((rowP rows p)[3]?).getD 0 < (rows.length : Int) := by
  refine skip_ok G p0 p1 ?_
  obtain ⟨_, _, _, _, _, hrw, _⟩ := row3 G p0 p1
  obtain ⟨q, r, hq, hl, _⟩ := G.row _ _ hrw
  rw [hq, List.length_cons] at h4 ⊢
  omega
/-! ## pairs of a number and a number or None, compared -/
def TV (v : V) : Prop := v = .non ∨ ∃ i, v = .int i
def vD : V → PyData
  | .int i => .int i
  | _ => .none
def pvD (p : Int × V) : PyData := .tuple [.int p.1, vD p.2]
theorem dp_tv {K : PySem.W.Frag} {H : Hp} {v : V} (h : TV v) : Dp K H v (vD v) := by
  rcases h with rfl | ⟨i, rfl⟩
  · exact .non
  · exact .int i
theorem dp_prs {K : PySem.W.Frag} {H : Hp} : ∀ {as : List Addr} {ps : List (Int × V)}, PrsAt H as ps → (∀ p ∈ ps, TV p.2) → DpAll K H (as.map V.ref) (ps.map pvD)
  | [], [], _, _ => .nil
  | [], _ :: _, h, _ => by have := h.1; simp at this
  | _ :: _, [], h, _ => by have := h.1; simp at this
  | a :: as, p :: ps, h, ht => .cons (.tup (tup_of (h.2 0 a p rfl rfl)) (.cons (.int p.1) (.cons (dp_tv (ht p List.mem_cons_self)) .nil))) (dp_prs ⟨by have := h.1; simpa using this, fun i b q e1 e2 => h.2 (i + 1) b q e1 e2⟩ fun q hq => ht q (List.mem_cons_of_mem _ hq))
theorem canLay_prs : ∀ ps : List (Int × V), PyData.canLayAll0 (ps.map pvD) = true
  | [] => by rw [List.map_nil, PyData.canLayAll0]
  | p :: r => by
    rw [List.map_cons, PyData.canLayAll0, canLay_prs r]
    unfold pvD vD
    split <;> simp [PyData.canLay0, PyData.canLayAll0]
theorem depth_prs : ∀ ps : List (Int × V), PyData.depthAll (ps.map pvD) ≤ 1
  | [] => by rw [List.map_nil, PyData.depthAll]; decide
  | p :: r => by
    rw [List.map_cons, PyData.depthAll]
    have := depth_prs r
    have h1 : PyData.depth (pvD p) ≤ 1 := by
      unfold pvD vD
      split <;> simp [PyData.depth, PyData.depthAll]
    omega
theorem sh_prs (ps : List (Int × V)) : SeqAt.shaped (.tuple (ps.map pvD)) = true := by
  have := depth_prs ps
  simp [SeqAt.shaped, PyData.canLay0, canLay_prs, PyData.depth]
  omega
theorem neD_prs {K : PySem.W.Frag} {H : Hp} {a b : Addr} {as bs : List Addr} {ps : List (Int × V)} {Q : VK} (ha : H a = some (.tup (as.map V.ref))) (hb : H b = some (.tup (bs.map V.ref))) (h1 : PrsAt H as ps) (h2 : PrsAt H bs ps) (ht : ∀ p ∈ ps, TV p.2) (q : Q (.bl false) H) : rNeD K (.ref a) (.ref b) H Q :=
  ⟨_, _, .tup (tup_of ha) (dp_prs h1 ht), .tup (tup_of hb) (dp_prs h2 ht), sh_prs ps, sh_prs ps, by rw [SeqAt.eqv_refl _ (by simp [PyData.canLay0, canLay_prs])]; exact q⟩
/-- a word and a number, compared -/
theorem sh_wn {u : Str} {n : Int} (h : PyData.strOk u = true) : SeqAt.shaped (.tuple [.str u, .int n]) = true := by simp [SeqAt.shaped, PyData.canLay0, PyData.canLayAll0, PyData.depth, PyData.depthAll, h]
theorem neD_wn {K : PySem.W.Frag} {H : Hp} {a b : Addr} {u : Str} {n : Int} {Q : VK} (h : PyData.strOk u = true) (ha : H a = some (.tup [.str u, .int n])) (hb : H b = some (.tup [.str u, .int n])) (q : Q (.bl false) H) : rNeD K (.ref a) (.ref b) H Q :=
  ⟨_, _, .tup (tup_of ha) (.cons (.str u) (.cons (.int n) .nil)), .tup (tup_of hb) (.cons (.str u) (.cons (.int n) .nil)), sh_wn h, sh_wn h, by rw [SeqAt.eqv_refl _ (by simp [PyData.canLay0, PyData.canLayAll0, h])]; exact q⟩
/-! ## deeds -/
inductive Dd
  | undo | marks (ns : List Int) | skip | ans (b : Bool) | bad (xs : List V)
def BadXs (xs : List V) : Prop := xs = [.str "redo"] ∨ xs = [.str "answer"] ∨ xs = [.str "undo", .int 0] ∨ xs = [] ∨ xs = [.str "skip", .bl true] ∨ xs = [.str "marks"] ∨ xs = [.str "answer", .bl true, .int 1] ∨ xs = [.str "right"]
def DdAt (H : Hp) (a : Addr) : Dd → Prop
  | .undo => H a = some (.tup [.str "undo"])
  | .marks ns => ns.length ≤ 100 ∧ ∃ m, H a = some (.tup [.str "marks", .ref m]) ∧ H m = some (.tup (ns.map V.int))
  | .skip => H a = some (.tup [.str "skip"])
  | .ans b => H a = some (.tup [.str "answer", .bl b])
  | .bad xs => BadXs xs ∧ H a = some (.tup xs)
def isBad : Dd → Bool
  | .bad _ => true
  | _ => false
theorem DdAt.mono {H H' : Hp} {a : Addr} {d : Dd} (f : ∀ t xs, H t = some (.tup xs) → H' t = some (.tup xs)) (h : DdAt H a d) : DdAt H' a d := by
  cases d with
  | undo => exact f _ _ h
  | marks ns => obtain ⟨h0, m, h1, h2⟩ := h; exact ⟨h0, m, f _ _ h1, f _ _ h2⟩
  | skip => exact f _ _ h
  | ans b => exact f _ _ h
  | bad xs => exact ⟨h.1, f _ _ h.2⟩
def DsAt (H : Hp) (as : List Addr) (ds : List Dd) : Prop := as.length = ds.length ∧ ∀ (i : Nat) a d, as[i]? = some a → ds[i]? = some d → DdAt H a d
theorem DsAt.mono {H H' : Hp} {as : List Addr} {ds : List Dd} (f : ∀ t xs, H t = some (.tup xs) → H' t = some (.tup xs)) (h : DsAt H as ds) : DsAt H' as ds := ⟨h.1, fun i a d e1 e2 => (h.2 i a d e1 e2).mono f⟩
theorem DsAt.same {H H' : Hp} {as : List Addr} {ds : List Dd} (f : Same H H') (h : DsAt H as ds) : DsAt H' as ds := h.mono fun t xs e => f _ _ e
theorem DsAt.gd {H H' : Hp} {as : List Addr} {ds : List Dd} (f : Gd H H') (h : DsAt H as ds) : DsAt H' as ds := h.mono fun t xs e => f.1 _ _ (np_tup _) e
theorem DsAt.kp {x st : Addr} {H H' : Hp} {as : List Addr} {ds : List Dd} (f : Kp x st H H') (L : Lv H x st) (h : DsAt H as ds) : DsAt H' as ds := h.mono fun t xs e => f.tup L e
theorem DsAt.nil {H : Hp} : DsAt H [] [] := ⟨rfl, fun i a d h _ => by simp at h⟩
theorem DsAt.append {H : Hp} {as bs : List Addr} {ds es : List Dd} (h1 : DsAt H as ds) (h2 : DsAt H bs es) : DsAt H (as ++ bs) (ds ++ es) := by
  refine ⟨by rw [List.length_append, List.length_append, h1.1, h2.1], fun i b q e1 e2 => ?_⟩
  rcases Nat.lt_or_ge i as.length with hi | hi
  · rw [List.getElem?_append_left hi] at e1
    rw [List.getElem?_append_left (by rw [← h1.1]; exact hi)] at e2
    exact h1.2 i b q e1 e2
  · rw [List.getElem?_append_right hi] at e1
    rw [List.getElem?_append_right (by rw [← h1.1]; exact hi), ← h1.1] at e2
    exact h2.2 _ b q e1 e2
theorem DsAt.one {H : Hp} {a : Addr} {d : Dd} (h : DdAt H a d) : DsAt H [a] [d] := ⟨rfl, fun i b q e1 e2 => by
  cases i with
  | zero => cases e1; cases e2; exact h
  | succ i => simp at e1⟩
theorem DsAt.take {H : Hp} {as : List Addr} {ds : List Dd} (k : Nat) (h : DsAt H as ds) : DsAt H (as.take k) (ds.take k) :=
  ⟨by rw [List.length_take, List.length_take, h.1], fun i a p e1 e2 => by
    rw [List.getElem?_take] at e1 e2
    split at e1
    · rw [if_pos ‹_›] at e2
      exact h.2 i a p e1 e2
    · cases e1⟩
theorem DsAt.drop {H : Hp} {as : List Addr} {ds : List Dd} (k : Nat) (h : DsAt H as ds) : DsAt H (as.drop k) (ds.drop k) :=
  ⟨by rw [List.length_drop, List.length_drop, h.1], fun i a row e1 e2 => by rw [List.getElem?_drop] at e1 e2; exact h.2 _ a row e1 e2⟩
/-! ## what deeds do -/
inductive Er
  | marks (n : Int) | ended | noskip (z : Int) | deed (k : Nat)
structure S3 where
  pl : Int
  ps : List (Int × V)
  ms : List Int
def stepS (rows : List (List Int)) (e : Int) (k : Nat) (s : S3) : Dd → Except Er S3
  | .undo => match s.ps.getLast? with
    | none => .ok s
    | some p => .ok ⟨p.1, s.ps.dropLast, s.ms⟩
  | .marks ns => if (ns.length : Int) = e then .ok ⟨s.pl, s.ps, ns⟩ else .error (.marks ns.length)
  | .skip => if s.pl < 0 then .error .ended else if (rowP rows s.pl).length < 4 then .error (.noskip s.pl) else .ok ⟨((rowP rows s.pl)[3]?).getD 0, s.ps ++ [(s.pl, .non)], s.ms⟩
  | .ans b => if s.pl < 0 then .error .ended else .ok ⟨tRow (rowP rows s.pl) (b2 b), s.ps ++ [(s.pl, .int (b2 b))], s.ms⟩
  | .bad _ => .error (.deed k)
section
variable {rows : List (List Int)} {e : Int} {k : Nat} {s : S3}
theorem step_undo : stepS rows e k s .undo = match s.ps.getLast? with
    | none => .ok s
    | some p => .ok ⟨p.1, s.ps.dropLast, s.ms⟩ := rfl
theorem step_marks {ns : List Int} : stepS rows e k s (.marks ns) = if (ns.length : Int) = e then .ok ⟨s.pl, s.ps, ns⟩ else .error (.marks ns.length) := rfl
theorem step_skip : stepS rows e k s .skip = if s.pl < 0 then .error .ended else if (rowP rows s.pl).length < 4 then .error (.noskip s.pl) else .ok ⟨((rowP rows s.pl)[3]?).getD 0, s.ps ++ [(s.pl, .non)], s.ms⟩ := rfl
theorem step_ans {b : Bool} : stepS rows e k s (.ans b) = if s.pl < 0 then .error .ended else .ok ⟨tRow (rowP rows s.pl) (b2 b), s.ps ++ [(s.pl, .int (b2 b))], s.ms⟩ := rfl
theorem step_bad {xs : List V} : stepS rows e k s (.bad xs) = .error (.deed k) := rfl
end
def runS (rows : List (List Int)) (e : Int) : Nat → S3 → List Dd → Option Er × S3
  | _, s, [] => (none, s)
  | k, s, d :: r => match stepS rows e k s d with
    | .error x => (some x, s)
    | .ok s' => runS rows e (k + 1) s' r
theorem run_app (rows : List (List Int)) (e : Int) : ∀ (a b : List Dd) (k : Nat) (s s' : S3), runS rows e k s a = (none, s') → runS rows e k s (a ++ b) = runS rows e (k + a.length) s' b
  | [], b, k, s, s', h => by cases h; rfl
  | d :: r, b, k, s, s', h => by
    unfold runS at h
    rw [List.cons_append]
    unfold runS
    cases hs : stepS rows e k s d with
    | error x => rw [hs] at h; cases h
    | ok t =>
      rw [hs] at h
      dsimp only at h ⊢
      rw [run_app rows e r b _ _ _ h, List.length_cons, Nat.add_assoc, Nat.add_comm 1]
      cases b <;> rfl
theorem run_at {rows : List (List Int)} {e : Int} {l : List Dd} {i : Nat} {d : Dd} {s0 s : S3} (h : runS rows e 0 s0 (l.take i) = (none, s)) (hd : l[i]? = some d) :
    (∀ x, stepS rows e i s d = .error x → runS rows e 0 s0 l = (some x, s)) ∧ ∀ s', stepS rows e i s d = .ok s' → runS rows e 0 s0 (l.take (i + 1)) = (none, s') := by
  have hi := (List.getElem?_eq_some_iff.mp hd).1
  have hl : (l.take i).length = i := by rw [List.length_take]; omega
  constructor
  · intro x hx
    have e1 : l = l.take i ++ d :: l.drop (i + 1) := by
      have : d :: l.drop (i + 1) = l.drop i := by
        obtain ⟨_, h2⟩ := List.getElem?_eq_some_iff.mp hd
        rw [← h2, List.getElem_cons_drop]
      rw [this, List.take_append_drop]
    rw [e1, run_app rows e _ _ _ _ _ h, hl, Nat.zero_add]
    unfold runS
    rw [hx]
  · intro s' hs
    rw [take_get hd, run_app rows e _ _ _ _ _ h, hl, Nat.zero_add]
    unfold runS
    rw [hs]
    rfl
structure SOk (rows : List (List Int)) (e : Int) (s : S3) : Prop where
  p0 : -e ≤ s.pl
  p1 : s.pl < rows.length
  inn : StepsIn rows s.ps
  tv : ∀ q ∈ s.ps, TV q.2
  ml : (s.ms.length : Int) = e
theorem SOk.step {rows : List (List Int)} {e o : Int} {k : Nat} {s s' : S3} {d : Dd} (G : GoodW rows e o) (h : SOk rows e s) (hs : stepS rows e k s d = .ok s') : SOk rows e s' ∧ s'.ps.length ≤ s.ps.length + 1 := by
  have tvs : ∀ v, TV v → ∀ q ∈ s.ps ++ [(s.pl, v)], TV q.2 := fun v hv q hq => by
    rcases List.mem_append.mp hq with h1 | h1
    · exact h.tv q h1
    · rw [List.mem_singleton.mp h1]; exact hv
  have inn : 0 ≤ s.pl → ∀ v, StepsIn rows (s.ps ++ [(s.pl, v)]) := fun h0 v q hq => by
    rcases List.mem_append.mp hq with h1 | h1
    · exact h.inn q h1
    · rw [List.mem_singleton.mp h1]; exact ⟨h0, h.p1⟩
  cases d with
  | undo =>
    rw [step_undo] at hs
    cases hg : s.ps.getLast? with
    | none => rw [hg] at hs; cases hs; exact ⟨h, by omega⟩
    | some p =>
      rw [hg] at hs
      cases hs
      have hm := List.mem_of_getLast? hg
      obtain ⟨a, b⟩ := h.inn p hm
      have ge : 1 ≤ e := G.e1
      exact ⟨⟨by show -e ≤ p.1; omega, b, fun q hq => h.inn q ((List.dropLast_sublist _).subset hq), fun q hq => h.tv q ((List.dropLast_sublist _).subset hq), h.ml⟩, by show (s.ps.dropLast).length ≤ _; rw [List.length_dropLast]; omega⟩
  | marks ns =>
    rw [step_marks] at hs
    split at hs
    · cases hs
      exact ⟨⟨h.p0, h.p1, h.inn, h.tv, ‹_›⟩, by show s.ps.length ≤ _; omega⟩
    · cases hs
  | skip =>
    rw [step_skip] at hs
    split at hs
    · cases hs
    · split at hs
      · cases hs
      · cases hs
        have h0 : 0 ≤ s.pl := by omega
        obtain ⟨a, b⟩ := skip_ok' G h0 h.p1 (by omega)
        exact ⟨⟨a, b, inn h0 _, tvs _ (.inl rfl), h.ml⟩, by show (s.ps ++ _).length ≤ _; rw [List.length_append]; exact Nat.le_refl _⟩
  | ans b =>
    rw [step_ans] at hs
    split at hs
    · cases hs
    · cases hs
      have h0 : 0 ≤ s.pl := by omega
      obtain ⟨a, c⟩ := tRow_ok G h0 h.p1 (b2 b)
      exact ⟨⟨a, c, inn h0 _, tvs _ (.inr ⟨_, rfl⟩), h.ml⟩, by show (s.ps ++ _).length ≤ _; rw [List.length_append]; exact Nat.le_refl _⟩
  | bad xs => rw [step_bad] at hs; cases hs
/-! a sitting as a state -/
def SitS (K : PySem.W.Frag) (CS : Addr) (H : Hp) (x wb st : Addr) (s : S3) : Prop := ∃ mk ss, SitAt CS H x wb s.pl st mk ss ∧ PrsAt H ss s.ps ∧ SqT K H mk (s.ms.map V.int)
theorem SitS.lv {K : PySem.W.Frag} {CS : Addr} {H : Hp} {x wb st : Addr} {s : S3} (h : SitS K CS H x wb st s) : Lv H x st := by
  obtain ⟨mk, ss, h1, _, _⟩ := h
  exact h1.lv
theorem SitS.same {K : PySem.W.Frag} {CS : Addr} {H H' : Hp} {x wb st : Addr} {s : S3} (f : Same H H') (h : SitS K CS H x wb st s) : SitS K CS H' x wb st s := by
  obtain ⟨mk, ss, h1, h2, h3⟩ := h
  exact ⟨mk, ss, h1.same f, h2.same f, f.seqT h3⟩
theorem SitS.gd {K : PySem.W.Frag} {CS : Addr} {H H' : Hp} {x wb st : Addr} {s : S3} (f : Gd H H') (h : SitS K CS H x wb st s) : SitS K CS H' x wb st s := by
  obtain ⟨mk, ss, h1, h2, h3⟩ := h
  exact ⟨mk, ss, h1.gd f, h2.gd f, h3.kp f.kp h1.lv⟩
theorem SitS.kp {K : PySem.W.Frag} {CS : Addr} {H H' : Hp} {x st x' wb st' : Addr} {s : S3} (f : Kp x st H H') (L : Lv H x st) (n1 : x' ≠ x) (n2 : x' ≠ st) (n3 : st' ≠ x) (n4 : st' ≠ st) (h : SitS K CS H x' wb st' s) : SitS K CS H' x' wb st' s := by
  obtain ⟨mk, ss, h1, h2, h3⟩ := h
  exact ⟨mk, ss, h1.kp f n1 n2 n3 n4, h2.kp f L, h3.kp f L⟩
/-- the law's own state -/
def StAt (rows : List (List Int)) (H : Hp) (t : Addr) (s : S3) : Prop := ∃ pt rt mt rs, H t = some (.tup [.ref pt, .ref rt, .ref mt]) ∧ H pt = some (.tup ((s.ps.map Prod.fst ++ [s.pl]).map V.int)) ∧ H rt = some (.tup (rs.map V.ref)) ∧ PrsAt H rs (s.ps.map fun p => (qP rows p.1, p.2)) ∧ H mt = some (.tup (s.ms.map V.int))
theorem StAt.mono {rows : List (List Int)} {H H' : Hp} {t : Addr} {s : S3} (f : ∀ t xs, H t = some (.tup xs) → H' t = some (.tup xs)) (h : StAt rows H t s) : StAt rows H' t s := by
  obtain ⟨pt, rt, mt, rs, h1, h2, h3, h4, h5⟩ := h
  exact ⟨pt, rt, mt, rs, f _ _ h1, f _ _ h2, f _ _ h3, h4.mono f, f _ _ h5⟩
theorem StAt.same {rows : List (List Int)} {H H' : Hp} {t : Addr} {s : S3} (f : Same H H') (h : StAt rows H t s) : StAt rows H' t s := h.mono fun t xs e => f _ _ e
theorem StAt.gd {rows : List (List Int)} {H H' : Hp} {t : Addr} {s : S3} (f : Gd H H') (h : StAt rows H t s) : StAt rows H' t s := h.mono fun t xs e => f.1 _ _ (np_tup _) e
theorem StAt.kp {rows : List (List Int)} {x st : Addr} {H H' : Hp} {t : Addr} {s : S3} (f : Kp x st H H') (L : Lv H x st) (h : StAt rows H t s) : StAt rows H' t s := h.mono fun t xs e => f.tup L e
/-! errors -/
def ErC (CB CE CK CD : Addr) : Er → Addr
  | .marks _ => CB
  | .ended => CE
  | .noskip _ => CK
  | .deed _ => CD
def ErAt (H : Hp) (od : Option Addr) : Er → Prop
  | .marks n => ∃ d, od = some d ∧ H d = some (.xd [("count", .int n)])
  | .ended => od = none
  | .noskip z => ∃ d, od = some d ∧ H d = some (.xd [("index", .int z)])
  | .deed k => ∃ d, od = some d ∧ H d = some (.xd [("index", .int (k : Int))])
def erW : Option Er → Str
  | none => "done"
  | some (.marks _) => "bad marks"
  | some .ended => "ended"
  | some (.noskip _) => "no skip"
  | some (.deed _) => "deed"
def erN : Option Er → Int
  | none => 0
  | some (.marks n) => n
  | some .ended => 0
  | some (.noskip z) => z
  | some (.deed k) => k
theorem erW_ok (o : Option Er) : PyData.strOk (erW o) = true := by
  rcases o with _ | _ | _ | _ | _
  · show PyData.strOk ("done" : Str) = true; decide +kernel
  · show PyData.strOk ("bad marks" : Str) = true; decide +kernel
  · show PyData.strOk ("ended" : Str) = true; decide +kernel
  · show PyData.strOk ("no skip" : Str) = true; decide +kernel
  · show PyData.strOk ("deed" : Str) = true; decide +kernel
theorem for_enumL {K : PySem.W.Frag} {a : Addr} {xs : List V} {g : TG} {tb : TS} {D : Ends} {σ : St} {H : Hp} (Pv : Nat → St → Hp → Prop) (h0 : Pv 0 σ H) (hs : ∀ i σ H, i ≤ xs.length → Pv i σ H → SqL K H a xs)
    (st : ∀ i x σ H T, xs[i]? = some x → Pv i σ H → H T = none → g (.ref T) σ (upd H T (.tup [.int (i : Nat), x])) fun σ2 H2 => tb { nx := Pv (i + 1), rt := D.rt, bk := D.nx, ct := Pv (i + 1) } σ2 H2)
    (e : ∀ σ H, Pv xs.length σ H → D.nx σ H) :
    ∃ W : Nat → Nat → St → Hp → Prop, (∃ m, W 0 m σ H) ∧ ∀ i m σ H, W i m σ H → (Ite K a).stop i H ∧ D.nx σ H ∨ (Ite K a).go i H ∧ ∃ N : St → Hp → Prop, (∀ σ' H', N σ' H' → ∃ m', m' < m ∧ W (i + 1) m' σ' H') ∧
      ∀ x H', (Ite K a).yld i H x H' → g x σ H' fun σ2 H2 => tb { nx := N, rt := D.rt, bk := D.nx, ct := N } σ2 H2 := by
  refine ⟨fun i m σ H => Pv i σ H ∧ i + m = xs.length, ⟨xs.length, h0, Nat.zero_add _⟩, fun i m σ H ⟨hp, hm⟩ => ?_⟩
  have hS := hs i σ H (by omega) hp
  by_cases hi : i < xs.length
  · refine .inr ⟨⟨xs, xs[i], hS, List.getElem?_eq_getElem hi⟩, Pv (i + 1), fun σ' H' hp' => ⟨m - 1, by omega, hp', by omega⟩, fun v H' ⟨T, x, ev, hT, eH, hx⟩ => ?_⟩
    subst ev
    subst eH
    exact st i x σ H T (hx xs hS) hp hT
  · obtain rfl : i = xs.length := by omega
    exact .inl ⟨⟨xs, hS, Nat.le_refl _⟩, e σ H hp⟩
theorem str_ne {u v : Str} (h : u ≠ v) : decide (V.str u = V.str v) = false := decide_eq_false fun z => h (V.str.inj z)
theorem ne_self' {x y : V} (h : x = y) {A B : Prop} (b : B) : if (!decide (x = y)) = true then A else B := by
  rw [decide_eq_true h]
  exact iteF b
theorem erW_ne (er : Er) : erW (some er) ≠ "done" := by
  cases er
  · show ("bad marks" : Str) ≠ "done"; decide
  · show ("ended" : Str) ≠ "done"; decide
  · show ("no skip" : Str) ≠ "done"; decide
  · show ("deed" : Str) ≠ "done"; decide
/-! promises -/
def spMarks0 (K : PySem.W.Frag) : Sp := fun vs H Q _ => ∃ (p : Addr) (c : Nat) (e : Int), vs = [.ref p, .int e] ∧ PoolOk K p c H ∧ c + 200 < LIM ∧ 0 ≤ e ∧ e ≤ 60 ∧
  ∀ (H' : Hp) (t : Addr) (ms : List Int), Gd H H' → PoolOk K p (c + 100) H' → H' t = some (.tup (ms.map V.int)) → (ms.length : Int) = e → Q (.ref t) H'
def spIsD (K : PySem.W.Frag) : Sp := fun vs H Q _ => ∃ (a : Addr) (d : Dd), vs = [.ref a] ∧ DdAt H a d ∧ ∀ H' : Hp, Same H H' → Q (.bl (!isBad d)) H'
def spDo (K : PySem.W.Frag) (CS C CB CE CK CD : Addr) : Sp := fun vs H Q E => ∃ (x a wb st : Addr) (s : S3) (d : Dd) (e o : Int) (k : Nat) (rows : List (List Int)), vs = [.ref x, .ref a] ∧ SitS K CS H x wb st s ∧ SOk rows e s ∧ s.ps.length ≤ 900 ∧ WebAt C H wb rows e o ∧ GoodW rows e o ∧ DdAt H a d ∧ isBad d = false ∧
  (∀ s', stepS rows e k s d = .ok s' → ∀ H' : Hp, Kq x st H H' → SitS K CS H' x wb st s' → Q .non H') ∧
  (∀ er, stepS rows e k s d = .error er → ∀ (H' : Hp) (od : Option Addr), Same H H' → ErAt H' od er → E (.ref (ErC CB CE CK CD er)) od H')
def spRunD (K : PySem.W.Frag) (CS C CB CE CK CD : Addr) : Sp := fun vs H Q E => ∃ (x q wb st : Addr) (as : List Addr) (ds : List Dd) (s : S3) (e o : Int) (rows : List (List Int)), vs = [.ref x, .ref q] ∧ SitS K CS H x wb st s ∧ SOk rows e s ∧ s.ps.length ≤ 500 ∧ WebAt C H wb rows e o ∧ GoodW rows e o ∧ H q = some (.lst (as.map V.ref)) ∧ q ≠ st ∧ DsAt H as ds ∧ ds.length ≤ 100 ∧
  (∀ s', runS rows e 0 s ds = (none, s') → ∀ H' : Hp, Kq x st H H' → SitS K CS H' x wb st s' → SOk rows e s' → s'.ps.length ≤ s.ps.length + ds.length → Q .non H') ∧
  (∀ er s', runS rows e 0 s ds = (some er, s') → ∀ (H' : Hp) (od : Option Addr), Kq x st H H' → SitS K CS H' x wb st s' → SOk rows e s' → s'.ps.length ≤ s.ps.length + ds.length → ErAt H' od er → E (.ref (ErC CB CE CK CD er)) od H')
def spToldD (K : PySem.W.Frag) (CS C : Addr) : Sp := fun vs H Q _ => ∃ (x q wb st : Addr) (as : List Addr) (ds : List Dd) (s : S3) (e o : Int) (rows : List (List Int)), vs = [.ref x, .ref q] ∧ SitS K CS H x wb st s ∧ SOk rows e s ∧ s.ps.length ≤ 500 ∧ WebAt C H wb rows e o ∧ GoodW rows e o ∧ H q = some (.lst (as.map V.ref)) ∧ q ≠ st ∧ DsAt H as ds ∧ ds.length ≤ 100 ∧
  ∀ (H' : Hp) (t : Addr), Kq x st H H' → SitS K CS H' x wb st (runS rows e 0 s ds).2 → SOk rows e (runS rows e 0 s ds).2 → (runS rows e 0 s ds).2.ps.length ≤ s.ps.length + ds.length → H' t = some (.tup [.str (erW (runS rows e 0 s ds).1), .int (erN (runS rows e 0 s ds).1)]) → Q (.ref t) H'
def spDeed (K : PySem.W.Frag) : Sp := fun vs H Q _ => ∃ (p : Addr) (c : Nat) (e : Int), vs = [.ref p, .int e] ∧ PoolOk K p c H ∧ c + 300 < LIM ∧ 1 ≤ e ∧ e ≤ 50 ∧
  ∀ (H' : Hp) (a : Addr) (d : Dd), Gd H H' → PoolOk K p (c + 200) H' → DdAt H' a d → Q (.ref a) H'
def spWild (K : PySem.W.Frag) : Sp := fun vs H Q _ => ∃ (p q : Addr) (c : Nat) (as : List Addr) (ds : List Dd), vs = [.ref p, .ref q] ∧ PoolOk K p c H ∧ c + 300 < LIM ∧ H q = some (.lst (as.map V.ref)) ∧ DsAt H as ds ∧ ds.length ≤ 50 ∧
  ∀ (H' : Hp) (q' : Addr) (bs : List Addr) (es : List Dd), Gd H H' → (q' = q ∨ H q' = none) → PoolOk K p (c + 10) H' → H' q' = some (.lst (bs.map V.ref)) → DsAt H' bs es → es.length ≤ ds.length + 1 → Q (.ref q') H'
def spDList (K : PySem.W.Frag) : Sp := fun vs H Q _ => ∃ (p : Addr) (c : Nat) (e : Int), vs = [.ref p, .int e] ∧ PoolOk K p c H ∧ c + 3000 < LIM ∧ 1 ≤ e ∧ e ≤ 50 ∧
  ∀ (H' : Hp) (q : Addr) (as : List Addr) (ds : List Dd), Gd H H' → H q = none → PoolOk K p (c + 2500) H' → H' q = some (.lst (as.map V.ref)) → DsAt H' as ds → ds.length ≤ 9 → Q (.ref q) H'
def spDueS : Sp := fun vs H Q _ => ∃ (q t a : Addr) (as : List Addr) (rows : List (List Int)) (e o : Int) (k : Nat) (s : S3) (d : Dd), vs = [.ref q, .int e, .ref t, .ref a] ∧ H q = some (.lst (as.map V.ref)) ∧ RowsAt H as rows ∧ GoodW rows e o ∧ StAt rows H t s ∧ SOk rows e s ∧ s.ps.length ≤ 900 ∧ DdAt H a d ∧ isBad d = false ∧
  (∀ s', stepS rows e k s d = .ok s' → ∀ (H' : Hp) (r t' : Addr), Same H H' → H' r = some (.tup [.str "done", .ref t']) → StAt rows H' t' s' → Q (.ref r) H') ∧
  (∀ er, stepS rows e k s d = .error er → ∀ (H' : Hp) (r : Addr), Same H H' → H' r = some (.tup [.str (erW (some er)), .int (erN (some er))]) → Q (.ref r) H')
def spThrough : Sp := fun vs H Q _ => ∃ (q t l : Addr) (as bs : List Addr) (rows : List (List Int)) (e o : Int) (s : S3) (ds : List Dd), vs = [.ref q, .int e, .ref t, .ref l] ∧ H q = some (.lst (as.map V.ref)) ∧ RowsAt H as rows ∧ GoodW rows e o ∧ StAt rows H t s ∧ SOk rows e s ∧ s.ps.length ≤ 500 ∧ H l = some (.lst (bs.map V.ref)) ∧ DsAt H bs ds ∧ ds.length ≤ 100 ∧
  ∀ (H' : Hp) (u r t' : Addr), Same H H' → H' u = some (.tup [.ref r, .ref t']) → H' r = some (.tup [.str (erW (runS rows e 0 s ds).1), .int (erN (runS rows e 0 s ds).1)]) → StAt rows H' t' (runS rows e 0 s ds).2 → Q (.ref u) H'
def spSame78 (K : PySem.W.Frag) (CS C : Addr) : Sp := fun vs H Q _ => ∃ (x q t wb st : Addr) (as : List Addr) (rows : List (List Int)) (e o : Int) (s : S3), vs = [.ref x, .ref q, .ref t] ∧ SitS K CS H x wb st s ∧ SOk rows e s ∧ s.ps.length ≤ 900 ∧ WebAt C H wb rows e o ∧ GoodW rows e o ∧ H q = some (.lst (as.map V.ref)) ∧ RowsAt H as rows ∧ StAt rows H t s ∧
  ∀ H' : Hp, Same H H' → Q (.bl true) H'
end L2

namespace L2
open PySem PySem.Spec PyProof.Rows
/-! ## data that are compared with their like -/
theorem neD_same {K : PySem.W.Frag} {H : Hp} {x y : V} {d : PyData} {Q : VK} (hx : Dp K H x d) (hy : Dp K H y d) (h0 : d.canLay0 = true) (hs : SeqAt.shaped d = true) (q : Q (.bl false) H) : rNeD K x y H Q :=
  ⟨d, d, hx, hy, hs, hs, by rw [SeqAt.eqv_refl d h0]; exact q⟩
theorem eqD_same {K : PySem.W.Frag} {H : Hp} {x y : V} {d : PyData} {Q : VK} (hx : Dp K H x d) (hy : Dp K H y d) (h0 : d.canLay0 = true) (hs : SeqAt.shaped d = true) (q : Q (.bl true) H) : rEqD K x y H Q :=
  ⟨d, d, hx, hy, hs, hs, by rw [SeqAt.eqv_refl d h0]; exact q⟩
/-- lists of lists of numbers -/
def ilD (r : List Int) : PyData := .list (r.map PyData.int)
theorem dpAll_il {K : PySem.W.Frag} {H : Hp} : ∀ {as : List Addr} {rows : List (List Int)}, IntsAt H as rows → DpAll K H (as.map V.ref) (rows.map ilD)
  | [], [], _ => .nil
  | [], _ :: _, h => by cases h.1
  | _ :: _, [], h => by cases h.1
  | a :: as, r :: rows, h => .cons (.lst (lst_of (h.2 0 a r rfl rfl)) (dpAll_ints r)) (dpAll_il ⟨by have := h.1; simpa using this, fun j b row h1 h2 => h.2 (j + 1) b row h1 h2⟩)
theorem canLay_il : ∀ rows : List (List Int), PyData.canLayAll0 (rows.map ilD) = true
  | [] => by rw [List.map_nil, PyData.canLayAll0]
  | n :: r => by
    rw [List.map_cons, PyData.canLayAll0, canLay_il r]
    simp [ilD, PyData.canLay0, canLay_ints]
theorem depth_il : ∀ rows : List (List Int), PyData.depthAll (rows.map ilD) ≤ 1
  | [] => by rw [List.map_nil, PyData.depthAll]; decide
  | n :: r => by
    have := depth_il r
    rw [List.map_cons, PyData.depthAll]
    simp only [ilD, PyData.depth, depth_ints]
    omega
theorem il_ok (rows : List (List Int)) : (PyData.list (rows.map ilD)).canLay0 = true ∧ SeqAt.shaped (.list (rows.map ilD)) = true := by
  have := depth_il rows
  constructor
  · simp [PyData.canLay0, canLay_il]
  · simp [SeqAt.shaped, PyData.canLay0, canLay_il, PyData.depth]
    omega
theorem neD_il {K : PySem.W.Frag} {H : Hp} {a b : Addr} {as bs : List Addr} {rows : List (List Int)} {Q : VK} (h1 : H a = some (.lst (as.map V.ref))) (h2 : H b = some (.lst (bs.map V.ref))) (r1 : IntsAt H as rows) (r2 : IntsAt H bs rows) (q : Q (.bl false) H) : rNeD K (.ref a) (.ref b) H Q :=
  neD_same (.lst (lst_of h1) (dpAll_il r1)) (.lst (lst_of h2) (dpAll_il r2)) (il_ok rows).1 (il_ok rows).2 q
theorem IntsAt.upd_new {H : Hp} {as : List Addr} {ls : List (List Int)} {p : Addr} {o : HO} (h : IntsAt H as ls) (n : H p = none) : IntsAt (upd H p o) as ls := h.same (same_upd n)
end L2

namespace L2
open PySem PySem.Spec PyProof.Rows
/-! ## laws over joint walks: what is drawn -/
def WpAtF (p c L : Addr) (H : Hp) (q : Addr) (w : JW) : Prop := ∃ (D : Addr) (as : List Addr), H q = some (.tup [.ref D, .int w.2.1]) ∧ H D = some (.lst (as.map V.ref)) ∧ RowsAt H as w.1 ∧ D ≠ p ∧ D ≠ c ∧ D ≠ L
def WpsF (p c L : Addr) (H : Hp) (ps : List Addr) (ws : List JW) : Prop := ps.length = ws.length ∧ ∀ (i : Nat) q w, ps[i]? = some q → ws[i]? = some w → WpAtF p c L H q w
theorem WpsF.fr {p c L : Addr} {H H' : Hp} {ps : List Addr} {ws : List JW} (s : Fr p c H H') (h : WpsF p c L H ps ws) : WpsF p c L H' ps ws :=
  ⟨h.1, fun i q w h1 h2 => let ⟨D, as, a1, a2, a3, a4, a5, a6⟩ := h.2 i q w h1 h2; ⟨D, as, s.tup a1, s.2 _ _ a4 a5 a2, a3.fr s, a4, a5, a6⟩⟩
theorem WpsF.wps {p c L : Addr} {H : Hp} {ps : List Addr} {ws : List JW} (h : WpsF p c L H ps ws) : WpsAt H ps ws :=
  ⟨h.1, fun i q w h1 h2 => let ⟨D, as, a1, a2, a3, _⟩ := h.2 i q w h1 h2; ⟨D, as, a1, a2, a3⟩⟩
theorem WpsF.snoc {p c L q : Addr} {H : Hp} {ps : List Addr} {ws : List JW} {w : JW} (h : WpsF p c L H ps ws) (hq : WpAtF p c L H q w) : WpsF p c L H (ps ++ [q]) (ws ++ [w]) := by
  refine ⟨by rw [List.length_append, List.length_append, h.1]; rfl, fun i b w' h1 h2 => ?_⟩
  by_cases hi : i < ps.length
  · rw [List.getElem?_append_left hi] at h1
    rw [List.getElem?_append_left (by rw [← h.1]; exact hi)] at h2
    exact h.2 i b w' h1 h2
  · rw [List.getElem?_append_right (by omega)] at h1
    rw [List.getElem?_append_right (by rw [← h.1]; omega), ← h.1] at h2
    have hj0 : i - ps.length = 0 := by
      have := (List.getElem?_eq_some_iff.mp h1).1
      rw [List.length_singleton] at this
      omega
    rw [hj0] at h1 h2
    cases h1
    cases h2
    exact hq
/-- the list L is changed -/
theorem WpsF.mut {p c L : Addr} {H : Hp} {ps : List Addr} {ws : List JW} {zs : List V} {o : HO} (h : WpsF p c L H ps ws) (hL : H L = some (.lst zs)) : WpsF p c L (upd H L o) ps ws := by
  refine ⟨h.1, fun i q w h1 h2 => ?_⟩
  obtain ⟨D, as, a1, a2, a3, a4, a5, a6⟩ := h.2 i q w h1 h2
  refine ⟨D, as, by rw [upd_ne (ne_of a1 hL (by intro z; cases z))]; exact a1, by rw [upd_ne a6]; exact a2, ⟨a3.1, fun j b row e1 e2 => ?_⟩, a4, a5, a6⟩
  have := a3.2 j b row e1 e2
  rw [upd_ne (ne_of this hL (by intro z; cases z))]
  exact this
/-- lists of numbers, none of them the state's -/
def RowsF (p c : Addr) (H : Hp) (as : List Addr) (rows : List (List Int)) : Prop := RowsL H as rows ∧ ∀ a ∈ as, a ≠ p ∧ a ≠ c
theorem RowsF.fr {p c : Addr} {H H' : Hp} {as : List Addr} {rows : List (List Int)} (s : Fr p c H H') (h : RowsF p c H as rows) : RowsF p c H' as rows :=
  ⟨⟨h.1.1, fun i a row h1 h2 => let n := h.2 a (List.mem_of_getElem? h1); s.2 _ _ n.1 n.2 (h.1.2 i a row h1 h2)⟩, h.2⟩
theorem rowsL_snoc {b : Addr} {H : Hp} {as : List Addr} {rows : List (List Int)} {row : List Int} (h : RowsL H as rows) (hb : H b = some (.lst (row.map V.int))) : RowsL H (as ++ [b]) (rows ++ [row]) := by
  refine ⟨by rw [List.length_append, List.length_append, h.1]; rfl, fun i a r h1 h2 => ?_⟩
  by_cases hi : i < as.length
  · rw [List.getElem?_append_left hi] at h1
    rw [List.getElem?_append_left (by rw [← h.1]; exact hi)] at h2
    exact h.2 i a r h1 h2
  · rw [List.getElem?_append_right (by omega)] at h1
    rw [List.getElem?_append_right (by rw [← h.1]; omega), ← h.1] at h2
    have hj0 : i - as.length = 0 := by
      have := (List.getElem?_eq_some_iff.mp h1).1
      rw [List.length_singleton] at this
      omega
    rw [hj0] at h1 h2
    cases h1
    cases h2
    exact hb
theorem RowsL.mut {L : Addr} {H : Hp} {as : List Addr} {rows : List (List Int)} {o : HO} (h : RowsL H as rows) (n : L ∉ as) : RowsL (upd H L o) as rows :=
  ⟨h.1, fun i a row h1 h2 => by
    rw [upd_ne (fun z => n (by rw [← z]; exact List.mem_of_getElem? h1))]
    exact h.2 i a row h1 h2⟩
theorem cut_ints (zs : List Int) (lo hi : Option Int) : ∃ ys : List Int, cutV (zs.map V.int) lo hi = ys.map V.int ∧ ys.length ≤ zs.length := by
  unfold cutV
  rw [← List.map_drop, ← List.map_take]
  exact ⟨_, rfl, by rw [List.length_take, List.length_drop]; omega⟩
/-- what is due, as data -/
def JDue.dat : JDue → PyData
  | .count n => .tuple [.str "count", .int n]
  | .rel z => .tuple [.str "relation", .str z]
  | .pos n => .tuple [.str "positions", .int n]
def JDue.ok : JDue → Prop
  | .rel z => PyData.strOk z = true
  | _ => True
theorem jdue_dp {K : PySem.W.Frag} {H : Hp} {t : Addr} (j : JDue) (h : H t = some (.tup j.row)) : Dp K H (.ref t) j.dat := by
  cases j with
  | count n => exact .tup (tup_of h) (.cons (.str _) (.cons (.int _) .nil))
  | rel z => exact .tup (tup_of h) (.cons (.str _) (.cons (.str _) .nil))
  | pos n => exact .tup (tup_of h) (.cons (.str _) (.cons (.int _) .nil))
theorem jdue_lay (j : JDue) (h : j.ok) : j.dat.canLay0 = true ∧ SeqAt.shaped j.dat = true := by
  have h1 : PyData.strOk "count" = true := by decide +kernel
  have h2 : PyData.strOk "relation" = true := by decide +kernel
  have h3 : PyData.strOk "positions" = true := by decide +kernel
  cases j with
  | count n => constructor <;> simp [JDue.dat, SeqAt.shaped, PyData.canLay0, PyData.canLayAll0, PyData.depth, PyData.depthAll, h1]
  | rel z =>
    have h4 : PyData.strOk z = true := h
    constructor <;> simp [JDue.dat, SeqAt.shaped, PyData.canLay0, PyData.canLayAll0, PyData.depth, PyData.depthAll, h2, h4]
  | pos n => constructor <;> simp [JDue.dat, SeqAt.shaped, PyData.canLay0, PyData.canLayAll0, PyData.depth, PyData.depthAll, h3]
theorem eqD_jdue {K : PySem.W.Frag} {H : Hp} {x y : Addr} {j : JDue} {Q : VK} (hj : j.ok) (h1 : H x = some (.tup j.row)) (h2 : H y = some (.tup j.row)) (q : Q (.bl true) H) : rEqD K (.ref x) (.ref y) H Q :=
  eqD_same (jdue_dp j h1) (jdue_dp j h2) (jdue_lay j hj).1 (jdue_lay j hj).2 q
theorem jDue_ok {ws : List JW} {rel : Str} {sts : List (List Int)} {j : JDue} (hr : PyData.strOk rel = true) (h : jDue ws rel sts = some j) : j.ok := by
  unfold jDue at h
  split at h
  · cases h; trivial
  · split at h
    · cases h; exact hr
    · split at h
      · cases h; exact hr
      · cases hf : sts.findIdx? (fun s => !havePl ws s) with
        | none => rw [hf] at h; cases h
        | some i => rw [hf] at h; cases h; trivial
theorem jDue_same {ws : List JW} {rel : Str} {sts : List (List Int)} (h : jDue ws rel sts = none) : jDue ws "same" sts = none := by
  obtain ⟨h0, _, _, h3⟩ := jDue_none_iff h
  exact jDue_none h0 (.inl rfl) (fun z => absurd z (by decide)) h3
def st0 (rows : List (List Int)) : Int := if rows.isEmpty then -1 else 0
end L2
namespace L2
open PySem PySem.Spec PyProof.Rows
theorem madeD {K : PySem.W.Frag} {H2 : Hp} {q x dx : Addr} {bs : List Addr} {rows : List (List Int)} {e : Int} {R : VK} {E : XK} {C : Addr} (hx : H2 x = none) (hd : H2 dx = none) (hdx : dx ≠ x) (hq : SqL K H2 q (bs.map V.ref)) (hl : bs.length = rows.length)
    (hr : ∀ (i : Nat) b row, bs[i]? = some b → rows[i]? = some row → RowIn H2 b row) (G : GoodW rows e (st0 rows)) (h : ∀ H3, WebAt C H3 x rows e (st0 rows) → Same H2 H3 → R .non H3) :
    spWebInit K C [.ref x, .ref q, .int e, .non] (upd (upd H2 dx (.own x)) x (.ins C dx [])) R E := by
  have hx2 : upd H2 dx (.own x) x = none := by rw [upd_ne (fun z => hdx z.symm)]; exact hx
  have s := (same_upd hd (o := .own x)).trans (same_upd hx2 (o := .ins C dx []))
  refine ⟨x, dx, q, bs, rows, e, st0 rows, .non, rfl, upd_same, s.seq hq, hl, fun i b row h1 h2 => (hr i b row h1 h2).same s, G, .inr ⟨rfl, rfl⟩, fun H' hw keep => h H' hw fun b u hb => ?_⟩
  exact keep b u (ne_of_none hb hx) (s b u hb)
theorem RowsIn.same {H H' : Hp} {as : List Addr} {rows : List (List Int)} (s : Same H H') (h : RowsIn H as rows) : RowsIn H' as rows := ⟨h.1, fun i a row h1 h2 => (h.2 i a row h1 h2).same s⟩
theorem RowsL.in {H : Hp} {as : List Addr} {rows : List (List Int)} (h : RowsL H as rows) : RowsIn H as rows := ⟨h.1, fun i a row h1 h2 => .inr (h.2 i a row h1 h2)⟩
theorem jmadeN {H2 : Hp} {x dx wl sl : Addr} {as ss : List Addr} {ws : List JW} {sts : List (List Int)} {rel : Str} {R : VK} {E : XK} {CJ C C1 C2 C3 : Addr} (hx : H2 x = none) (hd : H2 dx = none) (hdx : dx ≠ x) (hwl : LtAt H2 wl (as.map V.ref)) (hws : WebsAt C H2 as ws)
    (hG : ∀ w ∈ ws, GoodW w.1 w.2.1 w.2.2) (hsl : LtAt H2 sl (ss.map V.ref)) (hss : RowsIn H2 ss sts) (n1 : ws.length ≤ 60) (n2 : sts.length ≤ 60) (n3 : rel.length ≤ 60)
    (kq : jDue ws rel sts = none → ∀ H3, JtAtN (fun b => H2 b = none) CJ C H3 x ws sts rel .non → Same H2 H3 → R .non H3) (ke : ∀ j, jDue ws rel sts = some j → ∀ cls d H3, Same H2 H3 → j.At C1 C2 C3 H3 cls d → E cls d H3) :
    spJoint CJ C C1 C2 C3 [.ref x, .ref wl, .ref sl, .str rel] (upd (upd H2 dx (.own x)) x (.ins CJ dx [])) R E := by
  have hx2 : upd H2 dx (.own x) x = none := by rw [upd_ne (fun z => hdx z.symm)]; exact hx
  have s := (same_upd hd (o := .own x)).trans (same_upd hx2 (o := .ins CJ dx []))
  have fin : ∀ {H'}, Kx x (upd (upd H2 dx (.own x)) x (.ins CJ dx [])) H' → Same H2 H' := fun {H'} k b u hb => k b u (ne_of_none hb hx) (s b u hb)
  exact ⟨x, dx, wl, sl, as, ss, ws, sts, rel, rfl, upd_same, hwl.same s, hws.same s, hG, hsl.same s, hss.same s, n1, n2, n3, fun hj H' hJ k => kq hj H' (hJ.mono fun b hb => s.free hb) (fin k), fun j hj cls d H' k hat => ke j hj cls d H' (fin k) hat⟩
theorem jmade {H2 : Hp} {x dx wl sl : Addr} {as ss : List Addr} {ws : List JW} {sts : List (List Int)} {rel : Str} {R : VK} {E : XK} {CJ C C1 C2 C3 : Addr} (hx : H2 x = none) (hd : H2 dx = none) (hdx : dx ≠ x) (hwl : LtAt H2 wl (as.map V.ref)) (hws : WebsAt C H2 as ws)
    (hG : ∀ w ∈ ws, GoodW w.1 w.2.1 w.2.2) (hsl : LtAt H2 sl (ss.map V.ref)) (hss : RowsIn H2 ss sts) (n1 : ws.length ≤ 60) (n2 : sts.length ≤ 60) (n3 : rel.length ≤ 60)
    (kq : jDue ws rel sts = none → ∀ H3, JtAt CJ C H3 x ws sts rel .non → Same H2 H3 → R .non H3) (ke : ∀ j, jDue ws rel sts = some j → ∀ cls d H3, Same H2 H3 → j.At C1 C2 C3 H3 cls d → E cls d H3) :
    spJoint CJ C C1 C2 C3 [.ref x, .ref wl, .ref sl, .str rel] (upd (upd H2 dx (.own x)) x (.ins CJ dx [])) R E :=
  jmadeN hx hd hdx hwl hws hG hsl hss n1 n2 n3 (fun hj H3 hJ => kq hj H3 hJ.jt) ke
/-- all that is no list stands -/
def NL (H H' : Hp) : Prop := ∀ b o, (∀ xs, o ≠ .lst xs) → H b = some o → H' b = some o
theorem NL.tup {H H' : Hp} {x : Addr} {xs : List V} (e : NL H H') (h : H x = some (.tup xs)) : H' x = some (.tup xs) := e _ _ (fun _ z => by cases z) h
theorem NL.ins {H H' : Hp} {x C dx : Addr} {xs : List (Str × V)} (e : NL H H') (h : H x = some (.ins C dx xs)) : H' x = some (.ins C dx xs) := e _ _ (fun _ z => by cases z) h
theorem NL.trans {H H1 H2 : Hp} (a : NL H H1) (b : NL H1 H2) : NL H H2 := fun x o n h => b x o n (a x o n h)
theorem Same.nl {H H' : Hp} (e : Same H H') : NL H H' := fun x o _ h => e x o h
theorem NL.put {H H' : Hp} {L : Addr} {zs : List V} {o : HO} (e : NL H H') (hL : H' L = some (.lst zs)) : NL H (upd H' L o) := fun x u n h => by
  have h' := e x u n h
  rw [upd_ne (ne_of h' hL (by intro z; exact n _ z))]
  exact h'
theorem RowsAt.nl {H H' : Hp} {as : List Addr} {rows : List (List Int)} (e : NL H H') (h : RowsAt H as rows) : RowsAt H' as rows := ⟨h.1, fun i a row h1 h2 => e.tup (h.2 i a row h1 h2)⟩
theorem WebAt.nl {C x : Addr} {H H' : Hp} {rows : List (List Int)} {e o : Int} (s : NL H H') (h : WebAt C H x rows e o) : WebAt C H' x rows e o := by
  obtain ⟨dx, nt, as, h1, h2, h3⟩ := h
  exact ⟨dx, nt, as, s.ins h1, s.tup h2, h3.nl s⟩
theorem WebsAt.nl {C : Addr} {H H' : Hp} {as : List Addr} {ws : List JW} (s : NL H H') (h : WebsAt C H as ws) : WebsAt C H' as ws := ⟨h.1, fun i x w h1 h2 => (h.2 i x w h1 h2).nl s⟩
theorem one_at {α : Type} {l : List α} {x : α} (h : l = [x]) : l[0]? = some x := by rw [h]; rfl
theorem JtAtN.fr {p c : Addr} {CJ C : Addr} {H H' : Hp} {x : Addr} {ws : List JW} {sts : List (List Int)} {rel : Str} {wv : V} (f : Fr p c H H') (h : JtAtN (fun b => b ≠ p ∧ b ≠ c) CJ C H x ws sts rel wv) : JtAtN (fun b => b ≠ p ∧ b ≠ c) CJ C H' x ws sts rel wv := by
  obtain ⟨dx, wt, st, ak, as, ss, ks, h1, h2, h3, h4, h5, h6, h7, h8, h9⟩ := h
  exact ⟨dx, wt, st, ak, as, ss, ks, f.ins h1, f.tup h2, h3.nl f.1, f.tup h4, h5.fr f, f.2 _ _ h8.1 h8.2 h6, ⟨h7.1, fun i k w e1 e2 => let ⟨ms, m1, m2⟩ := h7.2 i k w e1 e2; let n := h9 k (List.mem_of_getElem? e1); ⟨ms, f.2 _ _ n.1 n.2 m1, m2⟩⟩, h8, h9⟩
end L2

namespace L2
open PySem PySem.Spec PyProof.Rows
/-! ## states of joint walks: positions, and entries of a question with answers -/
abbrev JE := Int × List Int
abbrev JS := List Int × List JE
def EntAt (H : Hp) (c : Addr) (m : JE) : Prop := ∃ t, H c = some (.tup [.int m.1, .ref t]) ∧ H t = some (.tup (m.2.map V.int))
def EntsAt (H : Hp) (cs : List Addr) (mem : List JE) : Prop := cs.length = mem.length ∧ ∀ (i : Nat) c m, cs[i]? = some c → mem[i]? = some m → EntAt H c m
theorem EntAt.nl {H H' : Hp} {x : Addr} {m : JE} (e : NL H H') (h : EntAt H x m) : EntAt H' x m := let ⟨t, h1, h2⟩ := h; ⟨t, e.tup h1, e.tup h2⟩
theorem EntsAt.nl {H H' : Hp} {cs : List Addr} {mem : List JE} (e : NL H H') (h : EntsAt H cs mem) : EntsAt H' cs mem := ⟨h.1, fun i x m h1 h2 => (h.2 i x m h1 h2).nl e⟩
theorem Fr.nl {p c : Addr} {H H' : Hp} (e : Fr p c H H') : NL H H' := e.1
theorem EntsAt.snoc {H : Hp} {cs : List Addr} {mem : List JE} {x : Addr} {m : JE} (h : EntsAt H cs mem) (h2 : EntAt H x m) : EntsAt H (cs ++ [x]) (mem ++ [m]) := by
  refine ⟨by rw [List.length_append, List.length_append, h.1]; rfl, fun i y n h3 h4 => ?_⟩
  by_cases hi : i < cs.length
  · rw [List.getElem?_append_left hi] at h3
    rw [List.getElem?_append_left (by rw [← h.1]; exact hi)] at h4
    exact h.2 i y n h3 h4
  · rw [List.getElem?_append_right (by omega)] at h3
    rw [List.getElem?_append_right (by rw [← h.1]; omega), ← h.1] at h4
    have h0 : i - cs.length = 0 := by
      have := (List.getElem?_eq_some_iff.mp h3).1
      rw [List.length_singleton] at this
      omega
    rw [h0] at h3 h4
    obtain rfl := Option.some.inj h3
    obtain rfl := Option.some.inj h4
    exact h2
theorem EntsAt.nil {H : Hp} : EntsAt H [] [] := ⟨rfl, fun i c m h => by simp at h⟩
theorem EntsAt.app {H : Hp} : ∀ {ds : List Addr} {nem : List JE} {cs : List Addr} {mem : List JE}, EntsAt H cs mem → EntsAt H ds nem → EntsAt H (cs ++ ds) (mem ++ nem)
  | [], [], cs, mem, h, _ => by rw [List.append_nil, List.append_nil]; exact h
  | [], _ :: _, _, _, _, h => by cases h.1
  | _ :: _, [], _, _, _, h => by cases h.1
  | d :: ds, n :: nem, cs, mem, h, h2 => by
    have := EntsAt.app (h.snoc (h2.2 0 d n rfl rfl)) (⟨by have := h2.1; simpa using this, fun i c m h3 h4 => h2.2 (i + 1) c m h3 h4⟩ : EntsAt H ds nem)
    rw [List.append_assoc, List.append_assoc] at this
    exact this
theorem EntsAt.get {H : Hp} {cs : List Addr} {mem : List JE} (h : EntsAt H cs mem) {i : Nat} {c : Addr} (hc : cs[i]? = some c) : ∃ m, mem[i]? = some m ∧ EntAt H c m := by
  have hi : i < mem.length := by rw [← h.1]; exact (List.getElem?_eq_some_iff.mp hc).1
  exact ⟨mem[i], List.getElem?_eq_getElem hi, h.2 i c _ hc (List.getElem?_eq_getElem hi)⟩
/-- a state as a tuple of tuples -/
def StJ (H : Hp) (s : Addr) (st : JS) : Prop := ∃ (pt mt : Addr) (es : List Addr), H s = some (.tup [.ref pt, .ref mt]) ∧ H pt = some (.tup (st.1.map V.int)) ∧ H mt = some (.tup (es.map V.ref)) ∧ EntsAt H es st.2
theorem StJ.nl {H H' : Hp} {s : Addr} {st : JS} (e : NL H H') (h : StJ H s st) : StJ H' s st := let ⟨pt, mt, es, h1, h2, h3, h4⟩ := h; ⟨pt, mt, es, e.tup h1, e.tup h2, e.tup h3, h4.nl e⟩
theorem StJ.same {H H' : Hp} {s : Addr} {st : JS} (e : Same H H') (h : StJ H s st) : StJ H' s st := h.nl e.nl
/-- an answer with a state -/
def PaJ (H : Hp) (p : Addr) (x : Int × JS) : Prop := ∃ s, H p = some (.tup [.int x.1, .ref s]) ∧ StJ H s x.2
def PasJ (H : Hp) (ps : List Addr) (xs : List (Int × JS)) : Prop := ps.length = xs.length ∧ ∀ (i : Nat) p x, ps[i]? = some p → xs[i]? = some x → PaJ H p x
theorem PaJ.nl {H H' : Hp} {p : Addr} {x : Int × JS} (e : NL H H') (h : PaJ H p x) : PaJ H' p x := let ⟨s, h1, h2⟩ := h; ⟨s, e.tup h1, h2.nl e⟩
theorem PasJ.nl {H H' : Hp} {ps : List Addr} {xs : List (Int × JS)} (e : NL H H') (h : PasJ H ps xs) : PasJ H' ps xs := ⟨h.1, fun i p x h1 h2 => (h.2 i p x h1 h2).nl e⟩
theorem PasJ.snoc {H : Hp} {cs : List Addr} {mem : List (Int × JS)} {x : Addr} {m : Int × JS} (h : PasJ H cs mem) (h2 : PaJ H x m) : PasJ H (cs ++ [x]) (mem ++ [m]) := by
  refine ⟨by rw [List.length_append, List.length_append, h.1]; rfl, fun i y n h3 h4 => ?_⟩
  by_cases hi : i < cs.length
  · rw [List.getElem?_append_left hi] at h3
    rw [List.getElem?_append_left (by rw [← h.1]; exact hi)] at h4
    exact h.2 i y n h3 h4
  · rw [List.getElem?_append_right (by omega)] at h3
    rw [List.getElem?_append_right (by rw [← h.1]; omega), ← h.1] at h4
    have h0 : i - cs.length = 0 := by
      have := (List.getElem?_eq_some_iff.mp h3).1
      rw [List.length_singleton] at this
      omega
    rw [h0] at h3 h4
    obtain rfl := Option.some.inj h3
    obtain rfl := Option.some.inj h4
    exact h2
/-! as data -/
def entD (m : JE) : PyData := .tuple [.int m.1, .tuple (m.2.map PyData.int)]
def stD (st : JS) : PyData := .tuple [.tuple (st.1.map PyData.int), .tuple (st.2.map entD)]
def paD (x : Int × JS) : PyData := .tuple [.int x.1, stD x.2]
section
variable {K : PySem.W.Frag} {H : Hp}
theorem EntAt.dp {c : Addr} {m : JE} (h : EntAt H c m) : Dp K H (.ref c) (entD m) := by
  obtain ⟨t, h1, h2⟩ := h
  exact .tup (tup_of h1) (.cons (.int _) (.cons (.tup (tup_of h2) (dpAll_ints _)) .nil))
theorem dpAll_ents : ∀ {cs : List Addr} {mem : List JE}, EntsAt H cs mem → DpAll K H (cs.map V.ref) (mem.map entD)
  | [], [], _ => .nil
  | [], _ :: _, h => by cases h.1
  | _ :: _, [], h => by cases h.1
  | a :: as, r :: rows, h => .cons (h.2 0 a r rfl rfl).dp (dpAll_ents ⟨by have := h.1; simpa using this, fun j b row h1 h2 => h.2 (j + 1) b row h1 h2⟩)
theorem StJ.dp {s : Addr} {st : JS} (h : StJ H s st) : Dp K H (.ref s) (stD st) := by
  obtain ⟨pt, mt, es, h1, h2, h3, h4⟩ := h
  exact .tup (tup_of h1) (.cons (.tup (tup_of h2) (dpAll_ints _)) (.cons (.tup (tup_of h3) (dpAll_ents h4)) .nil))
theorem PaJ.dp {p : Addr} {x : Int × JS} (h : PaJ H p x) : Dp K H (.ref p) (paD x) := by
  obtain ⟨s, h1, h2⟩ := h
  exact .tup (tup_of h1) (.cons (.int _) (.cons h2.dp .nil))
theorem dpAll_pas : ∀ {ps : List Addr} {xs : List (Int × JS)}, PasJ H ps xs → DpAll K H (ps.map V.ref) (xs.map paD)
  | [], [], _ => .nil
  | [], _ :: _, h => by cases h.1
  | _ :: _, [], h => by cases h.1
  | a :: as, r :: rows, h => .cons (h.2 0 a r rfl rfl).dp (dpAll_pas ⟨by have := h.1; simpa using this, fun j b row h1 h2 => h.2 (j + 1) b row h1 h2⟩)
end
theorem canLay_ent (m : JE) : PyData.canLay0 (entD m) = true := by
  simp [entD, PyData.canLay0, PyData.canLayAll0, canLay_ints]
theorem depth_ent (m : JE) : PyData.depth (entD m) ≤ 2 := by
  simp [entD, PyData.depth, PyData.depthAll, depth_ints]
theorem canLay_ents : ∀ mem : List JE, PyData.canLayAll0 (mem.map entD) = true
  | [] => by rw [List.map_nil, PyData.canLayAll0]
  | n :: r => by rw [List.map_cons, PyData.canLayAll0, canLay_ents r, canLay_ent]; rfl
theorem depth_ents : ∀ mem : List JE, PyData.depthAll (mem.map entD) ≤ 2
  | [] => by rw [List.map_nil, PyData.depthAll]; decide
  | n :: r => by
    have := depth_ents r
    have := depth_ent n
    rw [List.map_cons, PyData.depthAll]
    omega
theorem canLay_st (st : JS) : PyData.canLay0 (stD st) = true := by
  simp [stD, PyData.canLay0, PyData.canLayAll0, canLay_ints, canLay_ents]
theorem depth_st (st : JS) : PyData.depth (stD st) ≤ 4 := by
  have := depth_ents st.2
  simp [stD, PyData.depth, PyData.depthAll, depth_ints]
  omega
theorem canLay_pas : ∀ xs : List (Int × JS), PyData.canLayAll0 (xs.map paD) = true
  | [] => by rw [List.map_nil, PyData.canLayAll0]
  | n :: r => by
    rw [List.map_cons, PyData.canLayAll0, canLay_pas r]
    simp [paD, PyData.canLay0, PyData.canLayAll0, canLay_st]
theorem depth_pas : ∀ xs : List (Int × JS), PyData.depthAll (xs.map paD) ≤ 5
  | [] => by rw [List.map_nil, PyData.depthAll]; decide
  | n :: r => by
    have := depth_pas r
    have := depth_st n.2
    rw [List.map_cons, PyData.depthAll]
    simp [paD, PyData.depth, PyData.depthAll]
    omega
theorem pas_ok (xs : List (Int × JS)) : ((PyData.list (xs.map paD)).canLay0 = true ∧ SeqAt.shaped (.list (xs.map paD)) = true) ∧ (PyData.tuple (xs.map paD)).canLay0 = true ∧ SeqAt.shaped (.tuple (xs.map paD)) = true := by
  have := depth_pas xs
  refine ⟨⟨?_, ?_⟩, ?_, ?_⟩
  · simp [PyData.canLay0, canLay_pas]
  · simp [SeqAt.shaped, PyData.canLay0, canLay_pas, PyData.depth]
    omega
  · simp [PyData.canLay0, canLay_pas]
  · simp [SeqAt.shaped, PyData.canLay0, canLay_pas, PyData.depth]
    omega
/-! ## steps -/
def posI (pos : List Int) (k : Nat) : Int := (pos[k]?).getD (-1)
def turnTo (pos : List Int) : Nat → Option Nat
  | 0 => none
  | k + 1 => if 0 ≤ posI pos k ∧ (∀ m, turnTo pos k = some m → posI pos k < posI pos m) then some k else turnTo pos k
def turnJ (pos : List Int) : Option Nat := turnTo pos pos.length
theorem turnTo_lt {pos : List Int} : ∀ {k w : Nat}, turnTo pos k = some w → w < k ∧ 0 ≤ posI pos w
  | 0, _, h => by cases h
  | k + 1, w, h => by
    unfold turnTo at h
    split at h
    · rename_i hc
      cases h
      exact ⟨Nat.lt_succ_self _, hc.1⟩
    · have := turnTo_lt h
      exact ⟨by omega, this.2⟩
theorem turnTo_none {pos : List Int} : ∀ {k : Nat}, turnTo pos k = none ↔ ∀ i, i < k → posI pos i < 0
  | 0 => ⟨fun _ i h => by omega, fun _ => rfl⟩
  | k + 1 => by
    unfold turnTo
    constructor
    · intro h i hi
      split at h
      · cases h
      · rename_i hc
        have ih := turnTo_none.mp h
        by_cases e : i = k
        · subst e
          refine Int.not_le.mp fun h0 => hc ⟨h0, fun m hm => ?_⟩
          rw [h] at hm
          cases hm
        · exact ih i (by omega)
    · intro h
      rw [if_neg (fun hc => by have := h k (Nat.lt_succ_self _); omega)]
      exact turnTo_none.mpr fun i hi => h i (by omega)
def ansTo (mem : List JE) (q : Int) (n : Nat) : List Int := ((mem.find? fun m => m.1 == q).map Prod.snd).getD (List.replicate n (-1))
def frc0 (sm : Bool) (ans : List Int) (w : Nat) : Option Int := if sm = true then (ans.filter fun a => a != -1).head? else if w = 1 ∧ ans[0]? = some 1 then some 1 else if w = 0 ∧ ans[1]? = some 0 then some 0 else none
def frcJ (sm : Bool) (ans : List Int) (w : Nat) : Option Int := if ans[w]? = some (-1) then frc0 sm ans w else none
noncomputable def askB (rows : List (List Int)) (z q : Int) : Bool := @decide (AskP rows z q) (Classical.propDecidable _)
theorem askB_iff {rows : List (List Int)} {z q : Int} : askB rows z q = true ↔ AskP rows z q := by unfold askB; exact @decide_eq_true_iff _ (Classical.propDecidable _)
def rowsJ (ws : List JW) (w : Nat) : List (List Int) := ((ws[w]?).map fun x => x.1).getD []
noncomputable def needJ (ws : List JW) (sm : Bool) (pos : List Int) (m : JE) : Bool := (List.range pos.length).any fun w => askB (rowsJ ws w) (posI pos w) m.1 && (frcJ sm m.2 w).isSome
def qJ (ws : List JW) (pos : List Int) (w : Nat) : Int := qP (rowsJ ws w) (posI pos w)
def movJ (ws : List JW) (pos : List Int) (w : Nat) (a : Int) : List Int := pos.set w (tRow (rowP (rowsJ ws w) (posI pos w)) a)
def remJ (mem : List JE) (q : Int) (n w : Nat) (a : Int) : List JE := mem.filter (fun m => decide (m.1 < q)) ++ [(q, (ansTo mem q n).set w a)] ++ mem.filter (fun m => decide (q < m.1))
noncomputable def behJ (ws : List JW) (sm : Bool) (st : JS) (w : Nat) (a : Int) : JS := (movJ ws st.1 w a, (remJ st.2 (qJ ws st.1 w) st.1.length w a).filter (needJ ws sm (movJ ws st.1 w a)))
def ansJ (ws : List JW) (sm : Bool) (st : JS) (w : Nat) : List Int := match frcJ sm (ansTo st.2 (qJ ws st.1 w) st.1.length) w with
  | none => [0, 1]
  | some a => [a]
noncomputable def stepsJ (ws : List JW) (sm : Bool) (st : JS) : List (Int × JS) := match turnJ st.1 with
  | none => []
  | some w => (ansJ ws sm st w).map fun a => (a, behJ ws sm st w a)
/-- what a state must be like -/
structure StOk (ws : List JW) (st : JS) : Prop where
  len : st.1.length = ws.length
  pos : ∀ (w : Nat) (x : JW), ws[w]? = some x → -x.2.1 ≤ posI st.1 w ∧ posI st.1 w < x.1.length
  ent : ∀ m ∈ st.2, 0 ≤ m.1 ∧ m.1 < 48 ∧ m.2.length = ws.length ∧ ∀ a ∈ m.2, a = -1 ∨ a = 0 ∨ a = 1
  asc : st.2.Pairwise fun m n => m.1 < n.1
def relJ (sm : Bool) : Str := if sm = true then "same" else "within"
def optI : Option Int → V
  | none => .non
  | some a => .int a
def optN : Option Nat → V
  | none => .non
  | some a => .int (a : Nat)
def spTurnJ : Sp := fun vs H Q _ => ∃ (x s : Addr) (st : JS), vs = [.ref x, .ref s] ∧ StJ H s st ∧ st.1.length ≤ 60 ∧ ∀ H', Same H H' → Q (optN (turnJ st.1)) H'
def spQuesJ (CJ C : Addr) : Sp := fun vs H Q _ => ∃ (x s : Addr) (ws : List JW) (sts : List (List Int)) (rel : Str) (wv : V) (st : JS) (w : Nat), vs = [.ref x, .ref s, .int (w : Nat)] ∧ JtAt CJ C H x ws sts rel wv ∧ (∀ y ∈ ws, GoodW y.1 y.2.1 y.2.2) ∧ StJ H s st ∧ StOk ws st ∧ w < ws.length ∧ 0 ≤ posI st.1 w ∧ Q (.int (qJ ws st.1 w)) H
def spFrcJ (CJ : Addr) : Sp := fun vs H Q _ => ∃ (x dx t : Addr) (fs : List (Str × V)) (sm : Bool) (ans : List Int) (w : Nat), vs = [.ref x, .ref t, .int (w : Nat)] ∧ H x = some (.ins CJ dx fs) ∧ fs.lookup ("relation" : Str) = some (.str (relJ sm)) ∧ H t = some (.tup (ans.map V.int)) ∧ w < ans.length ∧ ans.length ≤ 3 ∧ (sm = false → ans.length = 2) ∧ ∀ H', Same H H' → Q (optI (frcJ sm ans w)) H'
def spAnsTo : Sp := fun vs H Q _ => ∃ (s : Addr) (st : JS) (q : Int), vs = [.ref s, .int q] ∧ StJ H s st ∧ 1 ≤ st.1.length ∧ st.1.length ≤ 3 ∧ ∀ H' t, Same H H' → H' t = some (.tup ((ansTo st.2 q st.1.length).map V.int)) → Q (.ref t) H'
def spExch : Sp := fun vs H Q _ => ∃ (t : Addr) (l : List Int) (w : Nat) (v : Int), vs = [.ref t, .int (w : Nat), .int v] ∧ H t = some (.tup (l.map V.int)) ∧ w < l.length ∧ l.length ≤ 100 ∧ ∀ H' u, Same H H' → H' u = some (.tup ((l.set w v).map V.int)) → Q (.ref u) H'
def spRemJ : Sp := fun vs H Q _ => ∃ (s : Addr) (st : JS) (q a : Int) (w : Nat), vs = [.ref s, .int q, .int (w : Nat), .int a] ∧ StJ H s st ∧ w < st.1.length ∧ st.1.length ≤ 3 ∧ st.2.length ≤ 100 ∧ (∀ m ∈ st.2, m.2.length = st.1.length) ∧ ∀ H' D es, Same H H' → H D = none → H' D = some (.lst (es.map V.ref)) → EntsAt H' es (remJ st.2 q st.1.length w a) → Q (.ref D) H'
def spNeedJ (CJ C : Addr) : Sp := fun vs H Q _ => ∃ (x c t : Addr) (ws : List JW) (sts : List (List Int)) (sm : Bool) (wv : V) (pos : List Int) (m : JE), vs = [.ref x, .ref c, .ref t] ∧ JtAt CJ C H x ws sts (relJ sm) wv ∧ EntAt H c m ∧ H t = some (.tup (pos.map V.int)) ∧ pos.length = ws.length ∧ ws.length ≤ 3 ∧ (sm = false → ws.length = 2) ∧ (∀ (w : Nat) (y : JW), ws[w]? = some y → -y.2.1 ≤ posI pos w ∧ posI pos w < y.1.length) ∧ 0 ≤ m.1 ∧ m.1 < 48 ∧ m.2.length = ws.length ∧ (∀ y ∈ ws, GoodW y.1 y.2.1 y.2.2) ∧ ∀ H', Same H H' → Q (.bl (needJ ws sm pos m)) H'
def spBehJ (CJ C : Addr) : Sp := fun vs H Q _ => ∃ (x s : Addr) (ws : List JW) (sts : List (List Int)) (sm : Bool) (wv : V) (st : JS) (w : Nat) (a : Int), vs = [.ref x, .ref s, .int (w : Nat), .int a] ∧ JtAt CJ C H x ws sts (relJ sm) wv ∧ (∀ y ∈ ws, GoodW y.1 y.2.1 y.2.2) ∧ ws.length ≤ 3 ∧ (sm = false → ws.length = 2) ∧ StJ H s st ∧ StOk ws st ∧ st.2.length ≤ 100 ∧ w < ws.length ∧ 0 ≤ posI st.1 w ∧ (a = 0 ∨ a = 1) ∧
  ∀ H' r, Same H H' → StJ H' r (behJ ws sm st w a) → Q (.ref r) H'
def spStepsJ (CJ C : Addr) : Sp := fun vs H Q _ => ∃ (x s : Addr) (ws : List JW) (sts : List (List Int)) (sm : Bool) (wv : V) (st : JS), vs = [.ref x, .ref s] ∧ JtAt CJ C H x ws sts (relJ sm) wv ∧ (∀ y ∈ ws, GoodW y.1 y.2.1 y.2.2) ∧ 1 ≤ ws.length ∧ ws.length ≤ 3 ∧ (sm = false → ws.length = 2) ∧ StJ H s st ∧ StOk ws st ∧ st.2.length ≤ 100 ∧
  ∀ H' r ps, Same H H' → H' r = some (.tup (ps.map V.ref)) → PasJ H' ps (stepsJ ws sm st) → Q (.ref r) H'
end L2
namespace L2
open PySem PySem.Spec PyProof.Rows
/-! ## slices and sums of tuples, tracked -/
theorem slA_k {K : PySem.W.Frag} {H : Hp} {a : Addr} {xs : List V} {lo hi : Option Int} {Q : VK} (h : H a = some (.tup xs)) (k : ∀ p H', Same H H' → H' p = some (.tup (cutV xs lo hi)) → Q (.ref p) H') : rSlA K (.ref a) lo hi H Q := by
  refine ⟨a, xs, rfl, tup_of h, fun e => k a H (Same.refl H) ?_, fun _ p np => k p _ (same_upd np) upd_same⟩
  have : cutV xs lo hi = xs := by
    unfold cutV
    rw [e.1, e.2, List.drop_zero, Nat.sub_zero, List.take_length]
  rw [this]
  exact h
theorem catA_t {K : PySem.W.Frag} {H : Hp} {a b : Addr} {xs ys : List V} {Q : VK} (h1 : H a = some (.tup xs)) (h2 : H b = some (.tup ys)) (hl : xs.length + ys.length ≤ sizeLine) (k : ∀ p H', Same H H' → H' p = some (.tup (xs ++ ys)) → Q (.ref p) H') : rCatA K (.ref a) (.ref b) H Q := by
  refine ⟨a, b, xs, ys, rfl, rfl, tup_of h1, tup_of h2, hl, fun e => ?_, fun _ e => ?_, fun _ _ p hp => k p _ (same_upd hp) upd_same⟩
  · subst e
    exact k b H (Same.refl H) h2
  · subst e
    exact k a H (Same.refl H) (by rw [List.append_nil]; exact h1)
theorem cutV_to (xs : List V) (w : Nat) : cutV xs none (some (w : Int)) = xs.take w := by
  unfold cutV
  rw [HT.sIx_nat, HT.sIx_none, List.drop_zero, Nat.sub_zero]
  by_cases h : w ≤ xs.length
  · rw [Nat.min_eq_left h]
  · rw [Nat.min_eq_right (by omega), List.take_length, List.take_of_length_le (by omega)]
theorem cutV_from (xs : List V) (w : Nat) : cutV xs (some (w : Int)) none = xs.drop w := by
  unfold cutV
  rw [HT.sIx_nat, HT.sIx_none]
  by_cases h : w ≤ xs.length
  · rw [Nat.min_eq_left h, List.take_of_length_le (by rw [List.length_drop]; omega)]
  · rw [Nat.min_eq_right (by omega), List.drop_of_length_le (Nat.le_refl _), List.drop_of_length_le (by omega)]
    simp
/-! ## the first of its kind -/
theorem find_at {mem : List JE} {q : Int} : ∀ {i : Nat} {m : JE}, (∀ (j : Nat) m', j < i → mem[j]? = some m' → m'.1 ≠ q) → mem[i]? = some m → m.1 = q → mem.find? (fun m => m.1 == q) = some m := by
  induction mem with
  | nil => intro i m _ h; simp at h
  | cons a r ih =>
    intro i m h hi hq
    cases i with
    | zero =>
      cases hi
      rw [List.find?_cons_of_pos (by simpa using hq)]
    | succ i =>
      rw [List.find?_cons_of_neg (by simpa using h 0 a (Nat.succ_pos _) rfl)]
      exact ih (fun j m' hj h' => h (j + 1) m' (by omega) h') hi hq
theorem find_no {mem : List JE} {q : Int} (h : ∀ (j : Nat) m', mem[j]? = some m' → m'.1 ≠ q) : mem.find? (fun m => m.1 == q) = none := by
  rw [List.find?_eq_none]
  intro m hm
  obtain ⟨j, hj⟩ := List.getElem?_of_mem hm
  simpa using h j m hj
theorem ansTo_len {mem : List JE} {q : Int} {n : Nat} (h : ∀ m ∈ mem, m.2.length = n) : (ansTo mem q n).length = n := by
  unfold ansTo
  cases hf : mem.find? (fun m => m.1 == q) with
  | none => simp
  | some m => exact h m (List.mem_of_find?_eq_some hf)
/-! ## comprehensions that keep some of the entries -/
section
variable {K : PySem.W.Frag} {a : Addr} {tt : TT} {te : TE} {vs : List Nat} {σ : St} {H1 : Hp} {D : Addr} {Qd : Hp → Prop} {j : Nat} {es : List Addr} {mem : List JE}
theorem entE_turn (p : JE → Bool) {i : Nat} {c : Addr} {m : JE} {H : Hp} (nD : H1 D = none) (hlen : mem.length < 100000) (hc : es[i]? = some c) (hm : mem[i]? = some m) (he : EntsAt H1 es mem)
    (ht : ∀ H', Same H1 H' → ∀ R : Bool → Hp → Prop, (∀ H'', Same H' H'' → R (p m) H'') → tt ((wipe σ vs).set j (some (.ref c))) H' R) (hv : ∀ H', ∀ R : VK, R (.ref c) H' → te ((wipe σ vs).set j (some (.ref c))) H' R)
    (h : Same H1 H ∧ ∃ cs : List Addr, H D = some (.lst (cs.map V.ref)) ∧ EntsAt H cs ((mem.take i).filter p)) :
    tt ((wipe σ vs).set j (some (.ref c))) H fun b H3 => if b = true then te ((wipe σ vs).set j (some (.ref c))) H3 fun y H4 => ∃ acc, H4 D = some (.lst acc) ∧ acc.length < sizeLine ∧ (Same H1 (upd H4 D (.lst (acc ++ [y]))) ∧ ∃ cs : List Addr, upd H4 D (.lst (acc ++ [y])) D = some (.lst (cs.map V.ref)) ∧ EntsAt (upd H4 D (.lst (acc ++ [y]))) cs ((mem.take (i + 1)).filter p))
      else (Same H1 H3 ∧ ∃ cs : List Addr, H3 D = some (.lst (cs.map V.ref)) ∧ EntsAt H3 cs ((mem.take (i + 1)).filter p)) := by
  obtain ⟨e, cs, hD, hE⟩ := h
  refine ht H e _ fun H'' e2 => ?_
  have ef : (mem.take (i + 1)).filter p = (mem.take i).filter p ++ if p m = true then [m] else [] := by
    rw [take_get hm, List.filter_append]
    congr 1
    by_cases hp : p m = true
    · rw [if_pos hp, List.filter_cons_of_pos hp]; rfl
    · rw [if_neg hp, List.filter_cons_of_neg hp]; rfl
  have hD2 := e2 _ _ hD
  cases hp : p m with
  | true =>
    rw [hp] at ef
    refine iteT (hv H'' _ ⟨_, hD2, ?_, (e.trans e2).mut nD, cs ++ [c], by rw [upd_same, List.map_append]; rfl, ?_⟩)
    · rw [List.length_map, hE.1, sizeLine_eq]
      have h1 := List.length_filter_le p (mem.take i)
      have h2 := List.length_take_le i mem
      have : (mem.take i).length ≤ mem.length := by rw [List.length_take]; omega
      omega
    · rw [ef, if_pos rfl]
      have nl : NL H1 (upd H'' D (.lst (cs.map V.ref ++ [.ref c]))) := ((e.trans e2).nl).put hD2
      exact ((hE.nl e2.nl).nl ((Same.refl H'').nl.put hD2)).snoc ((he.2 i c m hc hm).nl nl)
  | false =>
    rw [hp, if_neg Bool.false_ne_true, List.append_nil] at ef
    exact iteF ⟨e.trans e2, cs, hD2, by rw [ef]; exact hE.nl e2.nl⟩
def lcE_tup (p : JE → Bool) (hs : H1 a = some (.tup (es.map V.ref))) (he : EntsAt H1 es mem) (nD : H1 D = none) (hlen : mem.length < 100000) (hw : ∀ x, wipe ((wipe σ vs).set j (some x)) vs = wipe σ vs)
    (ht : ∀ (i : Nat) c m, es[i]? = some c → mem[i]? = some m → ∀ H', Same H1 H' → ∀ R : Bool → Hp → Prop, (∀ H'', Same H' H'' → R (p m) H'') → tt ((wipe σ vs).set j (some (.ref c))) H' R) (hv : ∀ c H', ∀ R : VK, R (.ref c) H' → te ((wipe σ vs).set j (some (.ref c))) H' R)
    (k : ∀ H' cs, Same H1 H' → H' D = some (.lst (cs.map V.ref)) → EntsAt H' cs (mem.filter p) → Qd H') :=
  lc_tup (K := K) (a := a) (xs := es.map V.ref) (g := gName j) (tt := tt) (te := te) (vs := vs) (σ := σ) (H1 := H1) (D := D) (Qd := Qd) (fun i H => Same H1 H ∧ ∃ cs : List Addr, H D = some (.lst (cs.map V.ref)) ∧ EntsAt H cs ((mem.take i).filter p)) ⟨same_upd nD, [], upd_same, EntsAt.nil⟩ (fun i H _ h => tup_of (h.1 _ _ hs))
    (fun i y H hi h => by
      obtain ⟨c, hc, rfl⟩ := get_map_ref hi
      obtain ⟨m, hm, _⟩ := he.get hc
      exact ⟨hw _, entE_turn p nD hlen hc hm he (ht i c m hc hm) (hv c) h⟩)
    (fun H ⟨e, cs, h1, h2⟩ => k H cs e h1 (by rw [List.length_map, he.1, List.take_length] at h2; exact h2))
def lcE_lst (p : JE → Bool) (hs : H1 a = some (.lst (es.map V.ref))) (he : EntsAt H1 es mem) (nD : H1 D = none) (hlen : mem.length < 100000) (hw : ∀ x, wipe ((wipe σ vs).set j (some x)) vs = wipe σ vs)
    (ht : ∀ (i : Nat) c m, es[i]? = some c → mem[i]? = some m → ∀ H', Same H1 H' → ∀ R : Bool → Hp → Prop, (∀ H'', Same H' H'' → R (p m) H'') → tt ((wipe σ vs).set j (some (.ref c))) H' R) (hv : ∀ c H', ∀ R : VK, R (.ref c) H' → te ((wipe σ vs).set j (some (.ref c))) H' R)
    (k : ∀ H' cs, Same H1 H' → H' D = some (.lst (cs.map V.ref)) → EntsAt H' cs (mem.filter p) → Qd H') :=
  lc_list (K := K) (a := a) (xs := es.map V.ref) (g := gName j) (tt := tt) (te := te) (vs := vs) (σ := σ) (H1 := H1) (D := D) (Qd := Qd) (fun i H => Same H1 H ∧ ∃ cs : List Addr, H D = some (.lst (cs.map V.ref)) ∧ EntsAt H cs ((mem.take i).filter p)) ⟨same_upd nD, [], upd_same, EntsAt.nil⟩ (fun i H _ h => lst_of (h.1 _ _ hs))
    (fun i y H hi h => by
      obtain ⟨c, hc, rfl⟩ := get_map_ref hi
      obtain ⟨m, hm, _⟩ := he.get hc
      exact ⟨hw _, entE_turn p nD hlen hc hm he (ht i c m hc hm) (hv c) h⟩)
    (fun H ⟨e, cs, h1, h2⟩ => k H cs e h1 (by rw [List.length_map, he.1, List.take_length] at h2; exact h2))
end
def spEndsJ : Sp := fun vs H Q _ => ∃ (s : Addr) (st : JS), vs = [.ref s] ∧ StJ H s st ∧ st.1.length ≤ 60 ∧ ∀ H' t, Same H H' → H' t = some (.tup ((st.1.map fun x => -1 - x).map V.int)) → Q (.ref t) H'
end L2
namespace L2
open PySem PySem.Spec PyProof.Rows
theorem bit_at (m q : Nat) : Builtin.bitAnd ((m : Int) / 2 ^ ((q : Int)).toNat) 1 = if m.testBit q = true then 1 else 0 := by
  have e : (m : Int) / 2 ^ ((q : Int)).toNat = ((m / 2 ^ q : Nat) : Int) := by rw [Int.toNat_natCast]; simp
  rw [e, PyProof.Rows.bitAnd_pp (Int.natCast_nonneg _) (by decide), Int.toNat_natCast]
  have e2 : (m / 2 ^ q) &&& (1 : Int).toNat = m / 2 ^ q % 2 := Nat.and_one_is_mod _
  rw [e2, Nat.testBit_eq_decide_div_mod_eq]
  rcases Nat.mod_two_eq_zero_or_one (m / 2 ^ q) with h | h
  · rw [h]; rfl
  · rw [h]; rfl
theorem ansTo_val {ws : List JW} {st : JS} (h : StOk ws st) {q : Int} {n : Nat} : ∀ a ∈ ansTo st.2 q n, a = -1 ∨ a = 0 ∨ a = 1 := by
  unfold ansTo
  cases hf : st.2.find? (fun m => m.1 == q) with
  | none =>
    intro a ha
    exact .inl (List.eq_of_mem_replicate ha)
  | some m => exact (h.ent m (List.mem_of_find?_eq_some hf)).2.2.2
theorem frcJ_01 {sm : Bool} {ans : List Int} {w : Nat} {a : Int} (hv : ∀ a ∈ ans, a = -1 ∨ a = 0 ∨ a = 1) (h : frcJ sm ans w = some a) : a = 0 ∨ a = 1 := by
  unfold frcJ at h
  split at h
  · unfold frc0 at h
    split at h
    · have hm := List.mem_of_head? h
      obtain ⟨h1, h2⟩ := List.mem_filter.mp hm
      rcases hv a h1 with h3 | h3
      · rw [h3] at h2; cases h2
      · exact h3
    · split at h
      · cases h; exact .inr rfl
      · split at h
        · cases h; exact .inl rfl
        · cases h
  · cases h
theorem ansJ_01 {ws : List JW} {sm : Bool} {st : JS} (h : StOk ws st) {w : Nat} : ∀ a ∈ ansJ ws sm st w, a = 0 ∨ a = 1 := by
  unfold ansJ
  cases hf : frcJ sm (ansTo st.2 (qJ ws st.1 w) st.1.length) w with
  | none =>
    intro a ha
    have ha : a ∈ [0, 1] := ha
    simp at ha
    exact ha
  | some b =>
    intro a ha
    have ha : a ∈ [b] := ha
    rw [List.mem_singleton.mp ha]
    exact frcJ_01 (ansTo_val h) hf
/-- what stands at a walker's place -/
theorem place_at {ws : List JW} {st : JS} (h : StOk ws st) (hG : ∀ y ∈ ws, GoodW y.1 y.2.1 y.2.2) {w : Nat} (hw : w < ws.length) (h0 : 0 ≤ posI st.1 w) :
    ∃ q t1 t2 r, rowP (rowsJ ws w) (posI st.1 w) = q :: t1 :: t2 :: r ∧ rowsJ ws w = (ws[w]).1 ∧ (ws[w]).1[(posI st.1 w).toNat]? = some (q :: t1 :: t2 :: r) ∧ posI st.1 w < (ws[w]).1.length ∧ 0 ≤ q ∧ q < 48 ∧ qJ ws st.1 w = q ∧
      (-(ws[w]).2.1 ≤ t1 ∧ t1 < (ws[w]).1.length) ∧ (-(ws[w]).2.1 ≤ t2 ∧ t2 < (ws[w]).1.length) ∧ (0 ≤ t1 → posI st.1 w < t1) ∧ (0 ≤ t2 → posI st.1 w < t2) := by
  have hwe : ws[w]? = some ws[w] := List.getElem?_eq_getElem hw
  obtain ⟨p1, p2⟩ := h.pos w _ hwe
  have G := hG _ (List.getElem_mem hw)
  have hrj : rowsJ ws w = (ws[w]).1 := by unfold rowsJ; rw [hwe]; rfl
  obtain ⟨q, t1, t2, r, hr1, hr2, q0, q1, a1, a2⟩ := row3 G h0 p2
  refine ⟨q, t1, t2, r, by rw [hrj]; exact hr1, hrj, by rw [hr2, hr1], p2, q0, q1, by unfold qJ qP; rw [hrj, hr1]; rfl, ⟨a1.1, a1.2.1⟩, ⟨a2.1, a2.2.1⟩, fun h => ?_, fun h => ?_⟩
  · have := a1.2.2; omega
  · have := a2.2.2; omega
theorem remJ_ent {ws : List JW} {st : JS} (h : StOk ws st) {q a : Int} {w : Nat} (q0 : 0 ≤ q) (q1 : q < 48) (ha : a = 0 ∨ a = 1) : ∀ m ∈ remJ st.2 q st.1.length w a, 0 ≤ m.1 ∧ m.1 < 48 ∧ m.2.length = ws.length ∧ ∀ b ∈ m.2, b = -1 ∨ b = 0 ∨ b = 1 := by
  intro m hm
  unfold remJ at hm
  have old : ∀ p : JE → Bool, m ∈ st.2.filter p → _ := fun p hp => h.ent m (List.mem_filter.mp hp).1
  rcases List.mem_append.mp hm with hm | hm
  · rcases List.mem_append.mp hm with hm | hm
    · exact old _ hm
    · rw [List.mem_singleton.mp hm]
      refine ⟨q0, q1, ?_, fun b hb => ?_⟩
      · show ((ansTo st.2 q st.1.length).set w a).length = _
        rw [List.length_set, ansTo_len fun m hm => (h.ent m hm).2.2.1.trans h.len.symm, h.len]
      · rcases List.mem_or_eq_of_mem_set hb with hb | hb
        · exact ansTo_val h b hb
        · rw [hb]; exact .inr ha
  · exact old _ hm
theorem remJ_len (mem : List JE) (q : Int) (n w : Nat) (a : Int) : (remJ mem q n w a).length ≤ 2 * mem.length + 1 := by
  unfold remJ
  have h1 := List.length_filter_le (fun m : JE => decide (m.1 < q)) mem
  have h2 := List.length_filter_le (fun m : JE => decide (q < m.1)) mem
  simp only [List.length_append, List.length_singleton]
  omega
theorem movJ_pos {ws : List JW} {st : JS} (h : StOk ws st) (hG : ∀ y ∈ ws, GoodW y.1 y.2.1 y.2.2) {w : Nat} (hw : w < ws.length) (h0 : 0 ≤ posI st.1 w) (a : Int) : (movJ ws st.1 w a).length = ws.length ∧ ∀ (u : Nat) (y : JW), ws[u]? = some y → -y.2.1 ≤ posI (movJ ws st.1 w a) u ∧ posI (movJ ws st.1 w a) u < y.1.length := by
  obtain ⟨q, t1, t2, r, hr, hrj, _, _, _, _, _, b1, b2, _⟩ := place_at h hG hw h0
  refine ⟨by unfold movJ; rw [List.length_set, h.len], fun u y hy => ?_⟩
  unfold movJ posI
  by_cases e : w = u
  · subst e
    rw [List.getElem?_set_self (by rw [h.len]; exact hw)]
    rw [List.getElem?_eq_getElem hw] at hy
    cases hy
    have : tRow (rowP (rowsJ ws w) ((st.1[w]?).getD (-1))) a = if a = 1 then t1 else t2 := by
      have : rowP (rowsJ ws w) ((st.1[w]?).getD (-1)) = q :: t1 :: t2 :: r := hr
      rw [this]
      rfl
    show -_ ≤ tRow _ a ∧ tRow _ a < _
    rw [this]
    split
    · exact b1
    · exact b2
  · rw [List.getElem?_set_ne e]
    exact h.pos u y hy
end L2
namespace L2
open PySem PySem.Spec PyProof.Rows
/-! a Joint without starts: nothing to explore -/
theorem putJ6 {u v z y x x' : V} : putF ("_ways" : Str) x' [(("webs" : Str), u), (("starts" : Str), v), (("relation" : Str), z), (("_askable" : Str), y), (("_ways" : Str), x)] = [(("webs" : Str), u), (("starts" : Str), v), (("relation" : Str), z), (("_askable" : Str), y), (("_ways" : Str), x')] := by rfl
def J0At (CJ C : Addr) (H : Hp) (x : Addr) (ws : List JW) (rel : Str) (wv : V) : Prop := ∃ (dx wt st ak : Addr) (as ks : List Addr), H x = some (.ins CJ dx [("webs", .ref wt), ("starts", .ref st), ("relation", .str rel), ("_askable", .ref ak), ("_ways", wv)]) ∧
  H wt = some (.tup (as.map V.ref)) ∧ WebsAt C H as ws ∧ H st = some (.tup []) ∧ H ak = some (.lst (ks.map V.ref)) ∧ AskL H ks ws
def spExpl0 (CJ C : Addr) : Sp := fun vs H Q _ => ∃ (x : Addr) (ws : List JW) (rel : Str) (wv : V), vs = [.ref x] ∧ JtAt CJ C H x ws [] rel wv ∧ (wv = .non ∨ ∃ d, wv = .ref d) ∧ (wv = .non → ∀ H' d, JtAt CJ C H' x ws [] rel (.ref d) → H' d = some (.dK []) → Kx x H H' → Q (.ref d) H') ∧ ∀ d, wv = .ref d → Q (.ref d) H
def spStates0 (CJ C : Addr) : Sp := fun vs H Q _ => ∃ (x : Addr) (ws : List JW) (rel : Str) (wv : V), vs = [.ref x] ∧ JtAt CJ C H x ws [] rel wv ∧ (wv = .non ∨ ∃ d, wv = .ref d ∧ H d = some (.dK [])) ∧ ∀ H' d t, JtAt CJ C H' x ws [] rel (.ref d) → H' d = some (.dK []) → Kx x H H' → H' t = some (.tup []) → Q (.ref t) H'
def spFinals0 (CJ C : Addr) : Sp := fun vs H Q _ => ∃ (x : Addr) (ws : List JW) (rel : Str) (d : Addr), vs = [.ref x] ∧ JtAt CJ C H x ws [] rel (.ref d) ∧ H d = some (.dK []) ∧ ∀ H' t, Kx x H H' → H' t = some (.tup []) → Q (.ref t) H'
/-- something else than instances, tuples and lists is changed -/
theorem JtAt.mut {CJ C : Addr} {H : Hp} {x d : Addr} {ws : List JW} {sts : List (List Int)} {rel : Str} {wv : V} {u o : HO} (h : JtAt CJ C H x ws sts rel wv) (hd : H d = some u) (n : (∀ C' d' fs, u ≠ .ins C' d' fs) ∧ (∀ xs, u ≠ .tup xs) ∧ ∀ xs, u ≠ .lst xs) : JtAt CJ C (upd H d o) x ws sts rel wv := by
  obtain ⟨dx, wt, st, ak, as, ss, ks, hx, hwt, hws, hst, hss, hak, hks⟩ := h
  have i : ∀ {b C' d' fs}, H b = some (.ins C' d' fs) → upd H d o b = some (.ins C' d' fs) := fun {b C' d' fs} hb => by rw [upd_ne (ne_of hb hd (fun z => n.1 _ _ _ z.symm))]; exact hb
  have t : ∀ {b xs}, H b = some (.tup xs) → upd H d o b = some (.tup xs) := fun {b xs} hb => by rw [upd_ne (ne_of hb hd (fun z => n.2.1 _ z.symm))]; exact hb
  have l : ∀ {b xs}, H b = some (.lst xs) → upd H d o b = some (.lst xs) := fun {b xs} hb => by rw [upd_ne (ne_of hb hd (fun z => n.2.2 _ z.symm))]; exact hb
  have r : ∀ {as rows}, RowsAt H as rows → RowsAt (upd H d o) as rows := fun {as rows} h => ⟨h.1, fun i a row h1 h2 => t (h.2 i a row h1 h2)⟩
  refine ⟨dx, wt, st, ak, as, ss, ks, i hx, t hwt, ⟨hws.1, fun j y w h1 h2 => ?_⟩, t hst, r hss, l hak, hks.1, fun j k w h1 h2 => ?_⟩
  · obtain ⟨d1, n1, a1, b1, b2, b3⟩ := hws.2 j y w h1 h2
    exact ⟨d1, n1, a1, i b1, t b2, r b3⟩
  · obtain ⟨ms, h3, h4⟩ := hks.2 j k w h1 h2
    exact ⟨ms, l h3, h4⟩
end L2
namespace L2
open PySem PySem.Spec PyProof.Rows
/-! ## the same, as a law walks it -/
def NdsAt (H : Hp) (L : Addr) (ws : List JW) : Prop := ∃ Ds : List Addr, H L = some (.lst (Ds.map V.ref)) ∧ Ds.length = ws.length ∧ ∀ (i : Nat) D w, Ds[i]? = some D → ws[i]? = some w → LsAt H D w.1
theorem LsAt.sameJ {H H' : Hp} {D : Addr} {rows : List (List Int)} (e : Same H H') (h : LsAt H D rows) : LsAt H' D rows := let ⟨as, h1, h2⟩ := h; ⟨as, e _ _ h1, h2.same e⟩
theorem NdsAt.same {H H' : Hp} {L : Addr} {ws : List JW} (e : Same H H') (h : NdsAt H L ws) : NdsAt H' L ws := let ⟨Ds, h1, h2, h3⟩ := h; ⟨Ds, e _ _ h1, h2, fun i D w a b => (h3 i D w a b).sameJ e⟩
def spFrcL : Sp := fun vs H Q _ => ∃ (t : Addr) (sm : Bool) (ans : List Int) (w : Nat), vs = [.str (relJ sm), .ref t, .int (w : Nat)] ∧ H t = some (.tup (ans.map V.int)) ∧ ans.length ≤ 3 ∧ (sm = false → ans.length = 2) ∧ ∀ H', Same H H' → Q (optI (frc0 sm ans w)) H'
def spTurnL : Sp := fun vs H Q _ => ∃ (t : Addr) (pos : List Int), vs = [.ref t] ∧ H t = some (.tup (pos.map V.int)) ∧ pos.length ≤ 60 ∧ ∀ H', Same H H' → Q (optN (turnJ pos)) H'
def spAskedL : Sp := fun vs H Q _ => ∃ (D : Addr) (rows : List (List Int)) (e o z : Int), vs = [.ref D, .int z] ∧ LsAt H D rows ∧ GoodW rows e o ∧ rows.length ≤ 40 ∧ -e ≤ z ∧ z < rows.length ∧ ∀ (H' : Hp) (A : Addr) (l : List Int), Same H H' → H' A = some (.lst (l.map V.int)) → (∀ t, t ∈ l ↔ AskP rows z t) → Q (.ref A) H'
def spCountsL : Sp := fun vs H Q _ => ∃ (L al c : Addr) (ws : List JW) (sm : Bool) (pos : List Int) (m : JE), vs = [.ref L, .str (relJ sm), .ref al, .ref c] ∧ NdsAt H L ws ∧ (∀ y ∈ ws, GoodW y.1 y.2.1 y.2.2) ∧ (∀ y ∈ ws, y.1.length ≤ 40) ∧ H al = some (.lst (pos.map V.int)) ∧ EntAt H c m ∧ pos.length = ws.length ∧ ws.length ≤ 3 ∧ (sm = false → ws.length = 2) ∧ m.2.length = ws.length ∧
  (∀ (w : Nat) (y : JW), ws[w]? = some y → -y.2.1 ≤ posI pos w ∧ posI pos w < y.1.length) ∧ ∀ H', Same H H' → Q (.bl (needJ ws sm pos m)) H'
def spLedL : Sp := fun vs H Q _ => ∃ (L s : Addr) (ws : List JW) (sm : Bool) (st : JS) (w : Nat) (a : Int), vs = [.ref L, .str (relJ sm), .ref s, .int (w : Nat), .int a] ∧ NdsAt H L ws ∧ (∀ y ∈ ws, GoodW y.1 y.2.1 y.2.2) ∧ (∀ y ∈ ws, y.1.length ≤ 40) ∧ ws.length ≤ 3 ∧ (sm = false → ws.length = 2) ∧ StJ H s st ∧ StOk ws st ∧ st.2.length ≤ 100 ∧ w < ws.length ∧ 0 ≤ posI st.1 w ∧ (a = 0 ∨ a = 1) ∧ ∀ H' r, Same H H' → StJ H' r (behJ ws sm st w a) → Q (.ref r) H'
def spStepsL : Sp := fun vs H Q _ => ∃ (L s : Addr) (ws : List JW) (sm : Bool) (st : JS), vs = [.ref L, .str (relJ sm), .ref s] ∧ NdsAt H L ws ∧ (∀ y ∈ ws, GoodW y.1 y.2.1 y.2.2) ∧ (∀ y ∈ ws, y.1.length ≤ 40) ∧ ws.length ≤ 3 ∧ (sm = false → ws.length = 2) ∧ StJ H s st ∧ StOk ws st ∧ st.2.length ≤ 100 ∧ ∀ H' D ps, Same H H' → H D = none → H' D = some (.lst (ps.map V.ref)) → PasJ H' ps (stepsJ ws sm st) → Q (.ref D) H'
def spPlaceW (K : PySem.W.Frag) : Sp := fun vs H Q _ => ∃ (p c q : Addr) (y : JW), vs = [.ref p, .ref q] ∧ Stt p c H ∧ WpAt H q y ∧ y.1.length ≤ 60 ∧ 1 ≤ y.2.1 ∧ y.2.1 ≤ 60 ∧ ∀ H' v, Fr p c H H' → Stt p c H' → -y.2.1 ≤ v → v < y.1.length → Q (.int v) H'
def spMemL : Sp := fun vs H Q _ => ∃ (p c pl : Addr) (l : List Int) (n : Nat), vs = [.ref p, .ref pl, .int (n : Nat)] ∧ Stt p c H ∧ H pl = some (.lst (l.map V.int)) ∧ pl ≠ p ∧ pl ≠ c ∧ Qn l ∧ l.Nodup ∧ l.length ≤ 5 ∧ n ≤ 3 ∧
  ∀ H' t es mem, Fr p c H H' → Stt p c H' → H' t = some (.tup (es.map V.ref)) → EntsAt H' es mem → mem.length ≤ 3 → (∀ m ∈ mem, 0 ≤ m.1 ∧ m.1 < 48 ∧ m.2.length = n ∧ ∀ a ∈ m.2, a = -1 ∨ a = 0 ∨ a = 1) → (mem.Pairwise fun m m' => m.1 < m'.1) → Q (.ref t) H'
theorem asc_uniq {mem : List JE} (h : mem.Pairwise fun m m' => m.1 < m'.1) {i j : Nat} {m m' : JE} (hi : mem[i]? = some m) (hj : mem[j]? = some m') (e : m.1 = m'.1) : i = j := by
  obtain ⟨hi1, rfl⟩ := List.getElem?_eq_some_iff.mp hi
  obtain ⟨hj1, rfl⟩ := List.getElem?_eq_some_iff.mp hj
  rcases Nat.lt_trichotomy i j with z | z | z
  · have := List.pairwise_iff_getElem.mp h i j hi1 hj1 z; omega
  · exact z
  · have := List.pairwise_iff_getElem.mp h j i hj1 hi1 z; omega
end L2
namespace L2
open PySem PySem.Spec PyProof.Rows
theorem ansTo_snoc_ne {mem : List JE} {q : Int} {n i : Nat} {m : JE} (hi : mem[i]? = some m) (h : m.1 ≠ q) : ansTo (mem.take (i + 1)) q n = ansTo (mem.take i) q n := by
  unfold ansTo
  rw [take_get hi, List.find?_append]
  cases hf : (mem.take i).find? (fun m => m.1 == q) with
  | some m' => rfl
  | none =>
    rw [List.find?_cons_of_neg (by simpa using h)]
    rfl
theorem ansTo_snoc_eq {mem : List JE} {q : Int} {n i : Nat} {m : JE} (ha : mem.Pairwise fun m m' => m.1 < m'.1) (hi : mem[i]? = some m) (h : m.1 = q) : ansTo (mem.take i) q n = List.replicate n (-1) ∧ ansTo (mem.take (i + 1)) q n = m.2 := by
  have hno : (mem.take i).find? (fun m => m.1 == q) = none := find_no fun j m' hj => by
    intro e
    have hj' : j < (mem.take i).length := (List.getElem?_eq_some_iff.mp hj).1
    rw [List.length_take] at hj'
    rw [List.getElem?_take_of_lt (by omega)] at hj
    have := asc_uniq ha hj hi (e.trans h.symm)
    omega
  unfold ansTo
  rw [take_get hi, List.find?_append, hno, List.find?_cons_of_pos (by simpa using h)]
  exact ⟨rfl, rfl⟩
theorem frcJ_rep {sm : Bool} {n w : Nat} : frcJ sm (List.replicate n (-1)) w = none := by
  unfold frcJ
  split
  · unfold frc0
    split
    · have : (List.replicate n (-1 : Int)).filter (fun a => a != -1) = [] := by
        rw [List.filter_eq_nil_iff]
        intro a ha
        rw [List.eq_of_mem_replicate ha]
        decide
      rw [this]
      rfl
    · have : ∀ (i : Nat) (b : Int), b ≠ -1 → (List.replicate n (-1 : Int))[i]? ≠ some b := fun i b hb h => hb (by
        have := List.mem_of_getElem? h
        exact List.eq_of_mem_replicate this)
      rw [if_neg (fun h => this 0 1 (by decide) h.2), if_neg (fun h => this 1 0 (by decide) h.2)]
  · rfl
end L2
namespace L2
open PySem PySem.Spec PyProof.Rows
/-- the lists of rows of drawn webs, none of them the state's -/
def NdsF (p c : Addr) (H : Hp) (L : Addr) (ws : List JW) : Prop := L ≠ p ∧ L ≠ c ∧ ∃ Ds : List Addr, H L = some (.lst (Ds.map V.ref)) ∧ Ds.length = ws.length ∧ ∀ (i : Nat) D w, Ds[i]? = some D → ws[i]? = some w → LsAt H D w.1 ∧ D ≠ p ∧ D ≠ c
theorem NdsF.nds {p c : Addr} {H : Hp} {L : Addr} {ws : List JW} (h : NdsF p c H L ws) : NdsAt H L ws := let ⟨_, _, Ds, h1, h2, h3⟩ := h; ⟨Ds, h1, h2, fun i D w a b => (h3 i D w a b).1⟩
theorem NdsF.fr {p c : Addr} {H H' : Hp} {L : Addr} {ws : List JW} (f : Fr p c H H') (h : NdsF p c H L ws) : NdsF p c H' L ws := let ⟨n1, n2, Ds, h1, h2, h3⟩ := h; ⟨n1, n2, Ds, f.2 _ _ n1 n2 h1, h2, fun i D w a b => let ⟨⟨as, a1, a2⟩, d1, d2⟩ := h3 i D w a b; ⟨⟨as, f.2 _ _ d1 d2 a1, a2.fr f⟩, d1, d2⟩⟩
theorem StJ.fr {p c : Addr} {H H' : Hp} {s : Addr} {st : JS} (f : Fr p c H H') (h : StJ H s st) : StJ H' s st := h.nl f.1
theorem rel_ok (sm : Bool) : (relJ sm).length ≤ 60 := by cases sm <;> decide +kernel
theorem jDue_empty {ws : List JW} {sm : Bool} (h0 : (1 : Int) ≤ ws.length ∧ (ws.length : Int) ≤ 3) (h2 : sm = false → ws.length = 2) : jDue ws (relJ sm) [] = none := by
  refine jDue_none h0 ?_ (fun z => h2 ?_) (fun j s h => by simp at h)
  · cases sm
    · exact .inr rfl
    · exact .inl rfl
  · cases sm
    · rfl
    · exact absurd z (by decide)
end L2

namespace L2
open PySem PySem.Spec PyProof.Rows
/-! ## dicts whose keys are nested tuples of whole numbers and None -/
mutual
inductive NkV (H : Hp) : NestedKey → V → Prop
  | none : NkV H .none .non
  | int (i : Int) : NkV H (.num i) (.int i)
  | tup {a : Addr} {ks : List NestedKey} {vs : List V} : H a = some (.tup vs) → NkVs H ks vs → NkV H (.tup ks) (.ref a)
inductive NkVs (H : Hp) : List NestedKey → List V → Prop
  | nil : NkVs H [] []
  | cons {k : NestedKey} {v : V} {ks : List NestedKey} {vs : List V} : NkV H k v → NkVs H ks vs → NkVs H (k :: ks) (v :: vs)
end
mutual
theorem NkV.is {P : Program} {w : World} {H : Hp} {h : Heap} (ok : HOk P w H h) : ∀ (k : NestedKey) (v : V) (u : Value), NkV H k v → RelV v u → NestedIs h k u
  | .none, _, u, hk, r => by cases hk; cases (show u = Value.none from r); exact .none
  | .num i, _, u, hk, r => by cases hk; obtain ⟨t, rfl⟩ := (show ∃ t, u = Value.int i t from r); exact .int _ _
  | .text x, _, u, hk, r => by cases hk
  | .tup ks, _, u, hk, r => by
    cases hk with
    | @tup a _ vs h1 h2 =>
      cases (show u = Value.ref a from r)
      obtain ⟨_, its, rv, o, ho, hc, n, hd⟩ := (show ObjOk P w H h a (.tup vs) from ok a _ h1)
      exact .tup ho hc hd (by simpa using NkVs.is ok ks vs its h2 rv)
theorem NkVs.is {P : Program} {w : World} {H : Hp} {h : Heap} (ok : HOk P w H h) : ∀ (ks : List NestedKey) (vs : List V) (us : List Value), NkVs H ks vs → Vals vs us → NestedAll h ks us
  | [], _, us, hk, r => by cases hk; cases r; exact .nil
  | k :: ks, _, us, hk, r => by
    cases hk with
    | cons h1 h2 =>
      cases r with
      | cons r1 r2 => exact .cons (NkV.is ok k _ _ h1 r1) (NkVs.is ok ks _ _ h2 r2)
end
mutual
theorem NkV.hash {H : Hp} (w w' : World) : ∀ (k : NestedKey) (v : V), NkV H k v → k.hash w = k.hash w'
  | .none, _, _ => rfl
  | .num i, _, _ => rfl
  | .text x, _, hk => by cases hk
  | .tup ks, _, hk => by
    cases hk with
    | tup h1 h2 => rw [NestedKey.hash, NestedKey.hash, NkVs.hash w w' ks _ h2]
theorem NkVs.hash {H : Hp} (w w' : World) : ∀ (ks : List NestedKey) (vs : List V), NkVs H ks vs → NestedKey.hashes w ks = NestedKey.hashes w' ks
  | [], _, _ => rfl
  | k :: ks, _, hk => by
    cases hk with
    | cons h1 h2 => rw [NestedKey.hashes, NestedKey.hashes, NkV.hash w w' k _ h1, NkVs.hash w w' ks _ h2]
end
mutual
theorem NkV.mono {H H' : Hp} (e : ∀ b xs, H b = some (.tup xs) → H' b = some (.tup xs)) : ∀ (k : NestedKey) (v : V), NkV H k v → NkV H' k v
  | .none, _, hk => by cases hk; exact .none
  | .num i, _, hk => by cases hk; exact .int _
  | .text x, _, hk => by cases hk
  | .tup ks, _, hk => by
    cases hk with
    | tup h1 h2 => exact .tup (e _ _ h1) (NkVs.mono e ks _ h2)
theorem NkVs.mono {H H' : Hp} (e : ∀ b xs, H b = some (.tup xs) → H' b = some (.tup xs)) : ∀ (ks : List NestedKey) (vs : List V), NkVs H ks vs → NkVs H' ks vs
  | [], _, hk => by cases hk; exact .nil
  | k :: ks, _, hk => by
    cases hk with
    | cons h1 h2 => exact .cons (NkV.mono e k _ h1) (NkVs.mono e ks _ h2)
end
/-- a key, where its tuple stands, and the value -/
abbrev NE := NestedKey × Addr × V
abbrev KN : List NE → List (NestedKey × Addr × Value) → Prop := Paired fun p q => p.1 = q.1 ∧ p.2.1 = q.2.1 ∧ RelV p.2.2 q.2.2
def nval (kvs : List NE) (k : NestedKey) : Option V := (kvs.find? fun x => decide (x.1 = k)).map (·.2.2)
def nput (kvs : List NE) (k : NestedKey) (b : Addr) (v : V) : List NE := kvs ++ [(k, b, v)]
def DNok (kvs : List NE) (o : Obj) : Prop := o.ExactDict ∧ ∃ (es : Array DictEntry) (ep : Nat) (xs : List (NestedKey × Addr × Value)), o.data = .dict es ep ∧ KN kvs xs ∧
  (∀ w : World, es.toList = xs.map fun x => (⟨x.1.hash w, .ref x.2.1, x.2.2⟩ : DictEntry)) ∧ (xs.map (·.1)).Nodup
def DN (a : Addr) (o : Obj) (kvs : List NE) : HO := .ext fun h => h.get? a = some o ∧ kvs.length ≤ sizeLine ∧ (a == sysModules) = false ∧ DNok kvs o
def KeysN (H : Hp) (kvs : List NE) : Prop := ∀ p ∈ kvs, NkV H p.1 (.ref p.2.1) ∧ p.1.depth ≤ 8
/-- the dict at a, its keys known -/
def DnAt (H : Hp) (a : Addr) (kvs : List NE) : Prop := (∃ o, H a = some (DN a o kvs)) ∧ KeysN H kvs
theorem KeysN.mono {H H' : Hp} {kvs : List NE} (h : KeysN H kvs) (e : ∀ b xs, H b = some (.tup xs) → H' b = some (.tup xs)) : KeysN H' kvs := fun p hp => ⟨NkV.mono e _ _ (h p hp).1, (h p hp).2⟩
theorem KN.val {kvs : List NE} {xs : List (NestedKey × Addr × Value)} (r : KN kvs xs) (k : NestedKey) : RelO (nval kvs k) ((atKey xs k).map (·.2)) := by
  induction r with
  | nil => exact True.intro
  | @cons p q ps qs h t ih =>
    obtain ⟨h1, h2, h3⟩ := h
    by_cases e : p.1 = k
    · have e' : q.1 = k := h1.symm.trans e
      have b : atKey (q :: qs) k = some q.2 := by simp [atKey, List.find?_cons, e']
      have c : nval (p :: ps) k = some p.2.2 := by simp [nval, List.find?_cons, e]
      rw [c, b]; exact h3
    · have e' : ¬ q.1 = k := fun z => e (h1.trans z)
      have b : atKey (q :: qs) k = atKey qs k := by simp [atKey, List.find?_cons, e']
      have c : nval (p :: ps) k = nval ps k := by simp [nval, List.find?_cons, e]
      rw [c, b]; exact ih
theorem KN.key {kvs : List NE} {xs : List (NestedKey × Addr × Value)} (r : KN kvs xs) : ∀ x ∈ xs, ∃ p ∈ kvs, p.1 = x.1 ∧ p.2.1 = x.2.1 := by
  induction r with
  | nil => intro x hx; exact nomatch hx
  | @cons p q ps qs h t ih =>
    intro x hx
    rcases List.mem_cons.mp hx with e | hx
    · subst e; exact ⟨p, List.mem_cons_self, h.1, h.2.1⟩
    · obtain ⟨y, hy, e⟩ := ih x hx
      exact ⟨y, List.mem_cons_of_mem _ hy, e⟩
theorem KN.keys {kvs : List NE} {xs : List (NestedKey × Addr × Value)} (r : KN kvs xs) : kvs.map (·.1) = xs.map (·.1) := by
  induction r with
  | nil => rfl
  | cons h t ih => rw [List.map_cons, List.map_cons, ih, h.1]
theorem nval_none_iff {kvs : List NE} {k : NestedKey} : nval kvs k = none ↔ k ∉ kvs.map (·.1) := by
  unfold nval
  rw [Option.map_eq_none_iff, List.find?_eq_none]
  constructor
  · intro h hk
    obtain ⟨p, hp, e⟩ := List.mem_map.mp hk
    exact h p hp (by simp [e])
  · intro h p hp e
    exact h (List.mem_map.mpr ⟨p, hp, by simpa using e⟩)
section
variable {X : Cx} {pins : List (Addr × Obj)} {σ : St} {H : Hp} {s : Shared} {a b : Addr} {kvs : List NE} {k : NestedKey} {o : Obj} {A : Around} {E : Value → Shared → Prop}
theorem dn_ok (I : Inv X pins σ H s) (h : H a = some (DN a o kvs)) : s.heap.get? a = some o ∧ kvs.length ≤ sizeLine ∧ (a == sysModules) = false ∧ DNok kvs o := by
  have x : ObjOk X.prog X.w H s.heap a (.ext fun h => h.get? a = some o ∧ kvs.length ≤ sizeLine ∧ (a == sysModules) = false ∧ DNok kvs o) := I.hok a _ h
  exact x.1
theorem nkey_of (I : Inv X pins σ H s) (hk : NkV H k (.ref b)) (hd : k.depth ≤ 8) : (nestedKind X.prog X.w).is s.heap k b := ⟨NkV.is I.hok k _ _ hk rfl, hd⟩
theorem dn_of (I : Inv X pins σ H s) (h : DnAt H a kvs) : kvs.length ≤ sizeLine ∧ (a == sysModules) = false ∧ ∃ xs, KN kvs xs ∧ s.heap.DictOfH (nestedKind X.prog X.w) a xs := by
  obtain ⟨⟨o, ho⟩, hk⟩ := h
  obtain ⟨h1, h2, h3, h4, es, ep, xs, h5, h6, h7, h8⟩ := dn_ok I ho
  refine ⟨h2, h3, xs, h6, o, es, ep, h1, h4, h5, h7 X.w, fun x hx => ?_, h8⟩
  obtain ⟨p, hp, e1, e2⟩ := h6.key x hx
  obtain ⟨q1, q2⟩ := hk p hp
  rw [e1, e2] at q1
  rw [e1] at q2
  exact nkey_of I q1 q2
theorem nroom (hu : A.units + 9 < cLine) : (nestedKind X.prog X.w).room A.in1 := by
  show A.in1.units + 8 < cLine
  rw [Around.in1_units]
  omega
theorem KN.len {xs : List (NestedKey × Addr × Value)} (r : KN kvs xs) : kvs.length = xs.length := Paired.length r
theorem dn_typeIs (I : Inv X pins σ H s) (h : DnAt H a kvs) : s.TypeIs (.ref a) "dict" := (dn_of I h).2.2.choose_spec.2.typeIs
theorem dn_noDict (I : Inv X pins σ H s) (h : DnAt H a kvs) : ∀ c, Value.ref a = .ref c → ∃ ob, s.heap.get? c = some ob ∧ ob.dict = none := fun c q => by
  cases q
  obtain ⟨_, _, xs, _, ob, _, _, h1, h2, _⟩ := dn_of I h
  exact ⟨ob, h1, h2.2.1⟩
/-- the new dict behind a write -/
theorem dn_put {h' : Heap} {t' : Nat} {v : V} {u : Value} {xs : List (NestedKey × Addr × Value)} (I : Inv X pins σ H s) (hA : DnAt H a kvs) (hk : NkV H k (.ref b)) (hd : k.depth ≤ 8) (hn : nval kvs k = none) (hl : kvs.length < sizeLine)
    (r : KN kvs xs) (rv : RelV v u) (hs : Heap.SameBut a s.heap h') (dd : h'.DictOfH (nestedKind X.prog X.w) a (storedH xs k b u)) :
    ∃ o', Inv X pins σ (upd H a (DN a o' (nput kvs k b v))) { s with heap := h', toks := t' } := by
  obtain ⟨⟨o, ho⟩, hks⟩ := id hA
  obtain ⟨g1, g2, g3, g4, _⟩ := dn_ok I ho
  have hx : atKey xs k = none := by
    have q := r.val k
    rw [hn] at q
    have := RelO.none_of q
    exact Option.map_eq_none_iff.mp this
  rw [storedH_new hx] at dd
  obtain ⟨o', es, ep, q1, q2, q3, q4, q5, q6⟩ := dd
  have r' : KN (nput kvs k b v) (xs ++ [(k, b, u)]) := Paired.snoc r ⟨rfl, rfl, rv⟩
  refine ⟨o', d_write I (by rw [ho]; exact True.intro) hs ⟨o', q1⟩ ?_⟩
  refine ⟨⟨q1, ?_, g3, q2, es, ep, _, q3, r', fun w => ?_, q6⟩, ⟨o', q1⟩, fun h1 h2 z e => ⟨e _ z.1, z.2⟩⟩
  · unfold nput; rw [List.length_append, List.length_singleton]; omega
  · rw [q4]
    refine List.map_congr_left fun x hx => ?_
    obtain ⟨p, hp, e1, e2⟩ := r'.key x hx
    have hh : x.1.hash X.w = x.1.hash w := by
      unfold nput at hp
      rcases List.mem_append.mp hp with hp | hp
      · rw [← e1]; exact NkV.hash _ _ _ _ (hks p hp).1
      · rw [List.mem_singleton] at hp
        subst hp
        rw [← e1]; exact NkV.hash _ _ _ _ hk
    show (⟨x.1.hash X.w, .ref x.2.1, x.2.2⟩ : DictEntry) = _
    rw [hh]
theorem dn_empty {P : Program} {w : World} {H : Hp} (h : Heap) (hb : sysModules < h.objs.size) : ObjOk P w H (h.push { cls := .type "dict", data := .dict #[] }) h.objs.size (DN h.objs.size { cls := .type "dict", data := .dict #[] } []) :=
  ⟨⟨Heap.get?_push_size _ rfl, Nat.zero_le _, beq_eq_false_iff_ne.mpr (Ne.symm (Nat.ne_of_lt hb)), ⟨rfl, rfl, rfl⟩, #[], 0, [], rfl, .nil, fun _ => rfl, List.nodup_nil⟩, ⟨_, Heap.get?_push_size _ rfl⟩, fun h1 h2 z e => ⟨e _ z.1, z.2⟩⟩
end
/-! ### readings and rules -/
def tNNew : TE := fun _ H Q => ∀ p o, H p = none → Q (.ref p) (upd H p (DN p o []))
def tNGet (td ty : TE) : TE := fun σ H Q => td σ H fun x H1 => ty σ H1 fun y H2 => ∃ a b kvs k v, x = .ref a ∧ y = .ref b ∧ DnAt H2 a kvs ∧ NkV H2 k (.ref b) ∧ k.depth ≤ 8 ∧ nval kvs k = some v ∧ Q v H2
def tNIn (ty td : TE) : TE := fun σ H Q => ty σ H fun y H1 => td σ H1 fun x H2 => ∃ a b kvs k, x = .ref a ∧ y = .ref b ∧ DnAt H2 a kvs ∧ NkV H2 k (.ref b) ∧ k.depth ≤ 8 ∧ Q (.bl (nval kvs k).isSome) H2
def tNNotIn (ty td : TE) : TE := fun σ H Q => ty σ H fun y H1 => td σ H1 fun x H2 => ∃ a b kvs k, x = .ref a ∧ y = .ref b ∧ DnAt H2 a kvs ∧ NkV H2 k (.ref b) ∧ k.depth ≤ 8 ∧ Q (.bl (!(nval kvs k).isSome)) H2
/-- d[y] = v, y new -/
def sNPut (td ty tv : TE) : TS := fun D σ H => tv σ H fun v H1 => td σ H1 fun x H2 => ty σ H2 fun y H3 => ∃ a b kvs k, x = .ref a ∧ y = .ref b ∧ DnAt H3 a kvs ∧ NkV H3 k (.ref b) ∧ k.depth ≤ 8 ∧ nval kvs k = none ∧ kvs.length < sizeLine ∧
  ∀ o', D.nx σ (upd H3 a (DN a o' (nput kvs k b v)))
def tNSetD (td ty tx : TE) : TE := fun σ H Q => td σ H fun x H1 => ∃ a kvs1, x = .ref a ∧ DnAt H1 a kvs1 ∧ ty σ H1 fun y H2 => tx σ H2 fun z H3 => ∃ b kvs k, y = .ref b ∧ DnAt H3 a kvs ∧ NkV H3 k (.ref b) ∧ k.depth ≤ 8 ∧ kvs.length < sizeLine ∧
  (∀ v, nval kvs k = some v → Q v H3) ∧ (nval kvs k = none → ∀ o', Q z (upd H3 a (DN a o' (nput kvs k b z))))
section
variable {X : Cx} {o i e f value : Expr} {pos pos' tpos apos cpos : Pos} {td ty tv tx : TE}
theorem pe_nnew : PE X (.Dict [] [] pos) tNNew := ⟨fun pins s σ H Q I h =>
  wpAny_Dict_empty ⟨.ref s.heap.objs.size, _, I.laid (a := s.heap.objs.size) (t' := s.toks) (fun _ _ q => Heap.get?_push_of_some _ q) (Nat.le_refl _) (dn_empty s.heap I.big), rfl, h _ _ (I.hok.fresh (Nat.le_refl _))⟩⟩
theorem pe_nget (hu : X.A.units + 9 < cLine) (ho : PE X o td) (hi : PE X i ty) (hs : NoSl i) : PE X (.Subscript o i pos) (tNGet td ty) := by
  refine ⟨fun pins s σ H Q I h => ?_⟩
  refine subD_of PySem.F.slot_dict_getitem.lookup hs (thn (ho.run pins s σ H _ I h) fun u s1 ⟨x, H1, I1, rx, q1⟩ => thn (hi.run pins s1 σ H1 _ I1 q1) fun iv s2 ⟨y, H2, I2, ry, a, b, kvs, k, v, ex, ey, hd, hk, dp, hv, q2⟩ => ?_)
  subst ex ey
  obtain rfl : u = Value.ref a := rx
  obtain rfl : iv = Value.ref b := ry
  refine ⟨dn_typeIs I2 hd, ?_⟩
  obtain ⟨_, _, xs, rel, dd⟩ := dn_of I2 hd
  obtain ⟨w', hw, rw'⟩ := RelO.some_of (v := v) (o := (atKey xs k).map (·.2)) (by rw [← hv]; exact rel.val k)
  obtain ⟨p, hp, hp2⟩ := Option.map_eq_some_iff.mp hw
  refine wpAny_getItem_heap (nroom hu) (nkey_of I2 hk dp) dd hp ?_
  rw [hp2]
  exact ⟨v, H2, I2.tok _, rw', q2⟩
theorem pc_nin (hu : X.A.units + 9 < cLine) (hi : PE X i ty) (ho : PE X o td) : PC X .In i o (tNIn ty td) := by
  refine ⟨fun pins s σ H Q I h => ?_⟩
  refine thn (hi.run pins s σ H _ I h) fun iv s1 ⟨y, H1, I1, ry, q1⟩ => thn (ho.run pins s1 σ H1 _ I1 q1) fun u s2 ⟨x, H2, I2, rx, a, b, kvs, k, ex, ey, hd, hk, dp, q2⟩ => ?_
  subst ex ey
  obtain rfl : u = Value.ref a := rx
  obtain rfl : iv = Value.ref b := ry
  obtain ⟨_, hm, xs, rel, dd⟩ := dn_of I2 hd
  refine wpAny_in_heap (nroom hu) (nkey_of I2 hk dp) hm dd ?_
  have q := (rel.val k).isSome_eq
  rw [Option.isSome_map] at q
  rw [← q]
  exact ⟨.bl (nval kvs k).isSome, H2, I2.tok _, rfl, q2⟩
theorem pc_nnotin (hu : X.A.units + 9 < cLine) (hi : PE X i ty) (ho : PE X o td) : PC X .NotIn i o (tNNotIn ty td) := by
  refine ⟨fun pins s σ H Q I h => ?_⟩
  refine thn (hi.run pins s σ H _ I h) fun iv s1 ⟨y, H1, I1, ry, q1⟩ => thn (ho.run pins s1 σ H1 _ I1 q1) fun u s2 ⟨x, H2, I2, rx, a, b, kvs, k, ex, ey, hd, hk, dp, q2⟩ => ?_
  subst ex ey
  obtain rfl : u = Value.ref a := rx
  obtain rfl : iv = Value.ref b := ry
  obtain ⟨_, hm, xs, rel, dd⟩ := dn_of I2 hd
  refine wpAny_notIn_heap (nroom hu) (nkey_of I2 hk dp) hm dd ?_
  have q := (rel.val k).isSome_eq
  rw [Option.isSome_map] at q
  rw [← q]
  exact ⟨.bl (!(nval kvs k).isSome), H2, I2.tok _, rfl, q2⟩
theorem ps_nput (hu : X.A.units + 9 < cLine) (ho : PE X o td) (hi : PE X i ty) (hv : PE X value tv) (hs : swapsWith value (some (.Subscript o i pos')) pos.line X.env = pure false) :
    PS X (.Assign [.Subscript o i pos'] value pos) (sNPut td ty tv) := by
  refine ⟨fun pins s σ H D I h => ?_⟩
  refine wpAny_Assign_Subscript (thn (hv.run pins s σ H _ I h) fun r s1 ⟨v, H1, I1, rv, q1⟩ => thn (ho.run pins s1 σ H1 _ I1 q1) fun u s2 ⟨x, H2, I2, rx, q2⟩ => thn (hi.run pins s2 σ H2 _ I2 q2) fun iv s3 ⟨y, H3, I3, ry, a, b, kvs, k, ex, ey, hd, hk, dp, hn, hl, q3⟩ => ?_) hs
  subst ex ey
  obtain rfl : u = Value.ref a := rx
  obtain rfl : iv = Value.ref b := ry
  obtain ⟨z, hm, xs, rel, dd⟩ := dn_of I3 hd
  have hz : xs.length ≤ sizeLine := by rw [← rel.len]; exact z
  refine wpAny_setItem_heap (hsz := hz) (nroom hu) (nkey_of I3 hk dp) dd fun h' dd' hs' => ?_
  obtain ⟨o', I4⟩ := dn_put I3 hd hk dp hn hl rel rv hs' dd'
  exact ⟨σ, _, I4, q3 o'⟩
theorem pe_nsetd (hu : X.A.units + 9 < cLine) (ho : PE X o td) (he : PE X e ty) (hf : PE X f tx) (m : M2 X o "setdefault" apos e f cpos) : PE X (.Call (.Attribute o "setdefault" apos) [e, f] [] cpos) (tNSetD td ty tx) := by
  refine ⟨fun pins s σ H Q I h => ?_⟩
  refine wpAny_Call_method m.base m.few m.line PySem.F.plainAttrs_dict PySem.F.slot_dict_setdefault PySem.F.type_dict_setdefault (thn (ho.run pins s σ H _ I h) fun u s1 ⟨x, H1, I1, rx, a, kvs1, ex, d, q1⟩ => ?_)
  subst ex
  obtain rfl : u = Value.ref a := rx
  refine ⟨dn_typeIs I1 d, dn_noDict I1 d, ?_⟩
  rw [m.trees]
  refine Calls.callWith_builtin rfl (Calls.evalArgs_plain (Calls.spliced_cons (thn (he.run pins s1 σ H1 _ I1 q1) fun iv s2 ⟨y, H2, I2, ry, q2⟩ =>
    Calls.spliced_cons (thn (hf.run pins s2 σ H2 _ I2 q2) fun fv s3 ⟨z, H3, I3, rz, b, kvs, k, ey, hd, hk, dp, hl, q3, q4⟩ => Calls.spliced_nil ?_))))
  subst ey
  obtain rfl : iv = Value.ref b := ry
  obtain ⟨hz0, hm, xs, rel, dd⟩ := dn_of I3 hd
  have hz : xs.length ≤ sizeLine := by rw [← rel.len]; exact hz0
  refine call_setdefault_heap (hsz := hz) (nroom hu) (nkey_of I3 hk dp) hm dd (fun p hp => ?_) fun hn h' dd' hs' => ?_
  · have q := rel.val k
    rw [hp] at q
    cases hv : nval kvs k with
    | none => rw [hv] at q; exact (show False from q).elim
    | some v =>
      rw [hv] at q
      exact ⟨v, H3, I3.tok _, q, q3 v hv⟩
  · have hv : nval kvs k = none := by
      have q := rel.val k
      rw [hn] at q
      cases hv : nval kvs k with
      | none => rfl
      | some v => rw [hv] at q; exact (show False from q).elim
    obtain ⟨o', I4⟩ := dn_put I3 hd hk dp hv hl rel rz hs' dd'
    exact ⟨z, _, I4, rz, q4 hv o'⟩
end
/-! ### list(d), for k in d -/
theorem dn_keys (w : World) {kvs : List NE} {o : Obj} (h : DNok kvs o) : o.ExactDict ∧ ∃ (es : Array DictEntry) (ep : Nat), o.data = .dict es ep ∧ es.size = kvs.length ∧ ∀ (i : Nat) (x : NE), kvs[i]? = some x → ∃ en : DictEntry, es[i]? = some en ∧ en.key = .ref x.2.1 := by
  obtain ⟨h4, es, ep, xs, h5, h6, h7, h8⟩ := h
  have hes := h7 w
  have hl : es.size = xs.length := by rw [← Array.length_toList, hes, List.length_map]
  refine ⟨h4, es, ep, h5, by rw [hl, h6.len], fun i x hx => ?_⟩
  obtain ⟨y, hy, e1, e2, _⟩ := paired_get h6 hx
  refine ⟨_, by rw [← Array.getElem?_toList, hes, List.getElem?_map, hy]; rfl, ?_⟩
  show Value.ref y.2.1 = _
  rw [e2]
theorem vals_nrefs : ∀ kvs : List NE, Vals (kvs.map fun x => V.ref x.2.1) (kvs.map fun x => Value.ref x.2.1)
  | [] => .nil
  | x :: r => .cons rfl (vals_nrefs r)
section
variable {X : Cx}
theorem call_listN (hcalm : X.calm = true) : CallR X (.type "list") (fun xs H Q => ∃ (a : Addr) (o : Obj) (kvs : List NE), xs = [.ref a] ∧ H a = some (DN a o kvs) ∧ ∀ p, H p = none → Q (.ref p) (upd H p (.lst (kvs.map fun kv => .ref kv.2.1)))) := by
  intro pins s σ H xs us Q I r q
  obtain ⟨a, o, kvs, ex, hd, q⟩ := q
  subst ex
  obtain ⟨u, eu, rx⟩ := vals1 r
  subst eu
  cases rx
  obtain ⟨g1, z, lo, g4⟩ := dn_ok I hd
  obtain ⟨hx, es, ep, hdt, hsz, ent⟩ := dn_keys X.w g4
  refine PySem.W.kdl_call (kdl_raw lo hx hdt) (I.ok.hd hcalm) g1 (by omega) fun h' tk acc c' hk hD hacc => ?_
  have ea : acc.toList = kvs.map fun x => Value.ref x.2.1 := by
    have hl : acc.toList.length = kvs.length := by rw [Array.length_toList, hacc.1]; exact hsz
    apply List.ext_getElem?
    intro j
    rw [List.getElem?_map]
    cases hj : acc.toList[j]? with
    | none =>
      have h1 := List.getElem?_eq_none_iff.mp hj
      rw [List.getElem?_eq_none (by omega)]
      rfl
    | some v =>
      obtain ⟨en, hen, hv⟩ := hacc.2 j v (by rw [← Array.getElem?_toList]; exact hj)
      have hjl : j < kvs.length := by
        have := (List.getElem?_eq_some_iff.mp hj).1
        omega
      obtain ⟨en', hen', hv'⟩ := ent j _ (List.getElem?_eq_getElem hjl)
      rw [hen] at hen'
      cases hen'
      rw [List.getElem?_eq_getElem hjl, hv, hv']
      rfl
  have hv : Vals (kvs.map fun x => V.ref x.2.1) acc.toList := by
    rw [ea]
    exact vals_nrefs kvs
  exact ⟨.ref s.heap.objs.size, upd H s.heap.objs.size (.lst (kvs.map fun kv => V.ref kv.2.1)), I.laid (t' := tk) hk (Nat.le_refl _)
    (show ObjOk X.prog X.w _ _ _ (.lst (kvs.map fun kv => V.ref kv.2.1)) from ⟨by rw [List.length_map]; exact z, acc.toList, c', hv, by rw [Array.toArray_toList]; exact hD⟩), rfl, q _ (I.hok.fresh (Nat.le_refl _))⟩
end
/-- the keys of the dict at d, in their order, while it stays as it is -/
def Itdn (d : Addr) (o : Obj) (kvs : List NE) : It :=
  ⟨fun i H => H d = some (DN d o kvs) ∧ i < kvs.length, fun i H x H' => H' = H ∧ ∃ e, kvs[i]? = some e ∧ x = .ref e.2.1, fun i H => H d = some (DN d o kvs) ∧ kvs.length ≤ i⟩
def iKeysN (td : TE) : TI := fun σ H R => td σ H fun x H1 => ∃ d o kvs, x = .ref d ∧ H1 d = some (DN d o kvs) ∧ R (Itdn d o kvs) H1
theorem turn_keysN {P : Program} {w : World} {K : PySem.W.Frag} {tg : Expr} {d : Addr} {o : Obj} {es : Array DictEntry} {ep : Nat} {kvs : List NE} (it : Addr) (hod : o.data = .dict es ep) :
    Turn P w K tg (Itdn d o kvs) [it] it (fun i h => h.IsKeyIter it d i kvs.length ep) where
  mem := by simp
  obj := fun i h st b hb => by
    have e : b = it := by simpa using hb
    subst e
    obtain ⟨oi, e, c, dd⟩ := st
    exact ⟨oi, e, fun v z => by rw [dd] at z; cases z⟩
  keep := fun i h h' st k => st.at fun oi e => k it (by simp) oi e
  item := by
    intro X hP hw hK hc i pins s σ H E I hf st hg
    subst hP hw hK
    obtain ⟨hd, hi⟩ := hg
    obtain ⟨f0, f1, f2, f3, f4, f5⟩ := hf it (by simp)
    obtain ⟨hgd, z, lo, g4⟩ := dn_ok I hd
    obtain ⟨hx, es', ep', hdt, hsz, ent⟩ := dn_keys X.w g4
    obtain ⟨rfl, rfl⟩ := dict_ep hod hdt
    obtain ⟨x, hkv⟩ : ∃ p, kvs[i]? = some p := ⟨kvs[i], List.getElem?_eq_getElem hi⟩
    obtain ⟨en, hen, hkey⟩ := ent i x hkv
    refine next_key_item st hgd hdt hsz hen fun h' st' sb => ?_
    have I1 : Inv X pins σ H { s with heap := h' } := I.turned (t' := s.toks) (fun b ob hb e => (sb.2 b hb).trans e) f0 f1 f3 f4 f5
    obtain ⟨oi, e, c, dd⟩ := id st'
    exact ⟨en.key, rfl, go_of (s := { s with heap := h' }) e c dd (by decide) ⟨.ref x.2.1, H, I1, hkey, ⟨rfl, x, hkv, rfl⟩, st', fun b hb => (hf b hb).1⟩⟩
  done := by
    intro X hP hw hK hc i pins s σ H E I hf st hg
    subst hP hw hK
    obtain ⟨hd, hi⟩ := hg
    obtain ⟨f0, f1, f2, f3, f4, f5⟩ := hf it (by simp)
    obtain ⟨hgd, z, lo, g4⟩ := dn_ok I hd
    obtain ⟨hx, es', ep', hdt, hsz, ent⟩ := dn_keys X.w g4
    obtain ⟨rfl, rfl⟩ := dict_ep hod hdt
    exact next_key_end (I.ok.hd hc) st hgd hdt hsz hi fun h' eb => ⟨rfl, I.turned (t' := s.toks) (fun b ob hb e => eb b ob hb e) f0 f1 f3 f4 f5⟩
  self := fun A i s Q E st h => by
    refine wpAny_pyIter_slot st.typeIs F.slot_dict_keyiterator_iter (wpAny_call_entry F.slot_dict_keyiterator_iter st.typeIs F.entry_dict_keyiterator_iter ?_ (F.args_dict_keyiterator_iter_1 _))
    show wpAny _ _ (ret (.ref it)) _ _ s
    exact wpAny_pure ⟨_, rfl, "dict_keyiterator", _, st.typeIs, F.slot_dict_keyiterator_next.lookup, h⟩
theorem pi_keysN {X : Cx} {tg e : Expr} {td : TE} (he : PE X e td) : PI X tg e (iKeysN td) := by
  refine ⟨fun pins s σ H R I h => ?_⟩
  refine thn (he.run pins s σ H _ I h) fun u s1 ⟨x, H1, I1, rx, d, o, kvs, ex, hd, q⟩ => ?_
  subst ex
  obtain rfl : u = Value.ref d := rx
  obtain ⟨hgd, z, lo, g4⟩ := dn_ok I1 hd
  obtain ⟨hx, es, ep, hdt, hsz, ent⟩ := dn_keys X.w g4
  refine iter_keys lo hgd hx hdt (pi_one (tk := s1.toks) I1 _ (turn_keysN _ hdt) ⟨_, Heap.get?_push_size _ rfl, rfl, ?_⟩ q)
  rw [hsz]
  rfl
end L2

namespace L2
open PySem PySem.Spec PyProof.Rows
theorem hu9 {A : Around} {k : Nat} (hr : Room k A) : A.units + 9 < cLine := Nat.lt_of_le_of_lt (Nat.add_le_add_left (by decide : 9 ≤ 64) _) hr.units
/-! ## states as keys -/
def entK (m : JE) : NestedKey := .tup [.num m.1, .tup (m.2.map .num)]
def skey (st : JS) : NestedKey := .tup [.tup (st.1.map .num), .tup (st.2.map entK)]
theorem nums_inj : ∀ {l m : List Int}, l.map NestedKey.num = m.map NestedKey.num → l = m
  | [], [], _ => rfl
  | [], _ :: _, h => by simp at h
  | _ :: _, [], h => by simp at h
  | a :: l, b :: m, h => by
    rw [List.map_cons, List.map_cons] at h
    injection h with h1 h2
    injection h1 with h1
    rw [h1, nums_inj h2]
theorem entK_inj {m n : JE} (h : entK m = entK n) : m = n := by
  unfold entK at h
  injection h with h
  injection h with h1 h2
  injection h1 with h1
  injection h2 with h2 _
  injection h2 with h2
  exact Prod.ext h1 (nums_inj h2)
theorem ents_inj : ∀ {l m : List JE}, l.map entK = m.map entK → l = m
  | [], [], _ => rfl
  | [], _ :: _, h => by simp at h
  | _ :: _, [], h => by simp at h
  | a :: l, b :: m, h => by
    rw [List.map_cons, List.map_cons] at h
    injection h with h1 h2
    rw [entK_inj h1, ents_inj h2]
theorem skey_inj {s t : JS} (h : skey s = skey t) : s = t := by
  unfold skey at h
  injection h with h
  injection h with h1 h2
  injection h1 with h1
  injection h2 with h2 _
  injection h2 with h2
  exact Prod.ext (nums_inj h1) (ents_inj h2)
theorem nk_ints {H : Hp} : ∀ l : List Int, NkVs H (l.map .num) (l.map V.int)
  | [] => .nil
  | a :: l => .cons (.int a) (nk_ints l)
theorem EntAt.nk {H : Hp} {c : Addr} {m : JE} (h : EntAt H c m) : NkV H (entK m) (.ref c) := by
  obtain ⟨t, h1, h2⟩ := h
  exact .tup h1 (.cons (.int _) (.cons (.tup h2 (nk_ints _)) .nil))
theorem nk_ents {H : Hp} : ∀ {cs : List Addr} {mem : List JE}, EntsAt H cs mem → NkVs H (mem.map entK) (cs.map V.ref)
  | [], [], _ => .nil
  | [], _ :: _, h => by cases h.1
  | _ :: _, [], h => by cases h.1
  | a :: as, r :: rows, h => .cons (h.2 0 a r rfl rfl).nk (nk_ents ⟨by have := h.1; simpa using this, fun j b row h1 h2 => h.2 (j + 1) b row h1 h2⟩)
theorem StJ.nk {H : Hp} {s : Addr} {st : JS} (h : StJ H s st) : NkV H (skey st) (.ref s) := by
  obtain ⟨pt, mt, es, h1, h2, h3, h4⟩ := h
  exact .tup h1 (.cons (.tup h2 (nk_ints _)) (.cons (.tup h3 (nk_ents h4)) .nil))
theorem depth_nums : ∀ l : List Int, NestedKey.depthAll (l.map NestedKey.num) = 0
  | [] => rfl
  | a :: l => by rw [List.map_cons, NestedKey.depthAll, depth_nums l]; rfl
theorem depth_entK (m : JE) : (entK m).depth = 2 := by
  simp [entK, NestedKey.depth, NestedKey.depthAll, depth_nums]
theorem depth_entKs : ∀ l : List JE, NestedKey.depthAll (l.map entK) ≤ 2
  | [] => by rw [List.map_nil, NestedKey.depthAll]; omega
  | a :: l => by
    have := depth_entKs l
    rw [List.map_cons, NestedKey.depthAll, depth_entK]
    omega
theorem depth_skey (st : JS) : (skey st).depth ≤ 8 := by
  have := depth_entKs st.2
  simp [skey, NestedKey.depth, NestedKey.depthAll, depth_nums]
  omega
/-- the tuples stay -/
def TpK (H H' : Hp) : Prop := ∀ b xs, H b = some (.tup xs) → H' b = some (.tup xs)
theorem Same.tpk {H H' : Hp} (e : Same H H') : TpK H H' := fun b xs h => e b _ h
theorem TpK.trans {H H' H'' : Hp} (e : TpK H H') (f : TpK H' H'') : TpK H H'' := fun b xs h => f b xs (e b xs h)
theorem TpK.put {H : Hp} {a : Addr} {u o : HO} (h : H a = some u) (n : ∀ xs, u ≠ .tup xs) : TpK H (upd H a o) := fun b xs hb => by rw [upd_ne (ne_of hb h fun z => n _ z.symm)]; exact hb
theorem EntAt.tpk {H H' : Hp} {x : Addr} {m : JE} (e : TpK H H') (h : EntAt H x m) : EntAt H' x m := let ⟨t, h1, h2⟩ := h; ⟨t, e _ _ h1, e _ _ h2⟩
theorem EntsAt.tpk {H H' : Hp} {cs : List Addr} {mem : List JE} (e : TpK H H') (h : EntsAt H cs mem) : EntsAt H' cs mem := ⟨h.1, fun i x m h1 h2 => (h.2 i x m h1 h2).tpk e⟩
theorem StJ.tpk {H H' : Hp} {s : Addr} {st : JS} (e : TpK H H') (h : StJ H s st) : StJ H' s st := let ⟨pt, mt, es, h1, h2, h3, h4⟩ := h; ⟨pt, mt, es, e _ _ h1, e _ _ h2, e _ _ h3, h4.tpk e⟩
theorem PaJ.tpk {H H' : Hp} {p : Addr} {x : Int × JS} (e : TpK H H') (h : PaJ H p x) : PaJ H' p x := let ⟨s, h1, h2⟩ := h; ⟨s, e _ _ h1, h2.tpk e⟩
theorem PasJ.tpk {H H' : Hp} {ps : List Addr} {xs : List (Int × JS)} (e : TpK H H') (h : PasJ H ps xs) : PasJ H' ps xs := ⟨h.1, fun i p x h1 h2 => (h.2 i p x h1 h2).tpk e⟩
/-! ## states that follow are states -/
theorem asc_len : ∀ (l : List JE) (lo : Int), l.Pairwise (fun m n => m.1 < n.1) → (∀ m ∈ l, lo ≤ m.1 ∧ m.1 < 48) → (l.length : Int) ≤ 48 - lo ∨ l = []
  | [], _, _, _ => .inr rfl
  | m :: l, lo, h, hb => by
    obtain ⟨h1, h2⟩ := List.pairwise_cons.mp h
    obtain ⟨b1, b2⟩ := hb m List.mem_cons_self
    left
    rcases asc_len l (m.1 + 1) h2 (fun n hn => ⟨by have := h1 n hn; omega, (hb n (List.mem_cons_of_mem _ hn)).2⟩) with h3 | h3
    · rw [List.length_cons]; omega
    · rw [h3, List.length_singleton]; omega
theorem StOk.few {ws : List JW} {st : JS} (h : StOk ws st) : st.2.length ≤ 48 := by
  rcases asc_len st.2 0 h.asc (fun m hm => ⟨(h.ent m hm).1, (h.ent m hm).2.1⟩) with h1 | h1
  · omega
  · rw [h1]; exact Nat.zero_le _
theorem remJ_asc {mem : List JE} (h : mem.Pairwise fun m n => m.1 < n.1) (q : Int) (n w : Nat) (a : Int) : (remJ mem q n w a).Pairwise fun m n => m.1 < n.1 := by
  unfold remJ
  refine List.pairwise_append.mpr ⟨List.pairwise_append.mpr ⟨h.filter _, List.pairwise_singleton _ _, fun x hx y hy => ?_⟩, h.filter _, fun x hx y hy => ?_⟩
  · rw [List.mem_singleton.mp hy]
    simpa using (List.mem_filter.mp hx).2
  · have hy' : q < y.1 := by simpa using (List.mem_filter.mp hy).2
    rcases List.mem_append.mp hx with hx | hx
    · have : x.1 < q := by simpa using (List.mem_filter.mp hx).2
      omega
    · rw [List.mem_singleton.mp hx]; exact hy'
theorem behJ_ok {ws : List JW} {sm : Bool} {st : JS} {w : Nat} {a : Int} (h : StOk ws st) (hG : ∀ y ∈ ws, GoodW y.1 y.2.1 y.2.2) (hw : w < ws.length) (h0 : 0 ≤ posI st.1 w) (ha : a = 0 ∨ a = 1) : StOk ws (behJ ws sm st w a) := by
  obtain ⟨q, t1, t2, r, hr, hrj, _, _, q0, q1, hq, _⟩ := place_at h hG hw h0
  obtain ⟨m1, m2⟩ := movJ_pos h hG hw h0 a
  refine ⟨m1, m2, fun m hm => ?_, (remJ_asc h.asc _ _ _ _).filter _⟩
  exact remJ_ent h (by rw [hq]; exact q0) (by rw [hq]; exact q1) ha m (List.mem_filter.mp hm).1
theorem steps_mem {ws : List JW} {sm : Bool} {st : JS} {x : Int × JS} (h : x ∈ stepsJ ws sm st) : ∃ w, turnJ st.1 = some w ∧ x.1 ∈ ansJ ws sm st w ∧ x.2 = behJ ws sm st w x.1 := by
  unfold stepsJ at h
  cases ht : turnJ st.1 with
  | none => rw [ht] at h; simp at h
  | some w =>
    rw [ht] at h
    obtain ⟨a, ha, rfl⟩ := List.mem_map.mp h
    exact ⟨w, rfl, ha, rfl⟩
theorem turn_at {ws : List JW} {st : JS} {w : Nat} (h : StOk ws st) (ht : turnJ st.1 = some w) : w < ws.length ∧ 0 ≤ posI st.1 w := by
  obtain ⟨h1, h2⟩ := turnTo_lt ht
  exact ⟨by rw [← h.len]; exact h1, h2⟩
theorem steps_ok {ws : List JW} {sm : Bool} {st : JS} (h : StOk ws st) (hG : ∀ y ∈ ws, GoodW y.1 y.2.1 y.2.2) : ∀ x ∈ stepsJ ws sm st, StOk ws x.2 ∧ (x.1 = 0 ∨ x.1 = 1) := by
  intro x hx
  obtain ⟨w, ht, ha, e⟩ := steps_mem hx
  obtain ⟨hw, h0⟩ := turn_at h ht
  rw [e]
  exact ⟨behJ_ok h hG hw h0 (ansJ_01 h _ ha), ansJ_01 h _ ha⟩
theorem steps_few (ws : List JW) (sm : Bool) (st : JS) : (stepsJ ws sm st).length ≤ 2 := by
  unfold stepsJ
  cases turnJ st.1 with
  | none => exact Nat.zero_le _
  | some w =>
    show ((ansJ ws sm st w).map _).length ≤ 2
    rw [List.length_map]
    unfold ansJ
    split
    · exact Nat.le_refl _
    · show 1 ≤ 2; decide
theorem posI_mov_ne {ws : List JW} {pos : List Int} {w u : Nat} {a : Int} (h : u ≠ w) : posI (movJ ws pos w a) u = posI pos u := by
  unfold movJ posI
  rw [List.getElem?_set_ne (fun e => h e.symm)]
theorem posI_mov_eq {ws : List JW} {pos : List Int} {w : Nat} {a : Int} (h : w < pos.length) : posI (movJ ws pos w a) w = tRow (rowP (rowsJ ws w) (posI pos w)) a := by
  unfold movJ
  show ((pos.set w _)[w]?).getD (-1) = _
  rw [List.getElem?_set_self h]
  rfl
/-! ## how far a state is from its ends -/
def depT (ws : List JW) (pos : List Int) : Nat → Nat
  | 0 => 0
  | k + 1 => depT ws pos k + (if 0 ≤ posI pos k then (rowsJ ws k).length - (posI pos k).toNat else 0)
def depJ (ws : List JW) (st : JS) : Nat := depT ws st.1 ws.length
theorem tgt_01 {row : List Int} {q t1 t2 : Int} {r : List Int} (h : row = q :: t1 :: t2 :: r) (a : Int) : tRow row a = t1 ∨ tRow row a = t2 := by
  subst h
  unfold tRow
  split
  · exact .inl rfl
  · exact .inr rfl
theorem depT_mov {ws : List JW} {st : JS} {w : Nat} {a : Int} (h : StOk ws st) (hG : ∀ y ∈ ws, GoodW y.1 y.2.1 y.2.2) (hw : w < ws.length) (h0 : 0 ≤ posI st.1 w) : ∀ k : Nat, (k ≤ w → depT ws (movJ ws st.1 w a) k = depT ws st.1 k) ∧ (w < k → depT ws (movJ ws st.1 w a) k + 1 ≤ depT ws st.1 k) := by
  obtain ⟨q, t1, t2, r, hr, hrj, _, hlt, _, _, _, b1, b2, u1, u2⟩ := place_at h hG hw h0
  intro k
  induction k with
  | zero => exact ⟨fun _ => rfl, fun h => by omega⟩
  | succ k ih =>
    obtain ⟨i1, i2⟩ := ih
    refine ⟨fun hk => ?_, fun hk => ?_⟩
    · unfold depT
      rw [i1 (by omega), posI_mov_ne (by omega)]
    · unfold depT
      by_cases e : k = w
      · subst e
        rw [i1 (Nat.le_refl _), posI_mov_eq (by rw [h.len]; exact hw), if_pos h0]
        have hlt' : posI st.1 k < (rowsJ ws k).length := by rw [hrj]; exact hlt
        have ht : tRow (rowP (rowsJ ws k) (posI st.1 k)) a < 0 ∨ posI st.1 k < tRow (rowP (rowsJ ws k) (posI st.1 k)) a := by
          rcases tgt_01 hr a with e | e
          · rw [e]
            by_cases z : 0 ≤ t1
            · exact .inr (u1 z)
            · exact .inl (by omega)
          · rw [e]
            by_cases z : 0 ≤ t2
            · exact .inr (u2 z)
            · exact .inl (by omega)
        split
        · omega
        · omega
      · rw [posI_mov_ne e]
        have := i2 (by omega)
        omega
theorem depJ_beh {ws : List JW} {sm : Bool} {st : JS} {w : Nat} {a : Int} (h : StOk ws st) (hG : ∀ y ∈ ws, GoodW y.1 y.2.1 y.2.2) (hw : w < ws.length) (h0 : 0 ≤ posI st.1 w) : depJ ws (behJ ws sm st w a) + 1 ≤ depJ ws st :=
  (depT_mov h hG hw h0 ws.length).2 hw
theorem depJ_step {ws : List JW} {sm : Bool} {st : JS} (h : StOk ws st) (hG : ∀ y ∈ ws, GoodW y.1 y.2.1 y.2.2) : ∀ x ∈ stepsJ ws sm st, depJ ws x.2 + 1 ≤ depJ ws st := by
  intro x hx
  obtain ⟨w, ht, ha, e⟩ := steps_mem hx
  obtain ⟨hw, h0⟩ := turn_at h ht
  rw [e]
  exact depJ_beh h hG hw h0
theorem depT_le {ws : List JW} {m : Nat} (hm : ∀ y ∈ ws, y.1.length ≤ m) (pos : List Int) : ∀ k : Nat, depT ws pos k ≤ k * m
  | 0 => Nat.zero_le _
  | k + 1 => by
    have ih := depT_le hm pos k
    have hr : (rowsJ ws k).length ≤ m := by
      unfold rowsJ
      cases hk : ws[k]? with
      | none => exact Nat.zero_le _
      | some y => exact hm y (List.mem_of_getElem? hk)
    unfold depT
    rw [Nat.succ_mul]
    split <;> omega
/-! ## what is reached -/
inductive RcJ (ws : List JW) (sm : Bool) (sts : List (List Int)) : JS → Prop
  | start {s : List Int} : s ∈ sts → RcJ ws sm sts (s, [])
  | step {st st' : JS} {b : Int} : RcJ ws sm sts st → (b, st') ∈ stepsJ ws sm st → RcJ ws sm sts st'
def ValJ (H : Hp) (ws : List JW) (sm : Bool) (sts : List (List Int)) (L : List JS) (i : Nat) (st : JS) (v : V) : Prop := ∃ t, v = .ref t ∧
  ((∃ n : Nat, H t = some (.tup [.non, .int n]) ∧ sts[n]? = some st.1 ∧ st.2 = []) ∨ ∃ (p : Addr) (b : Int) (j : Nat) (sj : JS), H t = some (.tup [.ref p, .int b]) ∧ j < i ∧ L[j]? = some sj ∧ StJ H p sj ∧ (b, st) ∈ stepsJ ws sm sj)
structure EL (H : Hp) (ws : List JW) (sm : Bool) (sts : List (List Int)) (kvs : List NE) (L : List JS) : Prop where
  len : kvs.length = L.length
  at_ : ∀ (i : Nat) e st, kvs[i]? = some e → L[i]? = some st → e.1 = skey st ∧ StJ H e.2.1 st ∧ ValJ H ws sm sts L i st e.2.2
  nd : L.Nodup
section
variable {H H' : Hp} {ws : List JW} {sm : Bool} {sts : List (List Int)} {kvs : List NE} {L : List JS}
theorem ValJ.mono {i : Nat} {st : JS} {v : V} {L' : List JS} (h : ValJ H ws sm sts L i st v) (e : TpK H H') (hL : ∀ (j : Nat) s, L[j]? = some s → L'[j]? = some s) : ValJ H' ws sm sts L' i st v := by
  obtain ⟨t, rfl, ⟨n, h1, h2, h3⟩ | ⟨p, b, j, sj, h1, h2, h3, h4, h5⟩⟩ := h
  · exact ⟨t, rfl, .inl ⟨n, e _ _ h1, h2, h3⟩⟩
  · exact ⟨t, rfl, .inr ⟨p, b, j, sj, e _ _ h1, h2, hL _ _ h3, h4.tpk e, h5⟩⟩
theorem EL.tpk (h : EL H ws sm sts kvs L) (e : TpK H H') : EL H' ws sm sts kvs L := ⟨h.len, fun i x st h1 h2 => let ⟨a, b, c⟩ := h.at_ i x st h1 h2; ⟨a, b.tpk e, c.mono e fun _ _ z => z⟩, h.nd⟩
theorem EL.get (h : EL H ws sm sts kvs L) {i : Nat} {x : NE} (hx : kvs[i]? = some x) : ∃ st, L[i]? = some st ∧ x.1 = skey st ∧ StJ H x.2.1 st ∧ ValJ H ws sm sts L i st x.2.2 := by
  have hi : i < L.length := by rw [← h.len]; exact (List.getElem?_eq_some_iff.mp hx).1
  exact ⟨L[i], List.getElem?_eq_getElem hi, h.at_ i x _ hx (List.getElem?_eq_getElem hi)⟩
theorem EL.keys (h : EL H ws sm sts kvs L) : kvs.map (·.1) = L.map skey := by
  apply List.ext_getElem?
  intro i
  rw [List.getElem?_map, List.getElem?_map]
  cases hx : kvs[i]? with
  | none =>
    have := List.getElem?_eq_none_iff.mp hx
    rw [List.getElem?_eq_none (by rw [← h.len]; exact this)]
    rfl
  | some x =>
    obtain ⟨st, h1, h2, _⟩ := h.get hx
    rw [h1, Option.map_some, Option.map_some, h2]
theorem EL.keysN (h : EL H ws sm sts kvs L) : KeysN H kvs := by
  intro p hp
  obtain ⟨i, hi⟩ := List.getElem?_of_mem hp
  obtain ⟨st, _, h2, h3, _⟩ := h.get hi
  rw [h2]
  exact ⟨h3.nk, depth_skey st⟩
theorem EL.none_iff (h : EL H ws sm sts kvs L) {st : JS} : nval kvs (skey st) = none ↔ st ∉ L := by
  rw [nval_none_iff, h.keys]
  constructor
  · intro hn hm
    exact hn (List.mem_map.mpr ⟨st, hm, rfl⟩)
  · intro hn hm
    obtain ⟨s, hs, e⟩ := List.mem_map.mp hm
    rw [skey_inj e] at hs
    exact hn hs
theorem EL.val (h : EL H ws sm sts kvs L) {i : Nat} {st : JS} (hs : L[i]? = some st) : ∃ v, nval kvs (skey st) = some v ∧ ValJ H ws sm sts L i st v := by
  have hi : i < kvs.length := by rw [h.len]; exact (List.getElem?_eq_some_iff.mp hs).1
  cases hv : nval kvs (skey st) with
  | none => exact absurd (List.mem_of_getElem? hs) (h.none_iff.mp hv)
  | some v =>
    refine ⟨v, rfl, ?_⟩
    unfold nval at hv
    obtain ⟨x, hx, rfl⟩ := Option.map_eq_some_iff.mp hv
    have hm := List.mem_of_find?_eq_some hx
    have hk : x.1 = skey st := by simpa using List.find?_some hx
    obtain ⟨j, hj⟩ := List.getElem?_of_mem hm
    obtain ⟨st', h1, h2, _, h4⟩ := h.get hj
    have e : st' = st := skey_inj (h2.symm.trans hk)
    subst e
    have ij : j = i := by
      have hjl := (List.getElem?_eq_some_iff.mp h1).1
      exact (List.getElem?_inj hjl h.nd).mp (h1.trans hs.symm)
    subst ij
    exact h4
theorem EL.nil : EL H ws sm sts [] [] := ⟨rfl, fun i e st h => by simp at h, List.nodup_nil⟩
theorem EL.snoc (h : EL H ws sm sts kvs L) {st : JS} {b : Addr} {v : V} (hn : st ∉ L) (hs : StJ H b st) (hv : ValJ H ws sm sts L L.length st v) : EL H ws sm sts (nput kvs (skey st) b v) (L ++ [st]) := by
  have grow : ∀ (j : Nat) s, L[j]? = some s → (L ++ [st])[j]? = some s := fun j s hj => by
    rw [List.getElem?_append_left (List.getElem?_eq_some_iff.mp hj).1]; exact hj
  refine ⟨by unfold nput; rw [List.length_append, List.length_append, h.len]; rfl, fun i x s h1 h2 => ?_, ?_⟩
  · unfold nput at h1
    by_cases hi : i < L.length
    · rw [List.getElem?_append_left (by rw [h.len]; exact hi)] at h1
      rw [List.getElem?_append_left hi] at h2
      obtain ⟨a1, a2, a3⟩ := h.at_ i x s h1 h2
      exact ⟨a1, a2, a3.mono (fun _ _ z => z) grow⟩
    · rw [List.getElem?_append_right (by rw [h.len]; omega), h.len] at h1
      rw [List.getElem?_append_right (by omega)] at h2
      have h0 : i - L.length = 0 := by
        have := (List.getElem?_eq_some_iff.mp h2).1
        rw [List.length_singleton] at this
        omega
      have ei : i = L.length := by omega
      rw [h0] at h1 h2
      cases h1
      cases h2
      refine ⟨rfl, hs, ?_⟩
      rw [ei]
      exact hv.mono (fun _ _ z => z) grow
  · rw [List.nodup_append]
    refine ⟨h.nd, List.nodup_cons.mpr ⟨by simp, List.nodup_nil⟩, fun x hx y hy e => ?_⟩
    rw [List.mem_singleton.mp hy] at e
    subst e
    exact hn hx
theorem EL.rc (h : EL H ws sm sts kvs L) : ∀ (i : Nat) st, L[i]? = some st → RcJ ws sm sts st := by
  intro i
  induction i using Nat.strongRecOn with
  | ind i ih =>
    intro st hs
    obtain ⟨v, _, t, _, ⟨n, _, h2, h3⟩ | ⟨p, b, j, sj, _, h2, h3, _, h5⟩⟩ := h.val hs
    · have e : st = (st.1, []) := Prod.ext rfl h3
      rw [e]
      exact .start (List.mem_of_getElem? h2)
    · exact .step (ih j h2 sj h3) h5
end
theorem rc_in {ws : List JW} {sm : Bool} {sts : List (List Int)} {L : List JS} (h1 : ∀ s ∈ sts, (s, []) ∈ L) (h2 : ∀ st ∈ L, ∀ x ∈ stepsJ ws sm st, x.2 ∈ L) {st : JS} (h : RcJ ws sm sts st) : st ∈ L := by
  induction h with
  | start h => exact h1 _ h
  | step _ h ih => exact h2 _ ih _ h
theorem rc_ok {ws : List JW} {sm : Bool} {sts : List (List Int)} (hG : ∀ y ∈ ws, GoodW y.1 y.2.1 y.2.2) (h1 : ∀ s ∈ sts, StOk ws (s, [])) {st : JS} (h : RcJ ws sm sts st) : StOk ws st := by
  induction h with
  | start h => exact h1 _ h
  | step _ h ih => exact (steps_ok ih hG _ h).1
/-! ## how much is left to do -/
def massJ (ws : List JW) (l : List JS) : Nat := (l.map fun s => 2 ^ (depJ ws s + 1) - 2).sum
theorem massJ_snoc (ws : List JW) (l : List JS) (s : JS) : massJ ws (l ++ [s]) = massJ ws l + (2 ^ (depJ ws s + 1) - 2) := by
  unfold massJ
  rw [List.map_append, List.sum_append, List.map_singleton, List.sum_singleton]
theorem two_pow_pos' (d : Nat) : 1 ≤ 2 ^ d := Nat.one_le_two_pow
/-- the while rule with a number that goes down -/
theorem while_num {c : TT} {tb : TS} {D : Ends} {σ : St} {H : Hp} (Pn : Nat → St → Hp → Prop) (h0 : ∃ n, Pn n σ H)
    (hs : ∀ n σ H, Pn n σ H → c σ H fun b H1 => if b = true then tb { D with nx := fun σ' H' => ∃ m, m < n ∧ Pn m σ' H', ct := fun σ' H' => ∃ m, m < n ∧ Pn m σ' H', bk := D.nx } σ H1 else D.nx σ H1)
    (mono : ∀ σ H Q Q', (∀ b H1, Q b H1 → Q' b H1) → c σ H Q → c σ H Q') : tWhile c tb D σ H := by
  refine ⟨Pn, h0, ?_⟩
  intro m σ H p
  refine mono σ H _ _ (fun b H1 q => ?_) (hs m σ H p)
  cases b with
  | true => exact ⟨_, fun σ' H' z => z, q⟩
  | false => exact q
/-- everything that is reached is in L, and nothing else -/
def FullL (H : Hp) (ws : List JW) (sm : Bool) (sts : List (List Int)) (kvs : List NE) (L : List JS) : Prop := EL H ws sm sts kvs L ∧ (∀ s ∈ sts, (s, []) ∈ L) ∧ ∀ st ∈ L, ∀ x ∈ stepsJ ws sm st, x.2 ∈ L
theorem FullL.tpk {H H' : Hp} {ws : List JW} {sm : Bool} {sts : List (List Int)} {kvs : List NE} {L : List JS} (h : FullL H ws sm sts kvs L) (e : TpK H H') : FullL H' ws sm sts kvs L := ⟨h.1.tpk e, h.2⟩
theorem FullL.iff {H : Hp} {ws : List JW} {sm : Bool} {sts : List (List Int)} {kvs : List NE} {L : List JS} (h : FullL H ws sm sts kvs L) {st : JS} : st ∈ L ↔ RcJ ws sm sts st :=
  ⟨fun hs => let ⟨i, hi⟩ := List.getElem?_of_mem hs; h.1.rc i st hi, fun hr => rc_in h.2.1 h.2.2 hr⟩
structure ExplOk (ws : List JW) (sm : Bool) (sts : List (List Int)) : Prop where
  good : ∀ y ∈ ws, GoodW y.1 y.2.1 y.2.2
  n1 : 1 ≤ ws.length
  n3 : ws.length ≤ 3
  two : sm = false → ws.length = 2
  st : ∀ s ∈ sts, StOk ws (s, [])
  cap : sts.length + massJ ws (sts.map fun s => (s, [])) ≤ 2 ^ 23
def WaysOk (H : Hp) (ws : List JW) (sm : Bool) (sts : List (List Int)) (wv : V) : Prop := wv = .non ∨ ∃ d o kvs L, wv = .ref d ∧ H d = some (DN d o kvs) ∧ FullL H ws sm sts kvs L
def spExplJ (CJ C : Addr) : Sp := fun vs H Q _ => ∃ (x : Addr) (ws : List JW) (sts : List (List Int)) (sm : Bool) (wv : V), vs = [.ref x] ∧ JtAt CJ C H x ws sts (relJ sm) wv ∧ ExplOk ws sm sts ∧ WaysOk H ws sm sts wv ∧
  ∀ H' d o kvs L, JtAt CJ C H' x ws sts (relJ sm) (.ref d) → H' d = some (DN d o kvs) → FullL H' ws sm sts kvs L → Kx x H H' → Q (.ref d) H'
def endsJ (st : JS) : List Int := st.1.map fun x => -1 - x
/-- the ends of the final states, each once, ascending -/
structure FinsJ (ws : List JW) (sm : Bool) (sts : List (List Int)) (es : List (List Int)) : Prop where
  iff : ∀ e, e ∈ es ↔ ∃ st, RcJ ws sm sts st ∧ turnJ st.1 = none ∧ e = endsJ st
  nd : es.Nodup
  asc : es.Pairwise fun e f => TS.code 61 e ≤ TS.code 61 f
  bd : ∀ e ∈ es, e.length = ws.length ∧ TS.Bd 61 e
/-- few tuples of ends -/
def FewE (ws : List JW) : Prop := ∀ es : List (List Int), es.Nodup → (∀ e ∈ es, e.length = ws.length ∧ ∀ (w : Nat) (y : JW), ws[w]? = some y → 0 ≤ posI e w ∧ posI e w < y.2.1) → es.length < 64
def spFinalsJ (CJ C : Addr) : Sp := fun vs H Q _ => ∃ (x : Addr) (ws : List JW) (sts : List (List Int)) (sm : Bool) (wv : V), vs = [.ref x] ∧ JtAt CJ C H x ws sts (relJ sm) wv ∧ ExplOk ws sm sts ∧ FewE ws ∧ WaysOk H ws sm sts wv ∧
  ∀ H' t (ps : List Addr) (es : List (List Int)) wv', JtAt CJ C H' x ws sts (relJ sm) wv' → WaysOk H' ws sm sts wv' → H' t = some (.tup (ps.map V.ref)) → RowsAt H' ps es → FinsJ ws sm sts es → Kx x H H' → Q (.ref t) H'
/-- a list of states -/
def WL (H : Hp) (ps : List Addr) (l : List JS) : Prop := ps.length = l.length ∧ ∀ (i : Nat) p s, ps[i]? = some p → l[i]? = some s → StJ H p s
theorem WL.tpk {H H' : Hp} {ps : List Addr} {l : List JS} (h : WL H ps l) (e : TpK H H') : WL H' ps l := ⟨h.1, fun i p s h1 h2 => (h.2 i p s h1 h2).tpk e⟩
theorem WL.snoc {H : Hp} {ps : List Addr} {l : List JS} {p : Addr} {s : JS} (h : WL H ps l) (hs : StJ H p s) : WL H (ps ++ [p]) (l ++ [s]) := by
  refine ⟨by rw [List.length_append, List.length_append, h.1]; rfl, fun i x y h1 h2 => ?_⟩
  by_cases hi : i < ps.length
  · rw [List.getElem?_append_left hi] at h1
    rw [List.getElem?_append_left (by rw [← h.1]; exact hi)] at h2
    exact h.2 i x y h1 h2
  · rw [List.getElem?_append_right (by omega)] at h1
    rw [List.getElem?_append_right (by rw [← h.1]; omega), ← h.1] at h2
    have h0 : i - ps.length = 0 := by
      have := (List.getElem?_eq_some_iff.mp h1).1
      rw [List.length_singleton] at this
      omega
    rw [h0] at h1 h2
    cases h1
    cases h2
    exact hs
theorem WL.last {H : Hp} {ps : List Addr} {l : List JS} (h : WL H ps l) (hn : ps ≠ []) : ∃ ps' p l' s, ps = ps' ++ [p] ∧ l = l' ++ [s] ∧ WL H ps' l' ∧ StJ H p s := by
  rcases List.eq_nil_or_concat ps with rfl | ⟨ps', p, rfl⟩
  · exact absurd rfl hn
  rcases List.eq_nil_or_concat l with rfl | ⟨l', s, rfl⟩
  · have := h.1
    simp at this
  rw [List.concat_eq_append, List.concat_eq_append] at *
  have hl : ps'.length = l'.length := by
    have := h.1
    rw [List.length_append, List.length_append] at this
    simpa using this
  refine ⟨ps', p, l', s, rfl, rfl, ⟨hl, fun i x y h1 h2 => ?_⟩, ?_⟩
  · exact h.2 i x y (by rw [List.getElem?_append_left (List.getElem?_eq_some_iff.mp h1).1]; exact h1) (by rw [List.getElem?_append_left (List.getElem?_eq_some_iff.mp h2).1]; exact h2)
  · exact h.2 ps'.length p s (by rw [List.getElem?_append_right (Nat.le_refl _), Nat.sub_self]; rfl) (by rw [hl, List.getElem?_append_right (Nat.le_refl _), Nat.sub_self]; rfl)
theorem EL.wl {H : Hp} {ws : List JW} {sm : Bool} {sts : List (List Int)} {kvs : List NE} {L : List JS} (h : EL H ws sm sts kvs L) : WL H (kvs.map fun e => e.2.1) L := by
  refine ⟨by rw [List.length_map, h.len], fun i p s h1 h2 => ?_⟩
  rw [List.getElem?_map] at h1
  obtain ⟨e, he, rfl⟩ := Option.map_eq_some_iff.mp h1
  exact (h.at_ i e s he h2).2.1
theorem dn_ntup {d : Addr} {o : Obj} {kvs : List NE} : ∀ xs, DN d o kvs ≠ .tup xs := fun xs z => nomatch (show HO.ext _ = HO.tup xs from z)
theorem dn_nlst {d : Addr} {o : Obj} {kvs : List NE} : ∀ xs, DN d o kvs ≠ .lst xs := fun xs z => nomatch (show HO.ext _ = HO.lst xs from z)
theorem dn_nins {d : Addr} {o : Obj} {kvs : List NE} : ∀ C x fs, DN d o kvs ≠ .ins C x fs := fun C x fs z => nomatch (show HO.ext _ = HO.ins C x fs from z)
theorem pas_get {H : Hp} {ps : List Addr} {xs : List (Int × JS)} (h : PasJ H ps xs) {i : Nat} {p : Addr} (hp : ps[i]? = some p) : ∃ x, xs[i]? = some x ∧ PaJ H p x := by
  have hi : i < xs.length := by rw [← h.1]; exact (List.getElem?_eq_some_iff.mp hp).1
  exact ⟨xs[i], List.getElem?_eq_getElem hi, h.2 i p _ hp (List.getElem?_eq_getElem hi)⟩
end L2
namespace L2
open PySem PySem.Spec PyProof.Rows
theorem fin_neg {ws : List JW} {st : JS} (h : turnJ st.1 = none) {i : Nat} (hi : i < st.1.length) : posI st.1 i < 0 := turnTo_none.mp h i hi
theorem fin_mem {ws : List JW} {sm : Bool} {sts : List (List Int)} {st : JS} (h : RcJ ws sm sts st) (ht : turnJ st.1 = none) : st.2 = [] := by
  cases h with
  | start h => rfl
  | @step s0 _ b h hs =>
    obtain ⟨w, _, _, e⟩ := steps_mem hs
    have e : st = behJ ws sm s0 w b := e
    subst e
    refine List.filter_eq_nil_iff.mpr fun m _ hn => ?_
    obtain ⟨u, hu, hn⟩ := List.any_eq_true.mp hn
    rw [Bool.and_eq_true] at hn
    exact AskP.none (.inl (fin_neg (ws := ws) ht (List.mem_range.mp hu))) (askB_iff.mp hn.1)
theorem endsJ_at {st : JS} {i : Nat} (h : i < st.1.length) : posI (endsJ st) i = -1 - posI st.1 i := by
  unfold endsJ posI
  rw [List.getElem?_map, List.getElem?_eq_getElem h]
  rfl
theorem ends_inj : ∀ {l m : List Int}, (l.map fun x => -1 - x) = (m.map fun x => -1 - x) → l = m
  | [], [], _ => rfl
  | [], _ :: _, h => by simp at h
  | _ :: _, [], h => by simp at h
  | a :: l, b :: m, h => by
    rw [List.map_cons, List.map_cons] at h
    injection h with h1 h2
    rw [ends_inj h2]
    have : a = b := by omega
    rw [this]
theorem endsJ_bd {ws : List JW} {st : JS} (h : StOk ws st) (hG : ∀ y ∈ ws, GoodW y.1 y.2.1 y.2.2) (ht : turnJ st.1 = none) : ((endsJ st).length = ws.length ∧ ∀ (w : Nat) (y : JW), ws[w]? = some y → 0 ≤ posI (endsJ st) w ∧ posI (endsJ st) w < y.2.1) ∧ TS.Bd 61 (endsJ st) := by
  have key : ∀ (w : Nat) (y : JW), ws[w]? = some y → 0 ≤ posI (endsJ st) w ∧ posI (endsJ st) w < y.2.1 := fun w y hy => by
    have hw : w < st.1.length := by rw [h.len]; exact (List.getElem?_eq_some_iff.mp hy).1
    rw [endsJ_at hw]
    have h1 := fin_neg (ws := ws) ht hw
    have h2 := (h.pos w y hy).1
    omega
  refine ⟨⟨by unfold endsJ; rw [List.length_map, h.len], key⟩, fun x hx => ?_⟩
  obtain ⟨i, hi⟩ := List.getElem?_of_mem hx
  have hil : i < ws.length := by
    have := (List.getElem?_eq_some_iff.mp hi).1
    unfold endsJ at this
    rw [List.length_map, h.len] at this
    exact this
  have hy := List.getElem?_eq_getElem hil
  obtain ⟨a, b⟩ := key i _ hy
  have : posI (endsJ st) i = x := by unfold posI; rw [hi]; rfl
  rw [this] at a b
  have := (hG _ (List.getElem_mem hil)).e2
  exact ⟨a, by omega⟩
def finF (st : JS) : Bool := (turnJ st.1).isNone
/-- the ends of the final ones of a list of states -/
theorem fins_nodup {ws : List JW} {sm : Bool} {sts : List (List Int)} {L : List JS} (hL : L.Nodup) (hr : ∀ s ∈ L, RcJ ws sm sts s) : ((L.filter finF).map endsJ).Nodup := by
  have h1 : (L.filter finF).Nodup := hL.filter _
  have h2 : ∀ s ∈ L.filter finF, RcJ ws sm sts s ∧ turnJ s.1 = none := fun s hs => by
    obtain ⟨a, b⟩ := List.mem_filter.mp hs
    exact ⟨hr s a, Option.isNone_iff_eq_none.mp b⟩
  generalize L.filter finF = M at h1 h2
  induction M with
  | nil => exact List.nodup_nil
  | cons s M ih =>
    obtain ⟨n1, n2⟩ := List.nodup_cons.mp h1
    refine List.nodup_cons.mpr ⟨fun hm => ?_, ih n2 fun x hx => h2 x (List.mem_cons_of_mem _ hx)⟩
    obtain ⟨t, ht, e⟩ := List.mem_map.mp hm
    obtain ⟨a1, a2⟩ := h2 s List.mem_cons_self
    obtain ⟨b1, b2⟩ := h2 t (List.mem_cons_of_mem _ ht)
    have : t = s := Prod.ext (ends_inj e) ((fin_mem b1 b2).trans (fin_mem a1 a2).symm)
    rw [this] at ht
    exact n1 ht
theorem fins_iff {ws : List JW} {sm : Bool} {sts : List (List Int)} {H : Hp} {kvs : List NE} {L : List JS} (h : FullL H ws sm sts kvs L) (e : List Int) : e ∈ (L.filter finF).map endsJ ↔ ∃ st, RcJ ws sm sts st ∧ turnJ st.1 = none ∧ e = endsJ st := by
  rw [List.mem_map]
  constructor
  · rintro ⟨s, hs, rfl⟩
    obtain ⟨a, b⟩ := List.mem_filter.mp hs
    exact ⟨s, h.iff.mp a, Option.isNone_iff_eq_none.mp b, rfl⟩
  · rintro ⟨s, h1, h2, rfl⟩
    exact ⟨s, List.mem_filter.mpr ⟨h.iff.mpr h1, by unfold finF; rw [h2]; rfl⟩, rfl⟩
end L2

namespace L2
open PySem PySem.Spec PyProof.Rows
/-! ## ladders' webs -/
def LEnd (t : Lad) (i : Nat) (s : LSt) : Prop := (i : Int) = t.sz ∨ (0 < t.mo ∧ s.lost = t.mo)
structure LInz (t : Lad) (i : Nat) (s : LSt) : Prop where
  inv : LInv t i s
  z : s.as.drop t.h.toNat = List.replicate (6 - t.h.toNat) 0
theorem ladStep_as (t : Lad) (s : LSt) (a : Int) : (ladStep t s a).as = s.asked := by
  unfold ladStep
  split <;> split <;> rfl
theorem LInz.step {t : Lad} {i : Nat} {s : LSt} {a : Int} (ht : t.Ok) (I : LInz t i s) (ha : a = 0 ∨ a = 1) : LInz t (i + 1) (ladStep t s a) := by
  refine ⟨I.inv.step ht ha, ?_⟩
  rw [ladStep_as]
  unfold LSt.asked
  rw [List.drop_set_of_lt (I.inv.get ht).2]
  exact I.z
theorem lad0_inz {t : Lad} (ht : t.Ok) : LInz t 0 (lad0 t) := by
  refine ⟨lad0_inv ht, ?_⟩
  have h1 := ht.1
  have hh : t.h.toNat = 1 ∨ t.h.toNat = 2 ∨ t.h.toNat = 3 ∨ t.h.toNat = 4 ∨ t.h.toNat = 5 ∨ t.h.toNat = 6 := by omega
  rcases hh with h | h | h | h | h | h <;> rw [h] <;> rfl
def lkey (t : Lad) (i : Nat) (s : LSt) : NestedKey := .tup [.num s.lv, .num s.ups, .num s.dns, .tup ((s.as.take t.h.toNat).map .num), .num ((i : Int) - s.lost)]
theorem LStAt.nk {H : Hp} {p : Addr} {t : Lad} {i : Nat} {s : LSt} (h : LStAt H p t i s) : NkV H (lkey t i s) (.ref p) := by
  obtain ⟨ak, h1, h2⟩ := h
  exact .tup h1 (.cons (.int _) (.cons (.int _) (.cons (.int _) (.cons (.tup h2 (nk_ints _)) (.cons (.int _) .nil)))))
theorem LStAt.tpk {H H' : Hp} {p : Addr} {t : Lad} {i : Nat} {s : LSt} (e : TpK H H') (h : LStAt H p t i s) : LStAt H' p t i s := let ⟨ak, h1, h2⟩ := h; ⟨ak, e _ _ h1, e _ _ h2⟩
theorem depth_lkey (t : Lad) (i : Nat) (s : LSt) : (lkey t i s).depth ≤ 8 := by
  unfold lkey
  simp only [NestedKey.depth, NestedKey.depthAll, depth_nums]
  decide
theorem lkey_inj {t : Lad} {i j : Nat} {s u : LSt} (I : LInz t i s) (J : LInz t j u) (h : lkey t i s = lkey t j u) : i = j ∧ s = u := by
  unfold lkey at h
  injection h with h
  injection h with h1 h
  injection h with h2 h
  injection h with h3 h
  injection h with h4 h
  injection h with h5 _
  injection h1 with h1
  injection h2 with h2
  injection h3 with h3
  injection h4 with h4
  injection h5 with h5
  have h4 := nums_inj h4
  have e1 := I.inv.sum
  have e2 := J.inv.sum
  rw [h4, e2] at e1
  have hij : i = j := by omega
  subst hij
  refine ⟨rfl, ?_⟩
  have ea : s.as = u.as := by rw [← List.take_append_drop t.h.toNat s.as, ← List.take_append_drop t.h.toNat u.as, h4, I.z, J.z]
  have el : s.lost = u.lost := by omega
  cases s
  cases u
  simp only at h1 h2 h3 ea el
  rw [h1, h2, h3, ea, el]
/-- the dict that numbers the states -/
structure NumL (H : Hp) (t : Lad) (kvs : List NE) (ps : List Addr) (L : List (Nat × LSt)) : Prop where
  len : kvs.length = L.length
  pl : ps.length = L.length
  at_ : ∀ (j : Nat) x, L[j]? = some x → ∃ p, ps[j]? = some p ∧ LStAt H p t x.1 x.2 ∧ kvs[j]? = some (lkey t x.1 x.2, p, .int (j : Nat))
  nd : L.Nodup
  inz : ∀ x ∈ L, LInz t x.1 x.2
section
variable {H H' : Hp} {t : Lad} {kvs : List NE} {ps : List Addr} {L : List (Nat × LSt)}
theorem NumL.tpk (h : NumL H t kvs ps L) (e : TpK H H') : NumL H' t kvs ps L := ⟨h.len, h.pl, fun j x hx => let ⟨p, a, b, c⟩ := h.at_ j x hx; ⟨p, a, b.tpk e, c⟩, h.nd, h.inz⟩
theorem NumL.keys (h : NumL H t kvs ps L) : kvs.map (·.1) = L.map fun x => lkey t x.1 x.2 := by
  apply List.ext_getElem?
  intro i
  rw [List.getElem?_map, List.getElem?_map]
  cases hx : L[i]? with
  | none =>
    have := List.getElem?_eq_none_iff.mp hx
    rw [List.getElem?_eq_none (by rw [h.len]; exact this)]
    rfl
  | some x =>
    obtain ⟨p, _, _, h3⟩ := h.at_ i x hx
    rw [h3]
    rfl
theorem NumL.keysN (h : NumL H t kvs ps L) : KeysN H kvs := by
  intro q hq
  obtain ⟨i, hi⟩ := List.getElem?_of_mem hq
  have hil : i < L.length := by rw [← h.len]; exact (List.getElem?_eq_some_iff.mp hi).1
  obtain ⟨p, _, h2, h3⟩ := h.at_ i _ (List.getElem?_eq_getElem hil)
  rw [hi] at h3
  cases h3
  exact ⟨h2.nk, depth_lkey _ _ _⟩
theorem NumL.none_iff (h : NumL H t kvs ps L) {i : Nat} {s : LSt} (I : LInz t i s) : nval kvs (lkey t i s) = none ↔ (i, s) ∉ L := by
  rw [nval_none_iff, h.keys]
  constructor
  · intro hn hm
    exact hn (List.mem_map.mpr ⟨(i, s), hm, rfl⟩)
  · intro hn hm
    obtain ⟨x, hx, e⟩ := List.mem_map.mp hm
    obtain ⟨e1, e2⟩ := lkey_inj (h.inz x hx) I e
    have : x = (i, s) := Prod.ext e1 e2
    rw [this] at hx
    exact hn hx
theorem NumL.val (h : NumL H t kvs ps L) {j i : Nat} {s : LSt} (hj : L[j]? = some (i, s)) : nval kvs (lkey t i s) = some (.int (j : Nat)) := by
  have I := h.inz _ (List.mem_of_getElem? hj)
  cases hv : nval kvs (lkey t i s) with
  | none => exact absurd (List.mem_of_getElem? hj) ((h.none_iff I).mp hv)
  | some v =>
    unfold nval at hv
    obtain ⟨x, hx, rfl⟩ := Option.map_eq_some_iff.mp hv
    have hm := List.mem_of_find?_eq_some hx
    have hk : x.1 = lkey t i s := by simpa using List.find?_some hx
    obtain ⟨k, hk'⟩ := List.getElem?_of_mem hm
    have hil : k < L.length := by rw [← h.len]; exact (List.getElem?_eq_some_iff.mp hk').1
    have hL := List.getElem?_eq_getElem hil
    obtain ⟨p, _, _, h3⟩ := h.at_ k _ hL
    rw [hk'] at h3
    cases h3
    obtain ⟨e1, e2⟩ := lkey_inj (h.inz _ (List.mem_of_getElem? hL)) I hk
    have e : L[k] = (i, s) := Prod.ext e1 e2
    rw [e] at hL
    have : k = j := (List.getElem?_inj hil h.nd).mp (hL.trans hj.symm)
    show some (V.int ((k : Nat) : Int)) = some (.int (j : Nat))
    rw [this]
theorem NumL.snoc (h : NumL H t kvs ps L) {i : Nat} {s : LSt} {p : Addr} (hn : (i, s) ∉ L) (I : LInz t i s) (hs : LStAt H p t i s) : NumL H t (nput kvs (lkey t i s) p (.int (L.length : Nat))) (ps ++ [p]) (L ++ [(i, s)]) := by
  refine ⟨by unfold nput; rw [List.length_append, List.length_append, h.len]; rfl, by rw [List.length_append, List.length_append, h.pl]; rfl, fun j x hx => ?_, ?_, fun x hx => ?_⟩
  · unfold nput
    by_cases hj : j < L.length
    · rw [List.getElem?_append_left hj] at hx
      obtain ⟨q, a, b, c⟩ := h.at_ j x hx
      exact ⟨q, by rw [List.getElem?_append_left (by rw [h.pl]; exact hj)]; exact a, b, by rw [List.getElem?_append_left (by rw [h.len]; exact hj)]; exact c⟩
    · rw [List.getElem?_append_right (by omega)] at hx
      have h0 : j - L.length = 0 := by
        have := (List.getElem?_eq_some_iff.mp hx).1
        rw [List.length_singleton] at this
        omega
      have ej : j = L.length := by omega
      rw [h0] at hx
      cases hx
      subst ej
      exact ⟨p, by rw [List.getElem?_append_right (by rw [h.pl]; omega), h.pl, Nat.sub_self]; rfl, hs, by rw [List.getElem?_append_right (by rw [h.len]; omega), h.len, Nat.sub_self]; rfl⟩
  · rw [List.nodup_append]
    refine ⟨h.nd, List.nodup_cons.mpr ⟨by simp, List.nodup_nil⟩, fun x hx y hy e => ?_⟩
    rw [List.mem_singleton.mp hy] at e
    subst e
    exact hn hx
  · rcases List.mem_append.mp hx with hx | hx
    · exact h.inz x hx
    · rw [List.mem_singleton.mp hx]
      exact I
end
def lwgt (t : Lad) (x : Nat × LSt) : Nat := 2 ^ (t.sz.toNat - x.1) - 1
def massL (t : Lad) (l : List (Nat × LSt)) : Nat := (l.map (lwgt t)).sum
theorem massL_snoc (t : Lad) (l : List (Nat × LSt)) (x : Nat × LSt) : massL t (l ++ [x]) = massL t l + lwgt t x := by
  unfold massL
  rw [List.map_append, List.sum_append, List.map_singleton, List.sum_singleton]
def TgtL (t : Lad) (L : List (Nat × LSt)) (i : Nat) (s : LSt) (z : Int) : Prop := (LEnd t i s ∧ z = -1 - ((i : Int) - s.lost)) ∨ (¬ LEnd t i s ∧ ∃ j : Nat, L[j]? = some (i, s) ∧ z = (j : Int))
def RowL (t : Lad) (L : List (Nat × LSt)) (i : Nat) (s : LSt) (row : List Int) : Prop := ∃ r w, row = [ladQ s, r, w] ∧ TgtL t L (i + 1) (ladStep t s 1) r ∧ TgtL t L (i + 1) (ladStep t s 0) w
theorem TgtL.mono {t : Lad} {L M : List (Nat × LSt)} (e : ∀ (j : Nat) x, L[j]? = some x → M[j]? = some x) {i : Nat} {s : LSt} {z : Int} (h : TgtL t L i s z) : TgtL t M i s z := by
  rcases h with h | ⟨h, j, h1, h2⟩
  · exact .inl h
  · exact .inr ⟨h, j, e _ _ h1, h2⟩
theorem RowL.mono {t : Lad} {L M : List (Nat × LSt)} (e : ∀ (j : Nat) x, L[j]? = some x → M[j]? = some x) {i : Nat} {s : LSt} {row : List Int} (h : RowL t L i s row) : RowL t M i s row := let ⟨r, w, a, b, c⟩ := h; ⟨r, w, a, b.mono e, c.mono e⟩
/-- what is known of the states while they are found -/
structure LadJ (t : Lad) (L : List (Nat × LSt)) : Prop where
  z : L[0]? = some (0, lad0 t)
  srt : ∀ (j j' : Nat) x y, j ≤ j' → L[j]? = some x → L[j']? = some y → x.1 ≤ y.1
  st : ∀ x ∈ L, LInz t x.1 x.2 ∧ ¬ LEnd t x.1 x.2 ∧ (x.1 : Int) < t.sz
/-- n rows are made -/
structure LadI (t : Lad) (n : Nat) (rows : List (List Int)) (L : List (Nat × LSt)) : Prop where
  j : LadJ t L
  len : rows.length = n
  le : n ≤ L.length
  top : ∀ x ∈ L, ∀ y, L[n]? = some y → x.1 ≤ y.1 + 1
  row : ∀ (k : Nat) x row, L[k]? = some x → rows[k]? = some row → RowL t L x.1 x.2 row
  cap : n + massL t (L.drop n) ≤ 63
structure LadW (t : Lad) (rows : List (List Int)) (L : List (Nat × LSt)) : Prop where
  j : LadJ t L
  len : rows.length = L.length
  few : rows.length ≤ 63
  row : ∀ (k : Nat) x, L[k]? = some x → ∃ row, rows[k]? = some row ∧ RowL t L x.1 x.2 row
theorem LadI.done {t : Lad} {n : Nat} {rows : List (List Int)} {L : List (Nat × LSt)} (h : LadI t n rows L) (hn : L.length ≤ n) : LadW t rows L := by
  have e : n = L.length := Nat.le_antisymm h.le hn
  refine ⟨h.j, h.len.trans e, ?_, fun k x hx => ?_⟩
  · have := h.cap
    rw [h.len]
    omega
  · have hk : k < rows.length := by rw [h.len, e]; exact (List.getElem?_eq_some_iff.mp hx).1
    exact ⟨rows[k], List.getElem?_eq_getElem hk, h.row k x _ hx (List.getElem?_eq_getElem hk)⟩
/-- one more state is found -/
theorem LadJ.snoc {t : Lad} {L : List (Nat × LSt)} (h : LadJ t L) {i : Nat} {s : LSt} (hi : ∀ x ∈ L, x.1 ≤ i) (I : LInz t i s) (hn : ¬ LEnd t i s) (hs : (i : Int) < t.sz) : LadJ t (L ++ [(i, s)]) := by
  have h0 : 0 < L.length := (List.getElem?_eq_some_iff.mp h.z).1
  refine ⟨by rw [List.getElem?_append_left h0]; exact h.z, fun j j' x y hj hx hy => ?_, fun x hx => ?_⟩
  · by_cases hj' : j' < L.length
    · rw [List.getElem?_append_left hj'] at hy
      rw [List.getElem?_append_left (by omega)] at hx
      exact h.srt j j' x y hj hx hy
    · rw [List.getElem?_append_right (by omega)] at hy
      have e0 : j' - L.length = 0 := by
        have := (List.getElem?_eq_some_iff.mp hy).1
        rw [List.length_singleton] at this
        omega
      rw [e0] at hy
      cases hy
      rcases List.mem_append.mp (List.mem_of_getElem? hx) with hm | hm
      · exact hi x hm
      · rw [List.mem_singleton.mp hm]
        exact Nat.le_refl _
  · rcases List.mem_append.mp hx with hm | hm
    · exact h.st x hm
    · rw [List.mem_singleton.mp hm]
      exact ⟨I, hn, hs⟩
theorem ladQ_div {t : Lad} {i : Nat} {s : LSt} (ht : t.Ok) (I : LInv t i s) (hi : (i : Int) < t.sz) : ladQ s / 8 = s.lv - 1 ∧ ladQ s % 8 = s.at_ := by
  have he := I.ent _ _ (I.get ht).1
  have h5 := ht.2.2.2.2.1
  unfold ladQ
  omega
theorem LadW.tgt {t : Lad} {rows : List (List Int)} {L : List (Nat × LSt)} (ht : t.Ok) (h : LadW t rows L) {k i : Nat} {s u : LSt} {z : Int} (hk : L[k]? = some (i, s)) (I : LInv t (i + 1) u) (hz : TgtL t L (i + 1) u z) : -(t.sz + 1) ≤ z ∧ z < rows.length ∧ ¬ (0 ≤ z ∧ z ≤ k) := by
  have hs := (h.j.st _ (List.mem_of_getElem? hk)).2.2
  have hs : (i : Int) < t.sz := hs
  rcases hz with ⟨_, rfl⟩ | ⟨_, j, hj, rfl⟩
  · have hl := I.lost
    have : (((i + 1 : Nat)) : Int) = (i : Int) + 1 := by omega
    omega
  · have hjl := (List.getElem?_eq_some_iff.mp hj).1
    refine ⟨by have := ht.2.2.2.2.1; omega, by rw [h.len]; omega, fun z => ?_⟩
    have := h.j.srt j k _ _ (by omega) hj hk
    have : i + 1 ≤ i := this
    omega
theorem LadW.good {t : Lad} {rows : List (List Int)} {L : List (Nat × LSt)} (ht : t.Ok) (h : LadW t rows L) : GoodW rows (t.sz + 1) 0 := by
  have h5 := ht.2.2.2.2.1
  have h0 : 0 < L.length := (List.getElem?_eq_some_iff.mp h.j.z).1
  have hrow : ∀ (k : Nat) row, rows[k]? = some row → ∃ i s, L[k]? = some (i, s) ∧ LInz t i s ∧ (i : Int) < t.sz ∧ RowL t L i s row := fun k row hk => by
    have hkl : k < L.length := by rw [← h.len]; exact (List.getElem?_eq_some_iff.mp hk).1
    obtain ⟨row', h1, h2⟩ := h.row k _ (List.getElem?_eq_getElem hkl)
    rw [hk] at h1
    cases h1
    obtain ⟨a, _, c⟩ := h.j.st _ (List.getElem_mem hkl)
    exact ⟨L[k].1, L[k].2, List.getElem?_eq_getElem hkl, a, c, h2⟩
  refine ⟨by omega, by omega, by have := h.few; omega, fun k row hk => ?_, by omega, by rw [h.len]; omega, ?_⟩
  · obtain ⟨i, s, h1, h2, h3, r, w, rfl, hr, hw⟩ := hrow k row hk
    obtain ⟨q0, q1⟩ := h2.inv.q ht h3
    refine ⟨ladQ s, [r, w], rfl, .inl rfl, q0, q1, fun z hz => ?_⟩
    simp only [List.mem_cons, List.not_mem_nil, or_false] at hz
    rcases hz with rfl | rfl
    · exact h.tgt ht h1 (h2.inv.step ht (.inr rfl)) hr
    · exact h.tgt ht h1 (h2.inv.step ht (.inl rfl)) hw
  · refine ⟨fun k z => ∃ x v, L[k]? = some x ∧ x.2.as[(z / 8).toNat]? = some v ∧ v ≤ z % 8 ∧ 0 ≤ z, fun k q rr hk => ?_⟩
    obtain ⟨i, s, h1, h2, h3, r, w, e, hr, hw⟩ := hrow k _ hk
    cases e
    obtain ⟨d1, d2⟩ := ladQ_div ht h2.inv h3
    have hg := h2.inv.get ht
    have hq0 := (h2.inv.q ht h3).1
    refine ⟨⟨(i, s), s.at_, h1, by rw [d1]; exact hg.1, by rw [d2]; exact Int.le_refl _, hq0⟩, fun z hz z0 => ?_⟩
    have key : ∀ a, TgtL t L (i + 1) (ladStep t s a) z → ¬ (∃ x v, L[z.toNat]? = some x ∧ x.2.as[(ladQ s / 8).toNat]? = some v ∧ v ≤ ladQ s % 8 ∧ 0 ≤ ladQ s) ∧ ∀ y : Int, (∃ x v, L[z.toNat]? = some x ∧ x.2.as[(y / 8).toNat]? = some v ∧ v ≤ y % 8 ∧ 0 ≤ y) → ∃ x v, L[k]? = some x ∧ x.2.as[(y / 8).toNat]? = some v ∧ v ≤ y % 8 ∧ 0 ≤ y := fun a ha => by
      rcases ha with ⟨_, rfl⟩ | ⟨_, j, hj, rfl⟩
      · exfalso
        have hl : ∀ b, b = 0 ∨ b = 1 → (ladStep t s b).lost ≤ ((i + 1 : Nat) : Int) := fun b hb => ((h2.inv.step ht hb).lost).2
        have hla : (ladStep t s a).lost ≤ ((i + 1 : Nat) : Int) := by
          by_cases e1 : a = 1
          · exact hl a (.inr e1)
          · have : ladStep t s a = ladStep t s 0 := (if_neg e1).trans (if_neg (show ¬ (0 : Int) = 1 by decide)).symm
            rw [this]
            exact hl 0 (.inl rfl)
        omega
      · rw [Int.toNat_natCast]
        refine ⟨?_, ?_⟩
        · rintro ⟨x, v, e1, e2, e3, _⟩
          rw [hj] at e1
          cases e1
          have e2 : (ladStep t s a).as[(ladQ s / 8).toNat]? = some v := e2
          rw [ladStep_as, d1] at e2
          unfold LSt.asked at e2
          rw [List.getElem?_set_self (List.getElem?_eq_some_iff.mp hg.1).1] at e2
          cases e2
          rw [d2] at e3
          omega
        · rintro y ⟨x, v, e1, e2, e3, e4⟩
          rw [hj] at e1
          cases e1
          have e2 : (ladStep t s a).as[(y / 8).toNat]? = some v := e2
          rw [ladStep_as] at e2
          unfold LSt.asked at e2
          by_cases e : (s.lv - 1).toNat = (y / 8).toNat
          · rw [← e, List.getElem?_set_self (List.getElem?_eq_some_iff.mp hg.1).1] at e2
            cases e2
            exact ⟨(i, s), s.at_, h1, by rw [← e]; exact hg.1, by omega, e4⟩
          · rw [List.getElem?_set_ne e] at e2
            exact ⟨(i, s), v, h1, e2, e3, e4⟩
    simp only [List.mem_cons, List.not_mem_nil, or_false] at hz
    rcases hz with rfl | rfl
    · exact key 1 hr
    · exact key 0 hw
/-! ### walks in it -/
theorem LadW.walk {t : Lad} {rows : List (List Int)} {L : List (Nat × LSt)} {R : List Int} {ans : Int → Nat → Int} (ht : t.Ok) (h : LadW t rows L) (hans : ∀ q i, ans q i = if q ∈ norm R then 1 else 0) : ∀ (d i k : Nat), t.sz - (i : Int) ≤ d → L[k]? = some (i, ladS t ans i) →
    ∃ n, i < n ∧ (n : Int) ≤ t.sz ∧ (∀ m, i ≤ m → m < n → ¬ ladStop t ans m) ∧ ladStop t ans n ∧ (WK rows R (k : Int)).map List.tail = (List.range' i (n - i)).map (fun m => [ladQ (ladS t ans m), ladA t ans m]) ∧ WN rows R (k : Int) = (n : Int) - (ladS t ans n).lost
  | 0, i, k, hd, hk => by
    have := (h.j.st _ (List.mem_of_getElem? hk)).2.2
    have : (i : Int) < t.sz := this
    omega
  | d + 1, i, k, hd, hk => by
    have G := h.good ht
    have hA : ∀ q i, ans q i = 0 ∨ ans q i = 1 := fun q i => by rw [hans]; split <;> omega
    obtain ⟨I, hne, hs⟩ := h.j.st _ (List.mem_of_getElem? hk)
    have hs : (i : Int) < t.sz := hs
    obtain ⟨row, hrow, r, w, rfl, hr, hw⟩ := h.row k _ hk
    have hkl := (List.getElem?_eq_some_iff.mp hrow).1
    obtain ⟨c1, c2⟩ := WK_cons (R := R) G (p := (k : Int)) (by omega) (by omega)
    have er : rowP rows (k : Int) = [ladQ (ladS t ans i), r, w] := by
      unfold rowP
      rw [Int.toNat_natCast, hrow]
      rfl
    have eq : qP rows (k : Int) = ladQ (ladS t ans i) := by unfold qP; rw [er]; rfl
    have ea : aP rows R (k : Int) = ladA t ans i := by unfold aP ladA; rw [eq, hans]
    have eit : (itP rows R (k : Int)).tail = [ladQ (ladS t ans i), ladA t ans i] := by unfold itP; rw [eq, ea]; rfl
    have en : nxP rows R (k : Int) = if ladA t ans i = 1 then r else w := by
      unfold nxP tRow
      rw [er, ea]
      rfl
    have es : ladS t ans (i + 1) = ladStep t (ladS t ans i) (ladA t ans i) := rfl
    have hT : TgtL t L (i + 1) (ladS t ans (i + 1)) (nxP rows R (k : Int)) := by
      rw [en, es]
      rcases hA (ladQ (ladS t ans i)) i with h0 | h1
      · have : ladA t ans i = 0 := h0
        rw [this, if_neg (by decide)]
        exact hw
      · have : ladA t ans i = 1 := h1
        rw [this, if_pos rfl]
        exact hr
    have hni : ¬ ladStop t ans i := hne
    rcases hT with ⟨he, hz⟩ | ⟨he, j, hj, hz⟩
    · refine ⟨i + 1, Nat.lt_succ_self _, by omega, fun m h1 h2 => ?_, he, ?_, ?_⟩
      · have : m = i := by omega
        rw [this]
        exact hni
      · have hl := ((ladS_inv ht hA (i + 1)).lost).2
        rw [c1, hz, WK_neg (by omega), List.map_cons, List.map_nil, eit, show i + 1 - i = 1 by omega]
        rfl
      · have hl := ((ladS_inv ht hA (i + 1)).lost).2
        rw [c2, hz, WN_neg (by omega)]
        omega
    · obtain ⟨n, n1, n2, n3, n4, n5, n6⟩ := LadW.walk ht h hans d (i + 1) j (by omega) hj
      refine ⟨n, by omega, n2, fun m h1 h2 => ?_, n4, ?_, ?_⟩
      · by_cases e : m = i
        · rw [e]; exact hni
        · exact n3 m (by omega) h2
      · rw [c1, hz, List.map_cons, n5, eit, show n - i = (n - (i + 1)) + 1 by omega, List.range'_succ]
        rfl
      · rw [c2, hz]
        exact n6
/-- a pupil's walk from the start is the run by the ladder -/
theorem LadW.run {t : Lad} {rows : List (List Int)} {L : List (Nat × LSt)} {R : List Int} {ans : Int → Nat → Int} (ht : t.Ok) (h : LadW t rows L) (hans : ∀ q i, ans q i = if q ∈ norm R then 1 else 0) :
    ∃ n : Nat, (n : Int) ≤ t.sz ∧ (∀ m, m < n → ¬ ladStop t ans m) ∧ ladStop t ans n ∧ (WK rows R 0).map List.tail = ladL t ans n ∧ WN rows R 0 = (n : Int) - (ladS t ans n).lost := by
  obtain ⟨n, n1, n2, n3, n4, n5, n6⟩ := h.walk (R := R) (ans := ans) ht hans t.sz.toNat 0 0 (by omega) h.j.z
  refine ⟨n, n2, fun m hm => n3 m (Nat.zero_le _) hm, n4, ?_, n6⟩
  have e : ((0 : Nat) : Int) = 0 := rfl
  rw [e] at n5
  rw [n5, Nat.sub_zero, ← List.range_eq_range']
  rfl
def spBuild (C CL : Addr) : Sp := fun vs H Q _ => ∃ (x : Addr) (t : Lad), vs = [.ref x] ∧ t.Ok ∧ LadAt CL H x t ∧ ∀ H' y rows L, H y = none → Same H H' → WebAt C H' y rows (t.sz + 1) 0 → LadW t rows L → Q (.ref y) H'
end L2

namespace L2
open PySem PySem.Spec PyProof.Rows
/-! ## a dict display with one nested key -/
def tNDisp1 (ty tv : TE) : TE := fun σ H Q => ∀ d o0, H d = none → ty σ (upd H d (DN d o0 [])) fun y H1 => tv σ H1 fun v H2 => ∃ b k, y = .ref b ∧ H2 d = some (DN d o0 []) ∧ NkV H2 k (.ref b) ∧ k.depth ≤ 8 ∧ ∀ o', Q (.ref d) (upd H2 d (DN d o' (nput [] k b v)))
theorem vv1 {y v : V} {ws : List (Value × Value)} (r : VV [(y, v)] ws) : ∃ kv u, ws = [(kv, u)] ∧ RelV y kv ∧ RelV v u := by
  cases r with
  | cons a t =>
    cases t
    exact ⟨_, _, rfl, a.1, a.2⟩
theorem pe_ndisp1 {X : Cx} {e f : Expr} {pos : Pos} {ty tv : TE} (hu : X.A.units + 9 < cLine) (he : PE X e ty) (hf : PE X f tv) : PE X (.Dict [some e] [f] pos) (tNDisp1 ty tv) := by
  refine ⟨fun pins s σ H Q I q => ?_⟩
  have hn := I.hok.fresh (Nat.le_refl s.heap.objs.size)
  have I1 := I.laid (a := s.heap.objs.size) (o := DN s.heap.objs.size { cls := .type "dict", data := .dict #[] } []) (h' := s.heap.push { cls := .type "dict", data := .dict #[] }) (t' := s.toks) (fun _ _ q => Heap.get?_push_of_some _ q) (Nat.le_refl _) (dn_empty s.heap I.big)
  have hp := pairTrees_length [some e] [f] X.env pos rfl rfl
  rw [arm_eval_Dict, zip_pairTrees [some e] [f] X.env pos rfl rfl, dictDisplay_pairs (pairTrees [some e] [f] X.env pos) (fun z => by rw [z] at hp; cases hp) (by rw [hp]; exact (by decide : 1 < 17))]
  refine wpAny_bind (wpAny_standAt (wpAny_bind (wpAny_subDictH (knd := nestedKind X.prog X.w) (Q := fun d s' => wpAny (model X.prog X.w) X.A (pure (Value.ref d)) _ _ s') (show X.A.units + 8 < cLine by omega) (by rw [hp]; exact (by decide : 1 ≤ 15)) ?_)))
  let QP : List (V × V) → Hp → Prop := fun ps H2 => match ps with
    | [(y, v)] => ∃ b k, y = .ref b ∧ H2 s.heap.objs.size = some (DN s.heap.objs.size { cls := .type "dict", data := .dict #[] } []) ∧ NkV H2 k (.ref b) ∧ k.depth ≤ 8 ∧ ∀ o', Q (.ref s.heap.objs.size) (upd H2 s.heap.objs.size (DN s.heap.objs.size o' (nput [] k b v)))
    | _ => False
  refine thn ((pps_cons he hf pps_nil : PPs X pos [some e] [f] [(ty, tv)]).run pins _ σ _ QP I1 (q _ _ hn)) fun ws s2 ⟨ps, H2, I2, rel, q2⟩ => ?_
  rcases ps with _ | ⟨⟨y, v⟩, _ | ⟨z, zs⟩⟩
  · exact q2.elim
  · obtain ⟨kv, vv, rfl, rk, rv⟩ := vv1 rel
    obtain ⟨b, k, ey, hd, hk, dp, q3⟩ := q2
    subst ey
    obtain rfl : kv = Value.ref b := rk
    have hA : DnAt H2 s.heap.objs.size [] := ⟨⟨_, hd⟩, fun p hp => nomatch hp⟩
    obtain ⟨_, _, xs, rel', dd⟩ := dn_of I2 hA
    cases rel'
    refine ⟨[(k, b, vv)], ⟨rfl, rfl, nkey_of I2 hk dp, True.intro⟩, dd, fun h' tk dd' hs' => ?_⟩
    obtain ⟨o', I4⟩ := dn_put (t' := tk) I2 hA hk dp rfl (by show 0 < sizeLine; rw [sizeLine_eq]; omega) .nil rv hs' dd'
    exact wpAny_pure ⟨.ref s.heap.objs.size, _, I4, rfl, q3 o'⟩
  · exact q2.elim
end L2

namespace K14
open PySem PySem.Spec PyProof.Rows L2 Gg TL
def topS (i : Nat) : Stmt := PySem.Challenge.pw_steppedtests_k14_whole_ladders_one_less.main.body.getD i (.Pass ⟨0, 0, 0, 0⟩)
abbrev s_is_question : Stmt := topS 13
abbrev N_is_question : List Str := ["number"]
abbrev P_is_question : List Str := ["number"]
theorem sc_is_question : FnScope N_is_question P_is_question (defScope s_is_question) := ⟨rfl, rfl, rfl, by decide +kernel, rfl, by decide +kernel, by decide +kernel⟩
abbrev s_Web_contains : Stmt := inClass (topS 17) 6
abbrev N_Web_contains : List Str := ["self", "x"]
abbrev P_Web_contains : List Str := ["self", "x"]
theorem sc_Web_contains : FnScope N_Web_contains P_Web_contains (defScope s_Web_contains) := ⟨rfl, rfl, rfl, by decide +kernel, rfl, by decide +kernel, by decide +kernel⟩
abbrev s_Web_len : Stmt := inClass (topS 17) 3
abbrev N_Web_len : List Str := ["self"]
abbrev P_Web_len : List Str := ["self"]
theorem sc_Web_len : FnScope N_Web_len P_Web_len (defScope s_Web_len) := ⟨rfl, rfl, rfl, by decide +kernel, rfl, by decide +kernel, by decide +kernel⟩
abbrev s_Web_first : Stmt := inClass (topS 17) 2
abbrev N_Web_first : List Str := ["self"]
abbrev P_Web_first : List Str := ["self"]
theorem sc_Web_first : FnScope N_Web_first P_Web_first (defScope s_Web_first) := ⟨rfl, rfl, rfl, by decide +kernel, rfl, by decide +kernel, by decide +kernel⟩
abbrev s_Web_can_stand : Stmt := inClass (topS 17) 1
abbrev N_Web_can_stand : List Str := ["self", "k", "node", "target"]
abbrev P_Web_can_stand : List Str := ["self", "k", "node"]
theorem sc_Web_can_stand : FnScope N_Web_can_stand P_Web_can_stand (defScope s_Web_can_stand) := ⟨rfl, rfl, rfl, by decide +kernel, rfl, by decide +kernel, by decide +kernel⟩
abbrev s_asked_twice : Stmt := topS 18
abbrev N_asked_twice : List Str := ["nodes", "masks", "twice", "k", "behind", "target", "own"]
abbrev P_asked_twice : List Str := ["nodes"]
theorem sc_asked_twice : FnScope N_asked_twice P_asked_twice (defScope s_asked_twice) := ⟨rfl, rfl, rfl, by decide +kernel, rfl, by decide +kernel, by decide +kernel⟩
abbrev s_Web_init : Stmt := inClass (topS 17) 0
abbrev N_Web_init : List Str := ["self", "nodes", "ends", "start", "k", "node", "twice"]
abbrev P_Web_init : List Str := ["self", "nodes", "ends", "start"]
theorem sc_Web_init : FnScope N_Web_init P_Web_init (defScope s_Web_init) := ⟨rfl, rfl, rfl, by decide +kernel, rfl, by decide +kernel, by decide +kernel⟩
abbrev s_NoNode_init : Stmt := inClass (topS 7) 0
abbrev N_NoNode_init : List Str := ["self", "index"]
abbrev P_NoNode_init : List Str := ["self", "index"]
theorem sc_NoNode_init : FnScope N_NoNode_init P_NoNode_init (defScope s_NoNode_init) := ⟨rfl, rfl, rfl, by decide +kernel, rfl, by decide +kernel, by decide +kernel⟩
abbrev s_NoPosition_init : Stmt := inClass (topS 8) 0
abbrev N_NoPosition_init : List Str := ["self", "place"]
abbrev P_NoPosition_init : List Str := ["self", "place"]
theorem sc_NoPosition_init : FnScope N_NoPosition_init P_NoPosition_init (defScope s_NoPosition_init) := ⟨rfl, rfl, rfl, by decide +kernel, rfl, by decide +kernel, by decide +kernel⟩
abbrev s_Web_getitem : Stmt := inClass (topS 17) 4
abbrev N_Web_getitem : List Str := ["self", "at"]
abbrev P_Web_getitem : List Str := ["self", "at"]
theorem sc_Web_getitem : FnScope N_Web_getitem P_Web_getitem (defScope s_Web_getitem) := ⟨rfl, rfl, rfl, by decide +kernel, rfl, by decide +kernel, by decide +kernel⟩
abbrev s_Pupil_init : Stmt := inClass (topS 14) 0
abbrev N_Pupil_init : List Str := ["self", "questions", "taken", "question"]
abbrev P_Pupil_init : List Str := ["self", "questions"]
theorem sc_Pupil_init : FnScope N_Pupil_init P_Pupil_init (defScope s_Pupil_init) := ⟨rfl, rfl, rfl, by decide +kernel, rfl, by decide +kernel, by decide +kernel⟩
abbrev s_Pupil_contains : Stmt := inClass (topS 14) 5
abbrev N_Pupil_contains : List Str := ["self", "x"]
abbrev P_Pupil_contains : List Str := ["self", "x"]
theorem sc_Pupil_contains : FnScope N_Pupil_contains P_Pupil_contains (defScope s_Pupil_contains) := ⟨rfl, rfl, rfl, by decide +kernel, rfl, by decide +kernel, by decide +kernel⟩
abbrev s_begin : Stmt := topS 30
abbrev N_begin : List Str := ["web", "start", "place"]
abbrev P_begin : List Str := ["web", "start"]
theorem sc_begin : FnScope N_begin P_begin (defScope s_begin) := ⟨rfl, rfl, rfl, by decide +kernel, rfl, by decide +kernel, by decide +kernel⟩
abbrev s_target_of : Stmt := topS 31
abbrev N_target_of : List Str := ["node", "answer"]
abbrev P_target_of : List Str := ["node", "answer"]
theorem sc_target_of : FnScope N_target_of P_target_of (defScope s_target_of) := ⟨rfl, rfl, rfl, by decide +kernel, rfl, by decide +kernel, by decide +kernel⟩
abbrev s_walk : Stmt := topS 29
abbrev N_walk : List Str := ["web", "pupil", "start", "place", "question", "answer"]
abbrev P_walk : List Str := ["web", "pupil", "start"]
theorem sc_walk : GScope N_walk P_walk (defScope s_walk) := ⟨rfl, rfl, rfl, by decide +kernel, rfl, by decide +kernel, by decide +kernel⟩
abbrev s_end_of : Stmt := topS 33
abbrev N_end_of : List Str := ["web", "pupil", "start", "place", "node", "question", "answer"]
abbrev P_end_of : List Str := ["web", "pupil", "start"]
theorem sc_end_of : FnScope N_end_of P_end_of (defScope s_end_of) := ⟨rfl, rfl, rfl, by decide +kernel, rfl, by decide +kernel, by decide +kernel⟩
abbrev s_run_of : Stmt := topS 32
abbrev N_run_of : List Str := ["web", "pupil", "node", "question", "answer"]
abbrev P_run_of : List Str := ["web", "pupil"]
theorem sc_run_of : FnScope N_run_of P_run_of (defScope s_run_of) := ⟨rfl, rfl, rfl, by decide +kernel, rfl, by decide +kernel, by decide +kernel⟩
abbrev s_Ladder_init : Stmt := inClass (topS 21) 0
abbrev N_Ladder_init : List Str := ["self", "levels", "begin", "up", "down", "count", "most_wrongs", "ranges", "word", "number", "low", "high"]
abbrev P_Ladder_init : List Str := ["self", "levels", "begin", "up", "down", "count", "most_wrongs"]
theorem sc_Ladder_init : FnScope N_Ladder_init P_Ladder_init (defScope s_Ladder_init) := ⟨rfl, rfl, rfl, by decide +kernel, rfl, by decide +kernel, by decide +kernel⟩
abbrev s_first_state : Stmt := topS 22
abbrev N_first_state : List Str := ["ladder"]
abbrev P_first_state : List Str := ["ladder"]
theorem sc_first_state : FnScope N_first_state P_first_state (defScope s_first_state) := ⟨rfl, rfl, rfl, by decide +kernel, rfl, by decide +kernel, by decide +kernel⟩
abbrev s_has_ended : Stmt := topS 23
abbrev N_has_ended : List Str := ["ladder", "state", "count", "wrongs"]
abbrev P_has_ended : List Str := ["ladder", "state"]
theorem sc_has_ended : FnScope N_has_ended P_has_ended (defScope s_has_ended) := ⟨rfl, rfl, rfl, by decide +kernel, rfl, by decide +kernel, by decide +kernel⟩
abbrev s_question_of : Stmt := topS 24
abbrev N_question_of : List Str := ["state", "level", "asked"]
abbrev P_question_of : List Str := ["state"]
theorem sc_question_of : FnScope N_question_of P_question_of (defScope s_question_of) := ⟨rfl, rfl, rfl, by decide +kernel, rfl, by decide +kernel, by decide +kernel⟩
abbrev s_state_behind : Stmt := topS 25
abbrev N_state_behind : List Str := ["ladder", "state", "answer", "level", "ups", "downs", "asked", "rights"]
abbrev P_state_behind : List Str := ["ladder", "state", "answer"]
theorem sc_state_behind : FnScope N_state_behind P_state_behind (defScope s_state_behind) := ⟨rfl, rfl, rfl, by decide +kernel, rfl, by decide +kernel, by decide +kernel⟩
abbrev s_ladder_run : Stmt := topS 26
abbrev N_ladder_run : List Str := ["ladder", "pupil", "run", "state", "question", "answer"]
abbrev P_ladder_run : List Str := ["ladder", "pupil"]
theorem sc_ladder_run : FnScope N_ladder_run P_ladder_run (defScope s_ladder_run) := ⟨rfl, rfl, rfl, by decide +kernel, rfl, by decide +kernel, by decide +kernel⟩
abbrev s_build : Stmt := topS 27
abbrev N_build : List Str := ["ladder", "states", "numbers", "nodes", "state", "behind", "found", "targets", "answer"]
abbrev P_build : List Str := ["ladder"]
theorem sc_build : FnScope N_build P_build (defScope s_build) := ⟨rfl, rfl, rfl, by decide +kernel, rfl, by decide +kernel, by decide +kernel⟩
abbrev s_l_pool : Stmt := topS 35
abbrev N_l_pool : List Str := ["_law_script"]
abbrev P_l_pool : List Str := ["_law_script"]
theorem sc_l_pool : FnScope N_l_pool P_l_pool (defScope s_l_pool) := ⟨rfl, rfl, rfl, by decide +kernel, rfl, by decide +kernel, by decide +kernel⟩
abbrev s_l_draw : Stmt := topS 36
abbrev N_l_draw : List Str := ["_law_pool_here", "_law_limit", "_law_cell", "_law_digit", "_law_mixed"]
abbrev P_l_draw : List Str := ["_law_pool_here", "_law_limit"]
theorem sc_l_draw : FnScope N_l_draw P_l_draw (defScope s_l_draw) := ⟨rfl, rfl, rfl, by decide +kernel, rfl, by decide +kernel, by decide +kernel⟩
abbrev s_l_ladder : Stmt := topS 37
abbrev N_l_ladder : List Str := ["_law_pool_here", "_law_height", "_law_size", "_law_first", "_law_rises", "_law_falls"]
abbrev P_l_ladder : List Str := ["_law_pool_here"]
theorem sc_l_ladder : FnScope N_l_ladder P_l_ladder (defScope s_l_ladder) := ⟨rfl, rfl, rfl, by decide +kernel, rfl, by decide +kernel, by decide +kernel⟩
abbrev s_l_made : Stmt := topS 38
abbrev N_l_made : List Str := ["_law_told", "_law_height", "_law_first", "_law_rises", "_law_falls", "_law_size", "_law_wrongs"]
abbrev P_l_made : List Str := ["_law_told"]
theorem sc_l_made : FnScope N_l_made P_l_made (defScope s_l_made) := ⟨rfl, rfl, rfl, by decide +kernel, rfl, by decide +kernel, by decide +kernel⟩
abbrev s_l_cut : Stmt := topS 39
abbrev N_l_cut : List Str := ["_law_run", "_law_most", "_law_lost", "_law_k"]
abbrev P_l_cut : List Str := ["_law_run", "_law_most"]
theorem sc_l_cut : FnScope N_l_cut P_l_cut (defScope s_l_cut) := ⟨rfl, rfl, rfl, by decide +kernel, rfl, by decide +kernel, by decide +kernel⟩
abbrev s_law : Stmt := topS 40
abbrev N_law : List Str := ["_law_script", "_law_pool_here", "_law_height", "_law_first", "_law_rises", "_law_falls", "_law_size", "_law_wrongs", "_law_pupil", "_law_longest", "_law_most", "_law_ladder_here", "_law_run", "_law_shorter", "_law_k", "_law_question", "_law_answer"]
abbrev P_law : List Str := ["_law_script"]
theorem sc_law : FnScope N_law P_law (defScope s_law) := ⟨rfl, rfl, rfl, by decide +kernel, rfl, by decide +kernel, by decide +kernel⟩
structure Ad where
  c_TestError : Addr
  c_NoNode : Addr
  c_NoPosition : Addr
  c_Pupil : Addr
  c_Web : Addr
  c_Ladder : Addr
  f_is_question : Addr
  d_is_question : FuncData
  f_Web_contains : Addr
  d_Web_contains : FuncData
  f_Web_len : Addr
  d_Web_len : FuncData
  f_Web_first : Addr
  d_Web_first : FuncData
  f_Web_can_stand : Addr
  d_Web_can_stand : FuncData
  f_asked_twice : Addr
  d_asked_twice : FuncData
  f_Web_init : Addr
  d_Web_init : FuncData
  f_NoNode_init : Addr
  d_NoNode_init : FuncData
  f_NoPosition_init : Addr
  d_NoPosition_init : FuncData
  f_Web_getitem : Addr
  d_Web_getitem : FuncData
  f_Pupil_init : Addr
  d_Pupil_init : FuncData
  f_Pupil_contains : Addr
  d_Pupil_contains : FuncData
  f_begin : Addr
  d_begin : FuncData
  f_target_of : Addr
  d_target_of : FuncData
  f_walk : Addr
  d_walk : FuncData
  f_end_of : Addr
  d_end_of : FuncData
  f_run_of : Addr
  d_run_of : FuncData
  f_Ladder_init : Addr
  d_Ladder_init : FuncData
  f_first_state : Addr
  d_first_state : FuncData
  f_has_ended : Addr
  d_has_ended : FuncData
  f_question_of : Addr
  d_question_of : FuncData
  f_state_behind : Addr
  d_state_behind : FuncData
  f_ladder_run : Addr
  d_ladder_run : FuncData
  f_build : Addr
  d_build : FuncData
  f_l_pool : Addr
  d_l_pool : FuncData
  f_l_draw : Addr
  d_l_draw : FuncData
  f_l_ladder : Addr
  d_l_ladder : FuncData
  f_l_made : Addr
  d_l_made : FuncData
  f_l_cut : Addr
  d_l_cut : FuncData
  f_law : Addr
  d_law : FuncData
  ds_Web_init : List Value
  ds_walk : List Value
  ds_end_of : List Value
  t_QUESTIONS : Tok
  t_MOST_ENDS : Tok
  t_QUESTIONS_OF_A_LEVEL : Tok
structure Txt (K : PySem.W.Frag) (mg : Str → Option Value) (a : Ad) : Prop where
  g_TestError : mg "TestError" = some (.ref a.c_TestError)
  g_NoNode : mg "NoNode" = some (.ref a.c_NoNode)
  g_NoPosition : mg "NoPosition" = some (.ref a.c_NoPosition)
  g_Pupil : mg "Pupil" = some (.ref a.c_Pupil)
  cl_Pupil : Cls K a.c_Pupil
  mk_Pupil : Mk K a.c_Pupil a.f_Pupil_init
  nA_Pupil_rights : NoAttr K a.c_Pupil "rights"
  g_Web : mg "Web" = some (.ref a.c_Web)
  cl_Web : Cls K a.c_Web
  mk_Web : Mk K a.c_Web a.f_Web_init
  nA_Web_nodes : NoAttr K a.c_Web "nodes"
  nA_Web_ends : NoAttr K a.c_Web "ends"
  nA_Web_start : NoAttr K a.c_Web "start"
  g_Ladder : mg "Ladder" = some (.ref a.c_Ladder)
  cl_Ladder : Cls K a.c_Ladder
  mk_Ladder : Mk K a.c_Ladder a.f_Ladder_init
  nA_Ladder_levels : NoAttr K a.c_Ladder "levels"
  nA_Ladder_begin : NoAttr K a.c_Ladder "begin"
  nA_Ladder_up : NoAttr K a.c_Ladder "up"
  nA_Ladder_down : NoAttr K a.c_Ladder "down"
  nA_Ladder_count : NoAttr K a.c_Ladder "count"
  nA_Ladder_most_wrongs : NoAttr K a.c_Ladder "most_wrongs"
  bi_TestError : BaseI K a.c_TestError
  ox_NoPosition : OexC K a.c_NoPosition
  xf_NoPosition : XfC K a.c_NoPosition
  nf_NoPosition_place : PySem.W.findIn K (.ref a.c_NoPosition) "place" = some none
  te_NoPosition : PySem.W.exmOne K (.ref a.c_NoPosition) (.ref a.c_NoPosition) = some true
  ek_NoPosition : PySem.W.ErrK K a.c_NoPosition
  ii_NoPosition : PySem.W.findIn K (.ref a.c_NoPosition) "__init__" = some (some (.ref a.f_NoPosition_init))
  ti_NoPosition : PySem.W.typeIn K (.ref a.f_NoPosition_init) = some (.type "function")
  kt_NoPosition : PySem.W.kitOne K (.ref a.c_NoPosition) (.ref a.c_TestError) = some true
  ox_NoNode : OexC K a.c_NoNode
  xf_NoNode : XfC K a.c_NoNode
  nf_NoNode_index : PySem.W.findIn K (.ref a.c_NoNode) "index" = some none
  te_NoNode : PySem.W.exmOne K (.ref a.c_NoNode) (.ref a.c_NoNode) = some true
  ek_NoNode : PySem.W.ErrK K a.c_NoNode
  ii_NoNode : PySem.W.findIn K (.ref a.c_NoNode) "__init__" = some (some (.ref a.f_NoNode_init))
  ti_NoNode : PySem.W.typeIn K (.ref a.f_NoNode_init) = some (.type "function")
  kt_NoNode : PySem.W.kitOne K (.ref a.c_NoNode) (.ref a.c_TestError) = some true
  F_is_question : Fun K "is_question" "is_question" s_is_question a.f_is_question a.d_is_question
  b_is_question : Binds K a.d_is_question P_is_question []
  k_is_question : PySem.W.keepIn K (.ref a.f_is_question) = true
  g_is_question : mg "is_question" = some (.ref a.f_is_question)
  F_Web_contains : Fun K "__contains__" "Web.__contains__" s_Web_contains a.f_Web_contains a.d_Web_contains
  b_Web_contains : Binds K a.d_Web_contains P_Web_contains []
  k_Web_contains : PySem.W.keepIn K (.ref a.f_Web_contains) = true
  i_Web_contains : PySem.W.isFn K (.ref a.f_Web_contains) = true
  s_Web_contains : PySem.W.findIn K (.ref a.c_Web) "__contains__" = some (some (.ref a.f_Web_contains))
  F_Web_len : Fun K "__len__" "Web.__len__" s_Web_len a.f_Web_len a.d_Web_len
  b_Web_len : Binds K a.d_Web_len P_Web_len []
  k_Web_len : PySem.W.keepIn K (.ref a.f_Web_len) = true
  i_Web_len : PySem.W.isFn K (.ref a.f_Web_len) = true
  s_Web_len : PySem.W.findIn K (.ref a.c_Web) "__len__" = some (some (.ref a.f_Web_len))
  F_Web_first : Fun K "_first" "Web._first" s_Web_first a.f_Web_first a.d_Web_first
  b_Web_first : Binds K a.d_Web_first P_Web_first []
  k_Web_first : PySem.W.keepIn K (.ref a.f_Web_first) = true
  i_Web_first : PySem.W.isFn K (.ref a.f_Web_first) = true
  m_Web_first : Meth K a.c_Web "_first" a.f_Web_first
  F_Web_can_stand : Fun K "_can_stand" "Web._can_stand" s_Web_can_stand a.f_Web_can_stand a.d_Web_can_stand
  b_Web_can_stand : Binds K a.d_Web_can_stand P_Web_can_stand []
  k_Web_can_stand : PySem.W.keepIn K (.ref a.f_Web_can_stand) = true
  i_Web_can_stand : PySem.W.isFn K (.ref a.f_Web_can_stand) = true
  m_Web_can_stand : Meth K a.c_Web "_can_stand" a.f_Web_can_stand
  F_asked_twice : Fun K "_asked_twice" "_asked_twice" s_asked_twice a.f_asked_twice a.d_asked_twice
  b_asked_twice : Binds K a.d_asked_twice P_asked_twice []
  k_asked_twice : PySem.W.keepIn K (.ref a.f_asked_twice) = true
  g_asked_twice : mg "_asked_twice" = some (.ref a.f_asked_twice)
  F_Web_init : Fun K "__init__" "Web.__init__" s_Web_init a.f_Web_init a.d_Web_init
  k_Web_init : PySem.W.keepIn K (.ref a.f_Web_init) = true
  i_Web_init : PySem.W.isFn K (.ref a.f_Web_init) = true
  vd_Web_init : Vals [V.non] a.ds_Web_init
  bd_Web_init : L2.Binds K a.d_Web_init P_Web_init a.ds_Web_init
  kb_Web_init_start : KBn K a.d_Web_init P_Web_init 3 ["start"] (fun us ws => us ++ ws) (fun us ws => us ++ ws)
  F_NoNode_init : Fun K "__init__" "NoNode.__init__" s_NoNode_init a.f_NoNode_init a.d_NoNode_init
  b_NoNode_init : Binds K a.d_NoNode_init P_NoNode_init []
  k_NoNode_init : PySem.W.keepIn K (.ref a.f_NoNode_init) = true
  i_NoNode_init : PySem.W.isFn K (.ref a.f_NoNode_init) = true
  F_NoPosition_init : Fun K "__init__" "NoPosition.__init__" s_NoPosition_init a.f_NoPosition_init a.d_NoPosition_init
  b_NoPosition_init : Binds K a.d_NoPosition_init P_NoPosition_init []
  k_NoPosition_init : PySem.W.keepIn K (.ref a.f_NoPosition_init) = true
  i_NoPosition_init : PySem.W.isFn K (.ref a.f_NoPosition_init) = true
  F_Web_getitem : Fun K "__getitem__" "Web.__getitem__" s_Web_getitem a.f_Web_getitem a.d_Web_getitem
  b_Web_getitem : Binds K a.d_Web_getitem P_Web_getitem []
  k_Web_getitem : PySem.W.keepIn K (.ref a.f_Web_getitem) = true
  i_Web_getitem : PySem.W.isFn K (.ref a.f_Web_getitem) = true
  s_Web_getitem : PySem.W.findIn K (.ref a.c_Web) "__getitem__" = some (some (.ref a.f_Web_getitem))
  fn_Web_getitem : PySem.W.fnIn K a.f_Web_getitem = true
  F_Pupil_init : Fun K "__init__" "Pupil.__init__" s_Pupil_init a.f_Pupil_init a.d_Pupil_init
  b_Pupil_init : Binds K a.d_Pupil_init P_Pupil_init []
  k_Pupil_init : PySem.W.keepIn K (.ref a.f_Pupil_init) = true
  i_Pupil_init : PySem.W.isFn K (.ref a.f_Pupil_init) = true
  F_Pupil_contains : Fun K "__contains__" "Pupil.__contains__" s_Pupil_contains a.f_Pupil_contains a.d_Pupil_contains
  b_Pupil_contains : Binds K a.d_Pupil_contains P_Pupil_contains []
  k_Pupil_contains : PySem.W.keepIn K (.ref a.f_Pupil_contains) = true
  i_Pupil_contains : PySem.W.isFn K (.ref a.f_Pupil_contains) = true
  s_Pupil_contains : PySem.W.findIn K (.ref a.c_Pupil) "__contains__" = some (some (.ref a.f_Pupil_contains))
  F_begin : Fun K "_begin" "_begin" s_begin a.f_begin a.d_begin
  b_begin : Binds K a.d_begin P_begin []
  k_begin : PySem.W.keepIn K (.ref a.f_begin) = true
  g_begin : mg "_begin" = some (.ref a.f_begin)
  F_target_of : Fun K "target_of" "target_of" s_target_of a.f_target_of a.d_target_of
  b_target_of : Binds K a.d_target_of P_target_of []
  k_target_of : PySem.W.keepIn K (.ref a.f_target_of) = true
  g_target_of : mg "target_of" = some (.ref a.f_target_of)
  F_walk : FunD K "walk" "walk" (defArgs s_walk) (defBody s_walk) (defScope s_walk) [V.non] [] a.f_walk a.d_walk
  k_walk : PySem.W.keepIn K (.ref a.f_walk) = true
  g_walk : mg "walk" = some (.ref a.f_walk)
  vd_walk : Vals [V.non] a.ds_walk
  bd_walk : L2.Binds K a.d_walk P_walk a.ds_walk
  b_walk : L2.Binds K a.d_walk P_walk []
  F_end_of : FunD K "end_of" "end_of" (defArgs s_end_of) (defBody s_end_of) (defScope s_end_of) [V.non] [] a.f_end_of a.d_end_of
  k_end_of : PySem.W.keepIn K (.ref a.f_end_of) = true
  g_end_of : mg "end_of" = some (.ref a.f_end_of)
  vd_end_of : Vals [V.non] a.ds_end_of
  bd_end_of : L2.Binds K a.d_end_of P_end_of a.ds_end_of
  b_end_of : L2.Binds K a.d_end_of P_end_of []
  F_run_of : Fun K "run_of" "run_of" s_run_of a.f_run_of a.d_run_of
  b_run_of : Binds K a.d_run_of P_run_of []
  k_run_of : PySem.W.keepIn K (.ref a.f_run_of) = true
  g_run_of : mg "run_of" = some (.ref a.f_run_of)
  F_Ladder_init : Fun K "__init__" "Ladder.__init__" s_Ladder_init a.f_Ladder_init a.d_Ladder_init
  k_Ladder_init : PySem.W.keepIn K (.ref a.f_Ladder_init) = true
  i_Ladder_init : PySem.W.isFn K (.ref a.f_Ladder_init) = true
  kb_Ladder_init_levels_begin_up_down_count_most_wrongs : KBn K a.d_Ladder_init P_Ladder_init 1 ["levels", "begin", "up", "down", "count", "most_wrongs"] (fun us ws => us ++ ws) (fun us ws => us ++ ws)
  F_first_state : Fun K "_first_state" "_first_state" s_first_state a.f_first_state a.d_first_state
  b_first_state : Binds K a.d_first_state P_first_state []
  k_first_state : PySem.W.keepIn K (.ref a.f_first_state) = true
  g_first_state : mg "_first_state" = some (.ref a.f_first_state)
  F_has_ended : Fun K "_has_ended" "_has_ended" s_has_ended a.f_has_ended a.d_has_ended
  b_has_ended : Binds K a.d_has_ended P_has_ended []
  k_has_ended : PySem.W.keepIn K (.ref a.f_has_ended) = true
  g_has_ended : mg "_has_ended" = some (.ref a.f_has_ended)
  F_question_of : Fun K "_question_of" "_question_of" s_question_of a.f_question_of a.d_question_of
  b_question_of : Binds K a.d_question_of P_question_of []
  k_question_of : PySem.W.keepIn K (.ref a.f_question_of) = true
  g_question_of : mg "_question_of" = some (.ref a.f_question_of)
  F_state_behind : Fun K "_state_behind" "_state_behind" s_state_behind a.f_state_behind a.d_state_behind
  b_state_behind : Binds K a.d_state_behind P_state_behind []
  k_state_behind : PySem.W.keepIn K (.ref a.f_state_behind) = true
  g_state_behind : mg "_state_behind" = some (.ref a.f_state_behind)
  F_ladder_run : Fun K "ladder_run" "ladder_run" s_ladder_run a.f_ladder_run a.d_ladder_run
  b_ladder_run : Binds K a.d_ladder_run P_ladder_run []
  k_ladder_run : PySem.W.keepIn K (.ref a.f_ladder_run) = true
  g_ladder_run : mg "ladder_run" = some (.ref a.f_ladder_run)
  F_build : Fun K "build" "build" s_build a.f_build a.d_build
  b_build : Binds K a.d_build P_build []
  k_build : PySem.W.keepIn K (.ref a.f_build) = true
  g_build : mg "build" = some (.ref a.f_build)
  F_l_pool : Fun K "_law_pool" "_law_pool" s_l_pool a.f_l_pool a.d_l_pool
  b_l_pool : Binds K a.d_l_pool P_l_pool []
  k_l_pool : PySem.W.keepIn K (.ref a.f_l_pool) = true
  g_l_pool : mg "_law_pool" = some (.ref a.f_l_pool)
  F_l_draw : Fun K "_law_draw" "_law_draw" s_l_draw a.f_l_draw a.d_l_draw
  b_l_draw : Binds K a.d_l_draw P_l_draw []
  k_l_draw : PySem.W.keepIn K (.ref a.f_l_draw) = true
  g_l_draw : mg "_law_draw" = some (.ref a.f_l_draw)
  F_l_ladder : Fun K "_law_ladder" "_law_ladder" s_l_ladder a.f_l_ladder a.d_l_ladder
  b_l_ladder : Binds K a.d_l_ladder P_l_ladder []
  k_l_ladder : PySem.W.keepIn K (.ref a.f_l_ladder) = true
  g_l_ladder : mg "_law_ladder" = some (.ref a.f_l_ladder)
  F_l_made : Fun K "_law_made" "_law_made" s_l_made a.f_l_made a.d_l_made
  b_l_made : Binds K a.d_l_made P_l_made []
  k_l_made : PySem.W.keepIn K (.ref a.f_l_made) = true
  g_l_made : mg "_law_made" = some (.ref a.f_l_made)
  F_l_cut : Fun K "_law_cut" "_law_cut" s_l_cut a.f_l_cut a.d_l_cut
  b_l_cut : Binds K a.d_l_cut P_l_cut []
  k_l_cut : PySem.W.keepIn K (.ref a.f_l_cut) = true
  g_l_cut : mg "_law_cut" = some (.ref a.f_l_cut)
  F_law : Fun K "law" "law" s_law a.f_law a.d_law
  b_law : Binds K a.d_law P_law []
  k_law : PySem.W.keepIn K (.ref a.f_law) = true
  g_law : mg "law" = some (.ref a.f_law)
  g_QUESTIONS : mg "QUESTIONS" = some (.int 48 a.t_QUESTIONS)
  g_MOST_ENDS : mg "MOST_ENDS" = some (.int 60 a.t_MOST_ENDS)
  g_QUESTIONS_OF_A_LEVEL : mg "QUESTIONS_OF_A_LEVEL" = some (.int 8 a.t_QUESTIONS_OF_A_LEVEL)
  z_abs : mg "abs" = none
  z_all : mg "all" = none
  z_enumerate : mg "enumerate" = none
  z_int : mg "int" = none
  z_len : mg "len" = none
  z_max : mg "max" = none
  z_range : mg "range" = none
  z_reversed : mg "reversed" = none
  z_set : mg "set" = none
  z_sorted : mg "sorted" = none
  z_sum : mg "sum" = none
  z_tuple : mg "tuple" = none
section
variable {P : Program} {w : World} {K : PySem.W.Frag} {mg : Str → Option Value} {base : Heap} {a : Ad}
def spIsQ : Sp := fun vs H Q _ => ∃ n : Int, vs = [.int n] ∧ Q (.bl (decide (0 ≤ n ∧ n < 48))) H
theorem ok_is_question (T : Txt K mg a) : FnOk P w K mg base CX0 1 a.f_is_question a.d_is_question P_is_question spIsQ := by
  refine T.F_is_question.ok sc_is_question (fun vs H Q E h => ?_) (fun cdv A outer s H vs Q E hr h => ?_)
  · obtain ⟨n, rfl, _⟩ := h
    rfl
  · obtain ⟨n, rfl, q⟩ := h
    refine ⟨_, (pss_one (ps_ret (pe_chain op_le op_lt pe_int (pv 0) (pe_glob (v := .int 48) (by rfl) T.g_QUESTIONS ⟨_, rfl⟩)))), ?_⟩
    refine ⟨_, rfl, _, _, rfl, rfl, _, rfl, ?_⟩
    by_cases h0 : (0 : Int) ≤ n
    · rw [decide_eq_true h0]
      refine iteT ⟨_, _, rfl, rfl, ?_⟩
      show Q (.bl (decide (n < 48))) H
      rw [show decide (n < 48) = decide (0 ≤ n ∧ n < 48) by rw [Bool.eq_iff_iff]; simp [h0]]
      exact q
    · rw [decide_eq_false h0]
      refine iteF ?_
      rw [show decide (0 ≤ n ∧ n < 48) = false by simp [h0]] at q
      exact q
theorem ok_Web_contains (T : Txt K mg a) : FnOk P w K mg base CX0 1 a.f_Web_contains a.d_Web_contains P_Web_contains (spIn a.c_Web) := by
  refine T.F_Web_contains.ok sc_Web_contains (fun vs H Q E h => ?_) (fun cdv A outer s H vs Q E hr h => ?_)
  · obtain ⟨x, dx, fs, nt, xs, e, z, rfl, _⟩ := h
    rfl
  · obtain ⟨x, dx, fs, nt, xs, e, z, rfl, hx, he, hn, hnt, k⟩ := h
    refine ⟨_, (pss_one (ps_ret (pe_chain op_le op_lt (pe_un un_neg (pe_fld (pv 0) (by rfl))) (pv 1) (pe_callB call_len_seq (by rfl) T.z_len (by decide +kernel) (pa_cons (pe_fld (pv 0) (by rfl)) pa_nil))))), ?_⟩
    refine ⟨_, rfl, x, _, dx, _, _, rfl, hx, T.cl_Web, T.nA_Web_ends, he, _, rfl, _, rfl, _, _, rfl, rfl, _, rfl, ?_⟩
    by_cases h0 : -e ≤ z
    · rw [decide_eq_true h0]
      refine iteT ⟨_, rfl, x, _, dx, _, _, rfl, hx, T.cl_Web, T.nA_Web_nodes, hn, nt, _, rfl, .inr (tup_of hnt), _, _, rfl, rfl, ?_⟩
      rw [show decide (-e ≤ z ∧ z < (xs.length : Nat)) = decide (z < (xs.length : Nat)) by rw [Bool.eq_iff_iff]; simp [h0]] at k
      exact k
    · rw [decide_eq_false h0]
      refine iteF ?_
      rw [show decide (-e ≤ z ∧ z < (xs.length : Nat)) = false by simp [h0]] at k
      exact k
theorem ok_Web_len (T : Txt K mg a) : FnOk P w K mg base CX0 1 a.f_Web_len a.d_Web_len P_Web_len (spLenW a.c_Web) := by
  refine T.F_Web_len.ok sc_Web_len (fun vs H Q E h => ?_) (fun cdv A outer s H vs Q E hr h => ?_)
  · obtain ⟨x, dx, nt, fs, xs, rfl, _⟩ := h
    rfl
  · obtain ⟨x, dx, nt, fs, xs, rfl, hx, hn, hnt, k⟩ := h
    refine ⟨_, (pss_one (ps_ret (pe_callB call_len_seq (by rfl) T.z_len (by decide +kernel) (pa_cons (pe_fld (pv 0) (by rfl)) pa_nil)))), ?_⟩
    exact ⟨_, rfl, x, _, dx, _, _, rfl, hx, T.cl_Web, T.nA_Web_nodes, hn, nt, _, rfl, .inr (tup_of hnt), k⟩
theorem ok_Web_first (T : Txt K mg a) : FnOk P w K mg base CX0 1 a.f_Web_first a.d_Web_first P_Web_first (spFirst a.c_Web) := by
  refine T.F_Web_first.ok sc_Web_first (fun vs H Q E h => ?_) (fun cdv A outer s H vs Q E hr h => ?_)
  · obtain ⟨x, dx, nt, fs, xs, rfl, _⟩ := h
    rfl
  · obtain ⟨x, dx, nt, fs, xs, rfl, hx, hn, hnt, k⟩ := h
    refine ⟨_, (pss_one (ps_ret (pe_ifExp (pt_truth (pe_fld (pv 0) (by rfl)) (by intro _; rfl)) pe_int (pe_un un_neg pe_int)))), ?_⟩
    refine ⟨_, rfl, x, _, dx, _, _, rfl, hx, T.cl_Web, T.nA_Web_nodes, hn, _, .inr (.inl ⟨xs, tup_of hnt, rfl⟩), ?_⟩
    cases xs with
    | nil => exact iteF ⟨_, rfl, k⟩
    | cons y r => exact iteT k
theorem ok_Web_can_stand (T : Txt K mg a) : FnOk P w K mg base CX0 2 a.f_Web_can_stand a.d_Web_can_stand P_Web_can_stand (spStand a.c_Web) := by
  refine T.F_Web_can_stand.ok sc_Web_can_stand (fun vs H Q E h => ?_) (fun cdv A outer s H vs Q E hr h => ?_)
  · obtain ⟨x, dx, nt, nd, fs, xs, e, k0, row, rfl, _⟩ := h
    rfl
  · obtain ⟨x, dx, nt, nd, fs, xs, e, k0, row, rfl, hx, he, hn, hnt, hnd, ⟨q, r, rfl, hl, q0, q1, ht⟩, k⟩ := h
    refine ⟨_, (pss_cons (ps_if (PW.pt (pw_or (pt_cmpR op_notIn_seq (pe_callB call_len_seq (by rfl) T.z_len (by decide +kernel) (pa_cons (pv 2) pa_nil)) (pe_tup (pa_cons pe_int (pa_cons pe_int pa_nil))) (by with_unfolding_all rfl)) (pw_or1 (pt_not (pt_val (pe_call (ok_is_question T) (hr.mono (by decide)) (by rfl) T.g_is_question T.k_is_question T.b_is_question .nil pass0 (pa_cons (pe_ix ix_tup (pv 2) pe_int (by intro _ _; rfl)) pa_nil)))))))
    (pss_one (ps_ret pe_bl))
    pss_nil)
  (pss_one (ps_ret (pe_callB (cr_all rfl) (by rfl) T.z_all (by decide +kernel) (pa_cons (pe_lc (own := [("target", 3)]) (g := gName 3) (tt := tYes) (te := (tAndV (tOp (rOwnIn a.c_Web (spIn a.c_Web) E0 false) (tVar 3) (tVar 0)) (tNotV (tChain (rI0 fun i j => .bl (decide (i ≤ j))) (rI0 fun i j => .bl (decide (i ≤ j))) (tC (.int 0)) (tVar 3) (tVar 1))))) rfl sc_Web_can_stand.nd (pi_tup (pe_slice sl_tupA (pv 2) (po_some pe_int) po_none)) (blkOk_by (N := N_Web_can_stand) (sc := defScope s_Web_can_stand) (by decide +kernel)) (fun _ _ _ _ _ => pg_name (i := 3) sc_Web_can_stand.nd rfl (Or.inl rfl)) (fun _ _ _ _ _ => pts_nil) (fun _ _ _ _ _ => by exact (pe_and (pe_cmpR (in_own (ok_Web_contains T) (hr.mono (by decide)) T.s_Web_contains T.i_Web_contains T.b_Web_contains pass0) (pv 3) (pv 0) (by with_unfolding_all rfl)) (pe_one (pe_not (pe_chain op_le op_le pe_int (pv 3) (pv 1))))))) pa_nil))))), ?_⟩
    refine ⟨_, rfl, nd, _, rfl, .inr (tup_of hnd), by show 2 ≤ sizeLine; decide, fun t nt2 => ?_⟩
    have e1 := same_upd nt2 (o := .tup [.int 3, .int 4])
    have hlen : (((q :: r).map V.int).length : Int) ∈ [3, 4] := by
      rw [List.length_map, List.length_cons]
      rcases hl with hl | hl <;> rw [hl] <;> decide
    refine in_k (neg := true) (ns := [3, 4]) (.inr (tup_of upd_same)) ⟨_, rfl, ?_⟩
    rw [decide_eq_true hlen]
    refine iteF ?_
    refine ⟨_, rfl, nd, _, 0, _, rfl, rfl, tup_of (e1 _ _ hnd), atI0, q, rfl, ?_⟩
    rw [decide_eq_true ⟨q0, q1⟩]
    refine ⟨_, rfl, iteF ?_⟩
    refine ⟨_, rfl, _, rfl, ?_⟩
    unfold tNoPart
    refine rest_row (K := K) (e1 _ _ hnd) ?_
    intro p np
    have e2 := e1.trans (same_upd np (o := .tup (r.map V.int)))
    refine ⟨p, rfl, ⟨_, tup_of upd_same⟩, fun D nD => ?_⟩
    have e3 := e2.trans (same_upd nD (o := .lst []))
    refine lc_tup (K := K) (a := p) (xs := r.map V.int) (fun i H1 => Same (upd (upd H t (.tup [.int 3, .int 4])) p (.tup (r.map V.int))) H1 ∧ H1 D = some (.lst ((List.replicate i true).map V.bl))) ⟨same_upd nD, upd_same⟩ (fun i H1 _ h => h.1.seqT (tup_of upd_same)) (fun i v H1 hi h => ?_) (fun H1 h => ?_)
    · obtain ⟨z, hz, rfl⟩ := get_map_int hi
      obtain ⟨f1, h1⟩ := h
      obtain ⟨z0, z1, z2⟩ := ht z (List.mem_of_getElem? hz)
      have f2 := e2.trans f1
      refine ⟨rfl, tyes ?_⟩
      refine ⟨_, rfl, _, rfl, x, dx, _, rfl, f2 _ _ hx, x, dx, fs, nt, xs, e, z, rfl, f2 _ _ hx, he, hn, f2 _ _ hnt, _, rfl, _, rfl, ?_⟩
      rw [decide_eq_true ⟨z0, z1⟩]
      refine iteT ?_
      have last : ∃ acc, H1 D = some (.lst acc) ∧ acc.length < sizeLine ∧ (Same (upd (upd H t (.tup [.int 3, .int 4])) p (.tup (r.map V.int))) (upd H1 D (.lst (acc ++ [V.bl true]))) ∧ upd H1 D (.lst (acc ++ [V.bl true])) D = some (.lst ((List.replicate (i + 1) true).map V.bl))) := by
        refine ⟨_, h1, ?_, f1.mut nD, ?_⟩
        · rw [List.length_map, List.length_replicate, sizeLine_eq]
          have := (List.getElem?_eq_some_iff.mp hz).1
          omega
        · rw [upd_same, List.replicate_succ', List.map_append]
          rfl
      refine ⟨_, rfl, _, _, rfl, rfl, _, rfl, ?_⟩
      by_cases g0 : (0 : Int) ≤ z
      · have g1 : ¬ z ≤ (k0 : Int) := fun g1 => z2 ⟨g0, g1⟩
        rw [decide_eq_true g0]
        refine iteT ⟨_, rfl, _, _, rfl, rfl, _, rfl, ?_⟩
        rw [decide_eq_false g1]
        exact last
      · rw [decide_eq_false g0]
        exact iteF ⟨_, rfl, last⟩
    · obtain ⟨f1, h1⟩ := h
      refine ⟨D, _, rfl, lst_of h1, ?_⟩
      rw [show (List.replicate ((r.map V.int).length) true).all id = true by rw [List.all_eq_true]; intro y hy; rw [List.eq_of_mem_replicate hy]; rfl]
      exact k H1 (e2.trans f1)
theorem ok_asked_twice (T : Txt K mg a) : FnOk P w K mg base CX0 1 a.f_asked_twice a.d_asked_twice P_asked_twice spTwice := by
  refine T.F_asked_twice.ok sc_asked_twice (fun vs H Q E h => ?_) (fun cdv A outer s H vs Q E hr h => ?_)
  · obtain ⟨nt, as, rows, e, rfl, _⟩ := h
    rfl
  · obtain ⟨nt, as, rows, e, rfl, hnt, hrows, hlen, hrow, ⟨B, hB⟩, k⟩ := h
    refine ⟨_, (Evl.pss_cut (ps_set (i := 1) sc_asked_twice.nd rfl (Or.inl rfl) (pe_op op_rep (pe_lst (pa_cons pe_int pa_nil)) (pe_callB call_len_seq (by rfl) T.z_len (by decide +kernel) (pa_cons (pv 0) pa_nil))))
  (Evl.pss_cut (ps_set (i := 2) sc_asked_twice.nd rfl (Or.inl rfl) pe_non)
  (Evl.pss_cut (ps_for PassesOwn.never rfl (pi_revR (by rfl) T.z_reversed (prg_1 (by rfl) T.z_range (pe_callB call_len_seq (by rfl) T.z_len (by decide +kernel) (pa_cons (pv 0) pa_nil)))) (pg_name (i := 3) sc_asked_twice.nd rfl (Or.inl rfl))
    (Evl.pss_cut (ps_set (i := 4) sc_asked_twice.nd rfl (Or.inl rfl) pe_int)
  (Evl.pss_cut (ps_for PassesOwn.never rfl (pi_tup (pe_slice sl_tupA (pe_ix ix_tup (pv 0) (pv 3) (by intro _ _; rfl)) (po_some pe_int) po_none)) (pg_name (i := 5) sc_asked_twice.nd rfl (Or.inl rfl))
    (pss_one (ps_if (pt_cmpR op_ge (pv 5) pe_int (nomark _))
    (pss_one (ps_set (i := 4) sc_asked_twice.nd rfl (Or.inl rfl) (pe_op op_or (pv 4) (pe_ix ix_list (pv 1) (pv 5) (by intro _ _; rfl)))))
    pss_nil)))
  (Evl.pss_cut (ps_set (i := 6) sc_asked_twice.nd rfl (Or.inl rfl) (pe_op op_shl pe_int (pe_ix ix_tup (pe_ix ix_tup (pv 0) (pv 3) (by intro _ _; rfl)) pe_int (by intro _ _; rfl))))
  (Evl.pss_cut (ps_if (pt_truth (pe_op op_and (pv 4) (pv 6)) (by intro _; rfl))
    (pss_one (ps_set (i := 2) sc_asked_twice.nd rfl (Or.inl rfl) (pv 3)))
    pss_nil)
  (pss_one (ps_asg (pe_op op_or (pv 4) (pv 6)) (pg_sub (pv 1) (pv 3) set_list))))))))
  (pss_one (ps_ret (pv 2)))))), ?_⟩
    have elen : (as.map V.ref).length = rows.length := by rw [List.length_map, hrows.1]
    refine ⟨fun σ H1 => ∃ M, σ = [some (.ref nt), some (.ref M), none, none, none, none, none] ∧ Same H H1 ∧ H M = none ∧ H1 M = some (.lst ((List.replicate rows.length 0).map natV)), ?_, ?_⟩
    · refine ⟨by show 1 ≤ sizeLine; decide, fun q nq => ?_⟩
      have e1 := same_upd nq (o := .lst [.int 0])
      refine ⟨_, rfl, nt, _, rfl, .inr (tup_of (e1 _ _ hnt)), q, _, _, rfl, rfl, upd_same, by omega, by rw [elen]; omega, ?_, fun M nM => ?_⟩
      · rw [elen, Int.toNat_natCast, sizeLine_eq]
        show 1 * _ ≤ _
        omega
      · refine ⟨M, rfl, e1.trans (same_upd nM), e1.free nM, ?_⟩
        rw [upd_same, elen, Int.toNat_natCast, List.flatten_replicate_singleton, List.map_replicate]
        rfl
    rintro σ H1 ⟨M, rfl, e1, nM, hM⟩
    refine ⟨fun σ H2 => σ = [some (.ref nt), some (.ref M), some .non, none, none, none, none] ∧ H2 = H1, ⟨rfl, rfl⟩, ?_⟩
    rintro σ H2 ⟨rfl, rfl⟩
    refine ⟨fun σ H3 => ∃ v3 v4 v5 v6, σ = [some (.ref nt), some (.ref M), some .non, v3, v4, v5, v6] ∧ Same H H3, ?_, ?_⟩
    · refine ⟨_, rfl, nt, _, rfl, .inr (tup_of (e1 _ _ hnt)), _, rfl, by decide, by decide, by omega, by rw [elen]; omega, ?_⟩
      rw [elen]
      have eN : ((rows.length : Int) - 0).toNat = rows.length := by omega
      rw [eN]
      refine for_rangeC (lo := 0 + (rows.length : Int) - 1) (c := -1) (n := rows.length) (fun i σ H3 => ∃ v3 v4 v5 v6, ∃ ms : List Nat, σ = [some (.ref nt), some (.ref M), some .non, v3, v4, v5, v6] ∧ Same H H3 ∧ H3 M = some (.lst (ms.map natV)) ∧ ms.length = rows.length ∧ ∀ j m, rows.length - i ≤ j → ms[j]? = some m → MaskOkW B j m)
        ⟨_, _, _, _, _, rfl, e1, hM, List.length_replicate, fun j m h1 h2 => ?_⟩ ?_ (fun σ H3 ⟨v3, v4, v5, v6, _, h, e, _⟩ => ⟨v3, v4, v5, v6, h, e⟩)
      · have := (List.getElem?_eq_some_iff.mp h2).1
        rw [List.length_replicate] at this
        omega
      · rintro i σ H3 hi ⟨v3, v4, v5, v6, ms, rfl, e3, hM3, hml, hms⟩
        obtain ⟨j, hj⟩ : ∃ j : Nat, rows.length = j + i + 1 := ⟨rows.length - i - 1, by omega⟩
        rw [show 0 + (rows.length : Int) - 1 + (i : Int) * -1 = (j : Int) by omega]
        have hjn : j < rows.length := by omega
        obtain ⟨aj, row, haj, hrj, hrw⟩ := rows_get hrows hjn
        obtain ⟨q, r, rfl, hl, q0, q1, ht⟩ := hrow j row hrj
        obtain ⟨hq, hcert⟩ := hB j q r hrj
        have hnt3 := e3 _ _ hnt
        have hrw3 := e3 _ _ hrw
        have haj3 : (as.map V.ref)[j]? = some (.ref aj) := by rw [List.getElem?_map, haj]; rfl
        -- behind = 0
        refine ⟨fun σ H4 => σ = [some (.ref nt), some (.ref M), some .non, some (.int j), some (.int 0), v5, v6] ∧ H4 = H3, ⟨rfl, rfl⟩, ?_⟩
        rintro σ H4 ⟨rfl, rfl⟩
        -- behind
        refine ⟨fun σ H5 => ∃ (b : Nat) (v5 : Option V), σ = [some (.ref nt), some (.ref M), some .non, some (.int j), some (.int b), v5, v6] ∧ Same H4 H5 ∧ ∀ z : Nat, b.testBit z = true → ∃ t ∈ r, 0 ≤ t ∧ B t.toNat z, ?_, ?_⟩
        · refine ⟨_, rfl, _, rfl, nt, _, _, _, rfl, rfl, tup_of hnt3, at_tup haj3, _, rfl, ?_⟩
          unfold tNoPart
          refine rest_row (K := K) hrw3 ?_
          intro p np
          have e5 := same_upd np (o := .tup (r.map V.int))
          refine ⟨p, rfl, ⟨_, tup_of upd_same⟩, for_tup (K := K) (a := p) (xs := r.map V.int) (fun i2 σ H5 => ∃ (b : Nat) (v5 : Option V), σ = [some (.ref nt), some (.ref M), some .non, some (.int j), some (.int b), v5, v6] ∧ Same (upd H4 p (.tup (r.map V.int))) H5 ∧ ∀ z : Nat, b.testBit z = true → ∃ t ∈ r.take i2, 0 ≤ t ∧ B t.toNat z)
            ⟨0, _, rfl, Same.refl _, fun z h => by rw [Nat.zero_testBit] at h; cases h⟩ (fun i2 σ H5 _ ⟨_, _, _, e, _⟩ => e.seqT (tup_of upd_same)) ?_ ?_⟩
          · rintro i2 y σ H5 hi2 ⟨b, v5, rfl, e6, hb⟩
            obtain ⟨t, htt, rfl⟩ := get_map_int hi2
            obtain ⟨t1, t2, t3⟩ := ht t (List.mem_of_getElem? htt)
            refine ⟨_, rfl, _, _, rfl, rfl, _, rfl, ite2 (fun g => ?_) (fun g => ?_)⟩
            · have g : 0 ≤ t := of_decide_eq_true g
              obtain ⟨u, rfl⟩ : ∃ u : Nat, t = (u : Int) := ⟨t.toNat, by omega⟩
              have hu : u < ms.length := by omega
              have hmu : ms[u]? = some ms[u] := List.getElem?_eq_getElem hu
              have hMu := hms u _ (by omega) hmu
              have hM5 := (e5.trans e6) _ _ hM3
              refine ⟨_, rfl, _, rfl, _, rfl, M, _, _, _, rfl, rfl, lst_of hM5, atI_nat (get_natV hmu), _, _, rfl, rfl, ?_⟩
              refine ⟨b ||| ms[u], some (.int (u : Int)), by show [_, _, _, _, some (V.int (Builtin.bitOr (b : Int) ((ms[u] : Nat) : Int))), _, _] = _; rw [or_nat], e6, fun z hz => ?_⟩
              rw [Nat.testBit_or, Bool.or_eq_true] at hz
              rw [take_get htt]
              rcases hz with hz | hz
              · obtain ⟨t', m', h'⟩ := hb z hz
                exact ⟨t', List.mem_append.mpr (.inl m'), h'⟩
              · exact ⟨_, List.mem_append.mpr (.inr (List.mem_singleton.mpr rfl)), g, hMu z hz⟩
            · refine ⟨b, _, rfl, e6, fun z hz => ?_⟩
              obtain ⟨t', m', h'⟩ := hb z hz
              rw [take_get htt]
              exact ⟨t', List.mem_append.mpr (.inl m'), h'⟩
          · rintro σ H5 ⟨b, v5, rfl, e6, hb⟩
            rw [List.length_map, List.take_length] at hb
            exact ⟨b, v5, rfl, e5.trans e6, hb⟩
        rintro σ H5 ⟨b, v5, rfl, e5, hb⟩
        have hnt5 := e5 _ _ hnt3
        have hrw5 := e5 _ _ hrw3
        have hM5 := e5 _ _ hM3
        obtain ⟨qn, rfl⟩ : ∃ qn : Nat, q = (qn : Int) := ⟨q.toNat, by omega⟩
        have nb : b.testBit qn = false := by
          cases hb2 : b.testBit qn with
          | false => rfl
          | true =>
            obtain ⟨t, m, t0, ht2⟩ := hb qn hb2
            exact absurd ht2 (hcert t m t0).1
        -- own
        refine ⟨fun σ H6 => σ = [some (.ref nt), some (.ref M), some .non, some (.int j), some (.int b), v5, some (.int ((2 ^ qn : Nat) : Int))] ∧ H6 = H5, ?_, ?_⟩
        · refine ⟨_, rfl, _, rfl, nt, _, _, _, rfl, rfl, tup_of hnt5, at_tup haj3, aj, _, 0, _, rfl, rfl, tup_of hrw5, atI0, 1, (qn : Int), rfl, rfl, ⟨by omega, by omega, by decide⟩, ?_, rfl⟩
          show [_, _, _, _, _, _, some (V.int (1 * 2 ^ (qn : Int).toNat))] = _
          rw [show (1 : Int) * 2 ^ (qn : Int).toNat = ((2 ^ qn : Nat) : Int) by rw [Int.toNat_natCast, Int.one_mul, Int.natCast_pow]; rfl]
        rintro σ H6 ⟨rfl, rfl⟩
        refine ⟨fun σ H7 => σ = [some (.ref nt), some (.ref M), some .non, some (.int j), some (.int b), v5, some (.int ((2 ^ qn : Nat) : Int))] ∧ H7 = H6, ?_, ?_⟩
        · refine ⟨_, rfl, _, rfl, _, _, rfl, rfl, _, rfl, ?_⟩
          rw [and_bit nb]
          exact iteF ⟨rfl, rfl⟩
        rintro σ H7 ⟨rfl, rfl⟩
        have hjm : j < ms.length := by omega
        refine ⟨_, rfl, _, rfl, _, _, rfl, rfl, _, rfl, _, rfl, M, _, (j : Int), j, rfl, rfl, hM5, ?_, ?_⟩
        · unfold ixN
          rw [if_pos (by omega), if_pos (by rw [List.length_map]; omega), Int.toNat_natCast]
        · refine ⟨_, _, _, _, ms.set j (b ||| 2 ^ qn), rfl, (e3.trans e5).mut nM, ?_, by rw [List.length_set]; exact hml, fun u m hu hm => ?_⟩
          · have ev : V.int (Builtin.bitOr (b : Int) ((2 ^ qn : Nat) : Int)) = natV (b ||| 2 ^ qn) := by rw [or_nat]; rfl
            rw [upd_same, List.map_set]
            exact congrArg (fun v => some (HO.lst ((ms.map natV).set j v))) ev
          · by_cases huj : j = u
            · subst huj
              rw [List.getElem?_set_self hjm] at hm
              obtain rfl := Option.some.inj hm
              intro z hz
              rw [Nat.testBit_or, Bool.or_eq_true] at hz
              rcases hz with hz | hz
              · obtain ⟨t, m, t0, ht2⟩ := hb z hz
                exact (hcert t m t0).2 _ ht2
              · rw [Nat.testBit_two_pow, decide_eq_true_eq] at hz
                subst hz
                exact hq
            · rw [List.getElem?_set_ne huj] at hm
              exact hms u m (by omega) hm
    · rintro σ H3 ⟨v3, v4, v5, v6, rfl, e3⟩
      exact ⟨_, rfl, k H3 e3⟩
theorem ok_Web_init (T : Txt K mg a) : FnOk P w K mg base CX0 3 a.f_Web_init a.d_Web_init P_Web_init (spWebInit K a.c_Web) := by
  refine T.F_Web_init.ok sc_Web_init (fun vs H Q E h => ?_) (fun cdv A outer s H vs Q E hr h => ?_)
  · obtain ⟨x, dx, q, as, rows, e, o, v, rfl, _⟩ := h
    rfl
  · obtain ⟨x, dx, q, as, rows, e, o, v, rfl, hx, hq, hal, hrow, G, hv, k⟩ := h
    refine ⟨_, (Evl.pss_cut (ps_if (pt_not (pt_chain op_le op_le pe_int (pv 2) (pe_glob (v := .int 60) (by rfl) T.g_MOST_ENDS ⟨_, rfl⟩)))
    (pss_one ps_never)
    pss_nil)
  (Evl.pss_cut (ps_fld (pv 0) (pe_callTy call_tuple_of (by rfl) T.z_tuple (by decide +kernel) (pa_cons (pe_lc (own := [("node", 5)]) (g := gName 5) (tt := tYes) (te := (tCB (fun xs H Q => ∃ p ys, xs = [.ref p] ∧ ((SqL K H p ys ∧ ∀ l, H l = none → Q (.ref l) (upd H l (.tup ys))) ∨ (SqT K H p ys ∧ Q (.ref p) H))) (tCons (tVar 5) tNil))) rfl sc_Web_init.nd (pi_list (pv 1)) (blkOk_by (N := N_Web_init) (sc := defScope s_Web_init) (by decide +kernel)) (fun _ _ _ _ _ => pg_name (i := 5) sc_Web_init.nd rfl (Or.inl rfl)) (fun _ _ _ _ _ => pts_nil) (fun _ _ _ _ _ => by exact (pe_callTy call_tuple_of (by rfl) T.z_tuple (by decide +kernel) (pa_cons (pv 5) pa_nil)))) pa_nil)) rfl)
  (Evl.pss_cut (ps_fld (pv 0) (pv 2) rfl)
  (Evl.pss_cut (ps_for PassesOwn.never rfl (pi_enumT (by rfl) T.z_enumerate (pa_cons (pe_fld (pv 0) (by rfl)) pa_nil)) (pg_tup rfl (pgs_cons (pg_name (i := 4) sc_Web_init.nd rfl (Or.inl rfl)) (pgs_cons (pg_name (i := 5) sc_Web_init.nd rfl (Or.inl rfl)) pgs_nil)))
    (pss_one (ps_if (pt_not (pt_val (pe_meth (pv 0) T.cl_Web T.m_Web_can_stand (ok_Web_can_stand T) (hr.mono (by decide)) T.b_Web_can_stand .nil pass0 (pa_cons (pv 4) (pa_cons (pv 5) pa_nil)))))
    (pss_one ps_never)
    pss_nil)))
  (Evl.pss_cut (ps_fld (pv 0) (pe_ifExp (pt_cmpR op_isN (pv 3) pe_non (nomark _)) (pe_meth0 (pv 0) T.cl_Web T.m_Web_first (ok_Web_first T) (hr.mono (by decide)) T.b_Web_first .nil pass0) (pv 3)) rfl)
  (Evl.pss_cut (ps_if (pt_cmpR (notIn_own (ok_Web_contains T) (hr.mono (by decide)) T.s_Web_contains T.i_Web_contains T.b_Web_contains pass0) (pe_fld (pv 0) (by rfl)) (pv 0) (by with_unfolding_all rfl))
    (pss_one ps_never)
    pss_nil)
  (Evl.pss_cut (ps_set (i := 6) sc_Web_init.nd rfl (Or.inl rfl) (pe_call (ok_asked_twice T) (hr.mono (by decide)) (by rfl) T.g_asked_twice T.k_asked_twice T.b_asked_twice .nil pass0 (pa_cons (pe_fld (pv 0) (by rfl)) pa_nil)))
  (pss_one (ps_if (pt_cmpR op_notN (pv 6) pe_non (nomark _))
    (pss_one ps_never)
    pss_nil))))))))), ?_⟩
    have glen := G.len
    -- the ends
    refine ⟨fun σ H1 => σ = [some (.ref x), some (.ref q), some (.int e), some v, none, none, none] ∧ H1 = H, ?_, ?_⟩
    · refine ⟨_, rfl, _, _, rfl, rfl, _, rfl, ?_⟩
      rw [decide_eq_true G.e1]
      refine iteT ⟨_, _, rfl, rfl, _, rfl, ?_⟩
      rw [decide_eq_true G.e2]
      exact iteF ⟨rfl, rfl⟩
    rintro σ H1 ⟨rfl, rfl⟩
    -- the nodes
    refine ⟨fun σ H2 => ∃ nt bs, σ = [some (.ref x), some (.ref q), some (.int e), some v, none, none, none] ∧ H2 x = some (.ins a.c_Web dx [("nodes", .ref nt)]) ∧ H2 nt = some (.tup (bs.map V.ref)) ∧ RowsAt H2 bs rows ∧ ∀ b u, b ≠ x → H1 b = some u → H2 b = some u, ?_, ?_⟩
    · refine ⟨_, rfl, q, rfl, ⟨_, hq⟩, fun D nD => ?_⟩
      refine lc_list (K := K) (a := q) (xs := as.map V.ref) (fun i H2 => Same H1 H2 ∧ ∃ bs : List Addr, bs.length = i ∧ H2 D = some (.lst (bs.map V.ref)) ∧ ∀ (j : Nat) b row, bs[j]? = some b → rows[j]? = some row → H2 b = some (.tup (row.map V.int))) ⟨same_upd nD, [], rfl, upd_same, fun j b row h => by simp at h⟩
        (fun i H2 _ h => by
          rcases hq with (h1 | ⟨u, h1⟩) | h1
          · exact .inl (.inl (h.1 _ _ h1))
          · exact .inl (.inr ⟨u, h.1 _ _ h1⟩)
          · exact .inr h1) (fun i y H2 hi h => ?_) (fun H2 h => ?_)
      · obtain ⟨e2, bs, hbl, hD, hbs⟩ := h
        obtain ⟨ai, hai, rfl⟩ : ∃ ai, as[i]? = some ai ∧ y = .ref ai := by
          rw [List.getElem?_map] at hi
          cases hh : as[i]? with
          | none => rw [hh] at hi; cases hi
          | some z => rw [hh] at hi; exact ⟨z, rfl, (Option.some.inj hi).symm⟩
        have hil : i < rows.length := by rw [← hal]; exact (List.getElem?_eq_some_iff.mp hai).1
        have hri : rows[i]? = some rows[i] := List.getElem?_eq_getElem hil
        have hin := (hrow i ai _ hai hri).same e2
        have fin : ∀ (b : Addr) (H3 : Hp), Same H2 H3 → H3 b = some (.tup ((rows[i]).map V.int)) → ∃ acc, H3 D = some (.lst acc) ∧ acc.length < sizeLine ∧ (Same H1 (upd H3 D (.lst (acc ++ [V.ref b]))) ∧ ∃ bs : List Addr, bs.length = i + 1 ∧ upd H3 D (.lst (acc ++ [V.ref b])) D = some (.lst (bs.map V.ref)) ∧ ∀ (j : Nat) b' row, bs[j]? = some b' → rows[j]? = some row → upd H3 D (.lst (acc ++ [V.ref b])) b' = some (.tup (row.map V.int))) := by
          intro b H3 e3 hb
          have hD3 := e3 _ _ hD
          have nDb : ∀ b' (zs : List V), H3 b' = some (.tup zs) → b' ≠ D := fun b' zs h => ne_of h hD3 (by intro z; cases z)
          refine ⟨_, hD3, by rw [List.length_map, sizeLine_eq]; omega, (e2.trans e3).mut nD, bs ++ [b], by rw [List.length_append, hbl]; rfl, by rw [upd_same, List.map_append]; rfl, fun j b' row h1 h2 => ?_⟩
          by_cases hj : j < bs.length
          · rw [List.getElem?_append_left hj] at h1
            have := e3 _ _ (hbs j b' row h1 h2)
            rw [upd_ne (nDb _ _ this)]
            exact this
          · rw [List.getElem?_append_right (by omega)] at h1
            have hj0 : j - bs.length = 0 := by
              have := (List.getElem?_eq_some_iff.mp h1).1
              rw [List.length_singleton] at this
              omega
            rw [hj0] at h1
            obtain rfl : b = b' := Option.some.inj h1
            have ej : j = i := by omega
            subst ej
            rw [hri] at h2
            obtain rfl := Option.some.inj h2
            rw [upd_ne (nDb _ _ hb)]
            exact hb
        refine ⟨rfl, tyes ?_⟩
        rcases hin with hin | hin
        · exact ⟨_, rfl, ai, _, rfl, .inr ⟨tup_of hin, fin ai H2 (Same.refl _) hin⟩⟩
        · exact ⟨_, rfl, ai, _, rfl, .inl ⟨lst_of hin, fun b nb => fin b _ (same_upd nb) upd_same⟩⟩
      · obtain ⟨e2, bs, hbl, hD, hbs⟩ := h
        refine ⟨D, _, rfl, .inl ⟨lst_of hD, fun nt nnt => ?_⟩⟩
        have e3 := e2.trans (same_upd nnt (o := .tup (bs.map V.ref)))
        have hx3 := e3 _ _ hx
        refine ⟨_, rfl, x, _, dx, [], rfl, hx3, T.cl_Web, T.nA_Web_nodes, by decide, ?_⟩
        have nxt : nt ≠ x := fun z => by
          subst z
          rw [e2 _ _ hx] at nnt
          cases nnt
        refine ⟨nt, bs, rfl, by rw [upd_same, put1], by rw [upd_ne nxt, upd_same], ⟨by rw [hbl, List.length_map]; exact hal, fun j b row h1 h2 => ?_⟩, fun b u nb hb => by rw [upd_ne nb]; exact e3 _ _ hb⟩
        have hb := hbs j b row h1 h2
        rw [upd_ne (ne_of ((same_upd nnt) _ _ hb) hx3 (by intro z; cases z))]
        exact (same_upd nnt) _ _ hb
    rintro σ H2 ⟨nt, bs, rfl, hx2, hnt2, hbs2, k2⟩
    have nbx : ∀ {H : Hp} {fs : List (Str × V)}, H x = some (.ins a.c_Web dx fs) → ∀ {b : Addr} {zs : List V}, H b = some (.tup zs) → b ≠ x := fun hx b zs h => ne_of h hx (by intro z; cases z)
    -- the ends are kept
    refine ⟨fun σ H3 => σ = [some (.ref x), some (.ref q), some (.int e), some v, none, none, none] ∧ H3 x = some (.ins a.c_Web dx [("nodes", .ref nt), ("ends", .int e)]) ∧ H3 nt = some (.tup (bs.map V.ref)) ∧ RowsAt H3 bs rows ∧ ∀ b u, b ≠ x → H1 b = some u → H3 b = some u, ?_, ?_⟩
    · refine ⟨_, rfl, _, rfl, x, _, dx, _, rfl, hx2, T.cl_Web, T.nA_Web_ends, by show 1 < 1000; decide, rfl, by rw [upd_same, put2], by rw [upd_ne (nbx hx2 hnt2)]; exact hnt2, ⟨hbs2.1, fun j b row h1 h2 => ?_⟩, fun b u nb hb => by rw [upd_ne nb]; exact k2 b u nb hb⟩
      rw [upd_ne (nbx hx2 (hbs2.2 j b row h1 h2))]
      exact hbs2.2 j b row h1 h2
    rintro σ H3 ⟨rfl, hx3, hnt3, hbs3, k3⟩
    -- each can stand
    refine ⟨fun σ H4 => ∃ v4 v5, σ = [some (.ref x), some (.ref q), some (.int e), some v, v4, v5, none] ∧ Same H3 H4, ?_, ?_⟩
    · refine ⟨_, rfl, x, _, dx, _, _, rfl, hx3, T.cl_Web, T.nA_Web_nodes, rfl, nt, _, rfl, tup_of hnt3, ?_⟩
      refine for_enumT (K := K) (a := nt) (xs := bs.map V.ref) (fun i σ H4 => ∃ v4 v5, σ = [some (.ref x), some (.ref q), some (.int e), some v, v4, v5, none] ∧ Same H3 H4) ⟨_, _, rfl, Same.refl _⟩ (fun i σ H4 _ ⟨_, _, _, e⟩ => tup_of (e _ _ hnt3)) ?_ (fun σ H4 h => h)
      rintro i y σ H4 t hi ⟨v4, v5, rfl, e4⟩ nt4
      have e5 := e4.trans (same_upd nt4 (o := .tup [.int (i : Nat), y]))
      obtain ⟨bi, hbi, rfl⟩ : ∃ bi, bs[i]? = some bi ∧ y = .ref bi := by
        rw [List.getElem?_map] at hi
        cases hh : bs[i]? with
        | none => rw [hh] at hi; cases hi
        | some z => rw [hh] at hi; exact ⟨z, rfl, (Option.some.inj hi).symm⟩
      have hil : i < rows.length := by rw [← hbs3.1]; exact (List.getElem?_eq_some_iff.mp hbi).1
      have hri : rows[i]? = some rows[i] := List.getElem?_eq_getElem hil
      have hok := G.row i _ hri
      have hbt := e5 _ _ (hbs3.2 i bi _ hbi hri)
      refine ⟨t, _, rfl, tup_of upd_same, rfl, _, _, rfl, _, _, rfl, rfl, ?_⟩
      refine ⟨_, rfl, x, dx, _, rfl, e5 _ _ hx3, rfl, _, rfl, _, rfl, x, dx, nt, bi, _, bs.map V.ref, e, i, rows[i], rfl, e5 _ _ hx3, rfl, rfl, e5 _ _ hnt3, hbt, by rw [List.length_map, hbs3.1]; exact hok, fun H6 e6 => ⟨_, rfl, iteF ⟨_, _, rfl, e5.trans e6⟩⟩⟩
    rintro σ H4 ⟨v4, v5, rfl, e4⟩
    have hx4 := e4 _ _ hx3
    have hnt4 := e4 _ _ hnt3
    have hbs4 := hbs3.same e4
    -- the start
    refine ⟨fun σ H5 => σ = [some (.ref x), some (.ref q), some (.int e), some v, v4, v5, none] ∧ H5 x = some (.ins a.c_Web dx [("nodes", .ref nt), ("ends", .int e), ("start", .int o)]) ∧ H5 nt = some (.tup (bs.map V.ref)) ∧ RowsAt H5 bs rows ∧ ∀ b u, b ≠ x → H1 b = some u → H5 b = some u, ?_, ?_⟩
    · have fin : ∃ (a' C dx' : Addr) (fs : List (Str × V)), V.ref x = .ref a' ∧ H4 a' = some (.ins C dx' fs) ∧ Cls K C ∧ NoAttr K C "start" ∧ fs.length < 1000 ∧ ([some (V.ref x), some (.ref q), some (.int e), some v, v4, v5, none] = [some (.ref x), some (.ref q), some (.int e), some v, v4, v5, none] ∧ upd H4 a' (.ins C dx' (putF "start" (.int o) fs)) x = some (.ins a.c_Web dx [("nodes", .ref nt), ("ends", .int e), ("start", .int o)]) ∧ upd H4 a' (.ins C dx' (putF "start" (.int o) fs)) nt = some (.tup (bs.map V.ref)) ∧ RowsAt (upd H4 a' (.ins C dx' (putF "start" (.int o) fs))) bs rows ∧ ∀ b u, b ≠ x → H1 b = some u → upd H4 a' (.ins C dx' (putF "start" (.int o) fs)) b = some u) := by
        refine ⟨x, _, dx, _, rfl, hx4, T.cl_Web, T.nA_Web_start, by show 2 < 1000; decide, rfl, by rw [upd_same, put3], by rw [upd_ne (nbx hx4 hnt4)]; exact hnt4, ⟨hbs4.1, fun j b row h1 h2 => ?_⟩, fun b u nb hb => by rw [upd_ne nb]; exact e4 _ _ (k3 b u nb hb)⟩
        rw [upd_ne (nbx hx4 (hbs4.2 j b row h1 h2))]
        exact hbs4.2 j b row h1 h2
      refine ⟨_, rfl, rfl, _, rfl, ?_⟩
      rcases hv with rfl | ⟨rfl, ho⟩
      · rw [show decide (V.int o = V.non) = false by simp]
        exact iteF ⟨_, rfl, _, rfl, fin⟩
      · rw [show decide (V.non = V.non) = true by simp]
        refine iteT ⟨_, rfl, x, dx, _, rfl, hx4, rfl, x, dx, nt, _, _, rfl, hx4, rfl, hnt4, ?_⟩
        have eo : (if (bs.map V.ref).isEmpty = true then (-1 : Int) else 0) = o := by
          rw [ho]
          have hl := hbs4.1
          cases bs with
          | nil =>
            cases rows with
            | nil => rfl
            | cons _ _ => cases hl
          | cons _ _ =>
            cases rows with
            | nil => cases hl
            | cons _ _ => rfl
        rw [eo]
        exact ⟨_, rfl, fin⟩
    rintro σ H5 ⟨rfl, hx5, hnt5, hbs5, k5⟩
    refine ⟨fun σ H6 => σ = [some (.ref x), some (.ref q), some (.int e), some v, v4, v5, none] ∧ H6 = H5, ?_, ?_⟩
    · refine ⟨_, rfl, x, _, dx, _, _, rfl, hx5, T.cl_Web, T.nA_Web_start, rfl, _, rfl, x, dx, _, rfl, hx5, x, dx, _, nt, _, e, o, rfl, hx5, rfl, rfl, hnt5, _, rfl, _, rfl, ?_⟩
      rw [decide_eq_true ⟨G.o1, by rw [List.length_map, hbs5.1]; exact G.o2⟩]
      exact iteF ⟨rfl, rfl⟩
    rintro σ H6 ⟨rfl, rfl⟩
    refine ⟨fun σ H7 => σ = [some (.ref x), some (.ref q), some (.int e), some v, v4, v5, some .non] ∧ Same H6 H7, ?_, ?_⟩
    · exact ⟨_, rfl, x, _, dx, _, _, rfl, hx5, T.cl_Web, T.nA_Web_nodes, rfl, nt, bs, rows, e, rfl, hnt5, hbs5, G.len, G.row, G.cert, fun H7 e7 => ⟨rfl, e7⟩⟩
    rintro σ H7 ⟨rfl, e7⟩
    refine ⟨_, rfl, rfl, _, rfl, ?_⟩
    rw [show (!decide (V.non = V.non)) = false by simp]
    exact iteF (k H7 ⟨dx, nt, bs, e7 _ _ hx5, e7 _ _ hnt5, hbs5.same e7⟩ fun b u nb hb => e7 _ _ (k5 b u nb hb))
theorem ok_NoNode_init (T : Txt K mg a) : FnOk P w K mg base CX0 1 a.f_NoNode_init a.d_NoNode_init P_NoNode_init (spErr a.c_NoNode "index" okB) := by
  refine T.F_NoNode_init.ok sc_NoNode_init (fun vs H Q E h => ?_) (fun cdv A outer s H vs Q E hr h => ?_)
  · obtain ⟨x, v, rfl, _⟩ := h
    rfl
  · obtain ⟨x, v, rfl, ⟨i, rfl, hi⟩, hx, k⟩ := h
    refine ⟨_, (pss_cons (ps_expr (pe_binit T.bi_TestError (by rfl) T.g_TestError (pa_cons (pv 0) (pa_cons (pe_joined (PJ.cons pe_str (PJ.cons (pe_fmt (pv 1)) PJ.nil))) pa_nil))))
  (pss_one (ps_ost (pv 0) (pv 1)))), ?_⟩
    have hl := hi.len
    have c0 : Str.empty.length = 0 := rfl
    have c1 : (PySem.Str.ofString "there is no node ").length = 17 := by rw [PySem.ofString_length]; rfl
    refine ⟨_, rfl, ?_⟩
    refine ⟨_, rfl, by simp only [len_app, c0, c1, sizeLine_eq]; omega, ?_⟩
    refine ⟨_, rfl, .inr ⟨i, rfl, hi.log, _, rfl, by simp only [len_app, c0, c1, sizeLine_eq]; omega, ?_⟩⟩
    refine ⟨x, a.c_NoNode, _, rfl, by show 1 ≤ 1000; decide, T.ox_NoNode, hx, ?_⟩
    exact ⟨_, rfl, _, rfl, x, a.c_NoNode, rfl, T.ox_NoNode, T.nf_NoNode_index, .inl ⟨hx, fun dx nd ne => k dx nd ne⟩⟩
theorem ok_Web_getitem (T : Txt K mg a) : FnOk P w K mg base (L2.CX P w) 3 a.f_Web_getitem a.d_Web_getitem P_Web_getitem (spItem a.c_Web a.c_NoNode) := by
  refine T.F_Web_getitem.okX sc_Web_getitem (fun vs H Q E h => ?_) (fun cdv A outer s H vs Q E hr h => ?_)
  · obtain ⟨x, rows, e, o, z, rfl, _⟩ := h
    rfl
  · obtain ⟨x, rows, e, o, z, rfl, ⟨dx, nt, as, hx, hnt, hrows⟩, bz, k, kx⟩ := h
    refine ⟨_, (pss_cons (ps_if (pt_not (pt_chain op_le op_lt pe_int (pv 1) (pe_callB call_len_seq (by rfl) T.z_len (by decide +kernel) (pa_cons (pe_fld (pv 0) (by rfl)) pa_nil))))
    (pss_one (ps_raise rfl (takes_of rfl rfl rfl rfl) (pmk_oex T.ox_NoNode T.ii_NoNode T.ti_NoNode (ok_NoNode_init T) (hr.mono (by decide)) T.b_NoNode_init .nil pass0 (by rfl) T.g_NoNode (pa_cons (pv 1) pa_nil))))
    pss_nil)
  (pss_one (ps_ret (pe_ix ix_tup (pe_fld (pv 0) (by rfl)) (pv 1) (by intro _ _; rfl))))), ?_⟩
    have elen : (as.map V.ref).length = rows.length := by rw [List.length_map, hrows.1]
    refine ⟨_, rfl, _, _, rfl, rfl, _, rfl, ?_⟩
    by_cases h0 : (0 : Int) ≤ z
    · rw [decide_eq_true h0]
      refine iteT ⟨_, rfl, x, _, dx, _, _, rfl, hx, T.cl_Web, T.nA_Web_nodes, rfl, nt, _, rfl, .inr (tup_of hnt), _, _, rfl, rfl, _, rfl, ?_⟩
      rw [elen]
      by_cases h1 : z < (rows.length : Int)
      · rw [decide_eq_true h1]
        refine iteF ?_
        obtain ⟨j, rfl⟩ : ∃ j : Nat, z = (j : Int) := ⟨z.toNat, by omega⟩
        obtain ⟨aj, row, haj, hrj, hrw⟩ := rows_get hrows (show j < rows.length by omega)
        exact ⟨_, rfl, x, _, dx, _, _, rfl, hx, T.cl_Web, T.nA_Web_nodes, rfl, _, rfl, nt, _, _, _, rfl, rfl, tup_of hnt, at_tup (by rw [List.getElem?_map, haj]; rfl), k ⟨h0, h1⟩ aj row (by rw [Int.toNat_natCast]; exact hrj) hrw⟩
      · rw [decide_eq_false h1]
        refine iteT ?_
        exact ⟨_, rfl, err_make ⟨z, rfl, bz⟩ fun d nd => kx (fun hh => h1 hh.2) d _ nd (same_upd nd) upd_same⟩
    · rw [decide_eq_false h0]
      refine iteF ⟨_, rfl, ?_⟩
      refine iteT ?_
      exact ⟨_, rfl, err_make ⟨z, rfl, bz⟩ fun d nd => kx (fun hh => h0 hh.1) d _ nd (same_upd nd) upd_same⟩
theorem ok_l_pool (T : Txt K mg a) : FnOk P w K mg base CX0 1 a.f_l_pool a.d_l_pool P_l_pool (spPool K) := by
  refine T.F_l_pool.ok sc_l_pool (fun vs H Q E h => ?_) (fun cdv A outer s H vs Q E hr h => ?_)
  · obtain ⟨x, ns, rfl, _⟩ := h
    rfl
  · obtain ⟨x, ns, rfl, hx, k⟩ := h
    refine ⟨_, (pss_one (ps_ret (pe_lst (pa_cons (pv 0) (pa_cons pe_int (pa_cons pe_int (pa_cons pe_int (pa_cons pe_int pa_nil)))))))), ?_⟩
    refine ⟨_, rfl, by show 5 ≤ sizeLine; decide, fun p hp => ?_⟩
    exact k p _ hp (same_upd hp) ⟨x, ns, 0, 0, 0, 7, hx.gd (same_upd hp).gd, upd_same, by omega, by omega, by omega, by omega, by omega, by omega, by omega⟩
theorem ok_l_draw (T : Txt K mg a) : FnOk P w K mg base CX0 1 a.f_l_draw a.d_l_draw P_l_draw (spDraw K) := by
  refine T.F_l_draw.ok sc_l_draw (fun vs H Q E h => ?_) (fun cdv A outer s H vs Q E hr h => ?_)
  · obtain ⟨p, c, lim, rfl, _⟩ := h
    rfl
  · obtain ⟨p, c, lim, rfl, ⟨sa, ns, c', i, b, st, hsa, hp, c0, c1, i0, i1, b0, s0, s1⟩, hc, l0, l1, k⟩ := h
    refine ⟨_, (Evl.pss_cut (ps_asg (pe_op op_add (pe_ix ix_list (pv 0) pe_int (by intro _ _; rfl)) pe_int) (pg_sub (pv 0) pe_int set_list))
  (Evl.pss_cut (ps_if (PW.pt (pw_and (pt_cmpR op_eq (pe_ix ix_list (pv 0) pe_int (by intro _ _; rfl)) pe_int (nomark _)) (pw_and1 (pt_cmpR op_lt (pe_ix ix_list (pv 0) pe_int (by intro _ _; rfl)) (pe_callB call_len_seq (by rfl) T.z_len (by decide +kernel) (pa_cons (pe_ix ix_list (pv 0) pe_int (by intro _ _; rfl)) pa_nil)) (nomark _)))))
    (pss_cons (ps_set (i := 2) sc_l_draw.nd rfl (Or.inl rfl) (pe_callB call_abs (by rfl) T.z_abs (by decide +kernel) (pa_cons (pe_ix ix_list (pe_ix ix_list (pv 0) pe_int (by intro _ _; rfl)) (pe_ix ix_list (pv 0) pe_int (by intro _ _; rfl)) (by intro _ _; rfl)) pa_nil)))
  (pss_cons (ps_asg (pe_op op_add (pe_ix ix_list (pv 0) pe_int (by intro _ _; rfl)) pe_int) (pg_sub (pv 0) pe_int set_list))
  (pss_one (ps_if (pt_cmpR op_ge (pv 2) (pe_op op_pow pe_int pe_int) (nomark _))
    (pss_one (ps_asg (pv 2) (pg_sub (pv 0) pe_int set_list)))
    (pss_one (ps_asg (pe_op op_mod (pe_callTy call_int1 (by rfl) T.z_int (by decide +kernel) (pa_cons (pe_op op_mul (pe_op op_add (pe_op op_add (pe_ix ix_list (pv 0) pe_int (by intro _ _; rfl)) (pv 2)) pe_int) pe_int) pa_nil)) pe_int) (pg_sub (pv 0) pe_int set_list)))))))
    pss_nil)
  (pss_cons (ps_if (pt_cmpR op_gt (pe_ix ix_list (pv 0) pe_int (by intro _ _; rfl)) pe_int (nomark _))
    (pss_cons (ps_set (i := 3) sc_l_draw.nd rfl (Or.inl rfl) (pe_op op_mod (pe_callTy call_int1 (by rfl) T.z_int (by decide +kernel) (pa_cons (pe_ix ix_list (pv 0) pe_int (by intro _ _; rfl)) pa_nil)) (pv 1)))
  (pss_cons (ps_asg (pe_op op_fdivW (pe_ix ix_list (pv 0) pe_int (by intro _ _; rfl)) (pv 1)) (pg_sub (pv 0) pe_int set_list))
  (pss_one (ps_ret (pv 3)))))
    pss_nil)
  (pss_cons (ps_set (i := 4) sc_l_draw.nd rfl (Or.inl rfl) (pe_op op_mod (pe_callTy call_int1 (by rfl) T.z_int (by decide +kernel) (pa_cons (pe_op op_pow (pe_op op_add (pe_ix ix_list (pv 0) pe_int (by intro _ _; rfl)) (pe_op op_mul (pe_ix ix_list (pv 0) pe_int (by intro _ _; rfl)) pe_int)) pe_int) pa_nil)) pe_int))
  (pss_one (ps_ret (pe_op op_mod (pe_callTy call_int1 (by rfl) T.z_int (by decide +kernel) (pa_cons (pe_op op_fdivW (pv 4) pe_int) pa_nil)) (pv 1)))))))), ?_⟩
    have hp : H p = some (pl sa c' i b st) := hp
    -- pool[1] = pool[1] + 1
    refine ⟨fun σ H1 => σ = [some (.ref p), some (.int lim), none, none, none] ∧ H1 = upd H p (pl sa (c' + 1) i b st), ?_, ?_⟩
    · exact ⟨_, rfl, p, _, 1, _, rfl, rfl, lst_of hp, atI1, c', 1, rfl, rfl, _, rfl, p, _, 1, 1, rfl, rfl, hp, rfl, rfl, rfl⟩
    · rintro σ H1 ⟨rfl, rfl⟩
      -- the cell
      refine ⟨fun σ H2 => ∃ (i' b' st' : Int) (v : Option V), σ = [some (.ref p), some (.int lim), v, none, none] ∧ H2 = upd H p (pl sa (c' + 1) i' b' st') ∧ 0 ≤ i' ∧ i' ≤ (ns.length : Int) ∧ 0 ≤ b' ∧ 0 ≤ st' ∧ st' < 2147483629, ?_, ?_⟩
      · have hP : upd H p (pl sa (c' + 1) i b st) p = some (pl sa (c' + 1) i b st) := upd_same
        have hS : SqL K (upd H p (pl sa (c' + 1) i b st)) sa (ns.map V.int) := (hsa.gd (gd_pool hp)).seq
        refine ⟨_, rfl, p, _, 3, _, rfl, rfl, lst_of hP, atI3, rfl, _, rfl, ?_⟩
        refine ite2 (fun e1 => ?_) (fun e1 => ?_)
        · refine ⟨_, rfl, p, _, 2, _, rfl, rfl, lst_of hP, atI2, _, rfl, p, _, 0, _, rfl, rfl, lst_of hP, atI0, sa, _, rfl, .inl hS, i, _, rfl, rfl, _, rfl, ?_⟩
          refine ite2 (fun e2 => ?_) (fun e2 => ?_)
          · have hi : i < (ns.length : Int) := by
              have := of_decide_eq_true e2
              rw [List.length_map] at this
              exact this
            obtain ⟨j, rfl⟩ : ∃ j : Nat, i = (j : Int) := ⟨i.toNat, by omega⟩
            have hj : j < ns.length := by omega
            have hg : (ns.map V.int)[j]? = some (.int ns[j]) := by
              rw [List.getElem?_map, List.getElem?_eq_getElem hj]
              rfl
            -- cell = abs(pool[0][pool[2]])
            refine ⟨_, rfl, p, _, 0, _, rfl, rfl, lst_of hP, atI0, _, rfl, p, _, 2, _, rfl, rfl, lst_of hP, atI2, sa, _, (j : Int), _, rfl, rfl, hS, atI_nat hg, _, rfl, ?_⟩
            -- pool[2] = pool[2] + 1
            refine ⟨_, rfl, p, _, 2, _, rfl, rfl, lst_of hP, atI2, (j : Int), 1, rfl, rfl, _, rfl, p, _, 2, 2, rfl, rfl, hP, rfl, ?_⟩
            have hP2 : upd (upd H p (pl sa (c' + 1) (j : Int) b st)) p (pl sa (c' + 1) ((j : Int) + 1) b st) p = some (pl sa (c' + 1) ((j : Int) + 1) b st) := upd_same
            have c0' : 0 ≤ (if ns[j] < 0 then -ns[j] else ns[j]) := by split <;> omega
            refine ⟨_, rfl, _, 18, rfl, rfl, ⟨by decide, by decide, by decide⟩, _, _, rfl, rfl, _, rfl, ?_⟩
            refine ite2 (fun e3 => ?_) (fun e3 => ?_)
            · refine ⟨_, rfl, _, rfl, p, _, 3, 3, rfl, rfl, hP2, rfl, ?_⟩
              refine ⟨(j : Int) + 1, _, st, _, rfl, ?_, by omega, by omega, c0', s0, s1⟩
              rw [upd_upd, upd_upd]
              rfl
            · have hlt : (if ns[j] < 0 then -ns[j] else ns[j]) < 10 ^ (18 : Int).toNat := by
                refine Int.not_le.mp fun hh => e3 (decide_eq_true hh)
              refine ⟨_, rfl, p, _, 4, _, rfl, rfl, lst_of hP2, atI4, _, rfl, st, _, rfl, rfl, _, 1, rfl, rfl, _, 48271, rfl, rfl, .inr ⟨by decide, by decide⟩, .inl ⟨_, rfl, _, 2147483629, rfl, rfl, (by show (0 : Int) < 2147483629; decide), _, rfl, p, _, 4, 4, rfl, rfl, hP2, rfl, ?_⟩⟩
              refine ⟨(j : Int) + 1, b, ((st + if ns[j] < 0 then -ns[j] else ns[j]) + 1) * 48271 % 2147483629, _, rfl, ?_, by omega, by omega, b0, Int.emod_nonneg _ (by decide), Int.emod_lt_of_pos _ (by decide)⟩
              rw [upd_upd, upd_upd]
              rfl
          · exact ⟨i, b, st, _, rfl, rfl, i0, i1, b0, s0, s1⟩
        · exact ⟨i, b, st, _, rfl, rfl, i0, i1, b0, s0, s1⟩
      · rintro σ H2 ⟨i', b', st', v, rfl, rfl, i0', i1', b0', s0', s1'⟩
        have hP : upd H p (pl sa (c' + 1) i' b' st') p = some (pl sa (c' + 1) i' b' st') := upd_same
        have fin : ∀ (b'' : Int) (r : Int), 0 ≤ b'' → 0 ≤ r → r < lim → Q (.int r) (upd H p (pl sa (c' + 1) i' b'' st')) := fun b'' r hb hr0 hr1 =>
          k _ r (gd_pool hp) ⟨sa, ns, c' + 1, i', b'', st', hsa.gd (gd_pool hp), upd_same, by omega, by omega, i0', i1', hb, s0', s1'⟩ hr0 hr1
        refine ⟨_, rfl, p, _, 3, _, rfl, rfl, lst_of hP, atI3, b', 0, rfl, rfl, _, rfl, ?_⟩
        refine ite2 (fun e1 => ?_) (fun e1 => ?_)
        · refine ⟨_, rfl, p, _, 3, _, rfl, rfl, lst_of hP, atI3, .inl ⟨_, rfl, _, rfl, b', lim, rfl, rfl, l0, ?_⟩⟩
          refine ⟨_, rfl, p, _, 3, _, rfl, rfl, lst_of hP, atI3, _, rfl, b', lim, rfl, rfl, ⟨l0, ?_⟩, _, rfl, p, _, 3, 3, rfl, rfl, hP, rfl, _, rfl, ?_⟩
          · exact (wide_div (i := 0) (b := 200) l0 (by omega) (by decide) (by decide)).2
          · have := fin (b' / lim) (b' % lim) (Int.ediv_nonneg b0' (by omega)) (Int.emod_nonneg _ (by omega)) (Int.emod_lt_of_pos _ l0)
            rw [upd_upd]
            exact this
        · refine ⟨_, rfl, p, _, 4, _, rfl, rfl, lst_of hP, atI4, _, rfl, p, _, 1, _, rfl, rfl, lst_of hP, atI1, c' + 1, 7919, rfl, rfl, .inr ⟨by decide, by decide⟩, st', _, rfl, rfl, _, 3, rfl, rfl, ⟨by decide, by decide, ?_⟩, .inl ⟨_, rfl, _, 2147483647, rfl, rfl, (by show (0 : Int) < 2147483647; decide), ?_⟩⟩
          · unfold LIM at hc
            omega
          · refine ⟨_, rfl, _, 16, rfl, rfl, ⟨by decide, by decide⟩, .inl ⟨_, rfl, _, rfl, _, lim, rfl, rfl, l0, ?_⟩⟩
            exact fin b' _ b0' (Int.emod_nonneg _ (by omega)) (Int.emod_lt_of_pos _ l0)
end
end K14

namespace K14
open PySem PySem.Spec PyProof.Rows L2 Gg TL
section
variable {P : Program} {w : World} {K : PySem.W.Frag} {mg : Str → Option Value} {base : Heap} {a : Ad}
theorem ok_Pupil_init (T : Txt K mg a) : FnOk P w K mg base CX0 2 a.f_Pupil_init a.d_Pupil_init P_Pupil_init (spInit K a.c_Pupil) := by
  refine T.F_Pupil_init.ok sc_Pupil_init (fun vs H Q E h => ?_) (fun cdv A outer s H vs Q E hr h => ?_)
  · obtain ⟨x, dx, q, l, rfl, _⟩ := h
    rfl
  · obtain ⟨x, dx, q, l, rfl, hx, hq, hl, hn, k⟩ := h
    refine ⟨_, (Evl.pss_cut (ps_set (i := 2) sc_Pupil_init.nd rfl (Or.inl rfl) (pe_callTy call_tuple_of (by rfl) T.z_tuple (by decide +kernel) (pa_cons (pv 1) pa_nil)))
  (Evl.pss_cut (ps_for PassesOwn.never rfl (pi_tup (pv 2)) (pg_name (i := 3) sc_Pupil_init.nd rfl (Or.inl rfl))
    (pss_one (ps_if (pt_not (pt_val (pe_call (ok_is_question T) (hr.mono (by decide)) (by rfl) T.g_is_question T.k_is_question T.b_is_question .nil pass0 (pa_cons (pv 3) pa_nil))))
    (pss_one ps_never)
    pss_nil)))
  (pss_one (ps_fld (pv 0) (pe_callTy call_tuple_of (by rfl) T.z_tuple (by decide +kernel) (pa_cons (pe_callB (cr_sortedSet rfl) (by rfl) T.z_sorted (by decide +kernel) (pa_cons (pe_callTy (cr_setOf rfl) (by rfl) T.z_set (by decide +kernel) (pa_cons (pv 2) pa_nil)) pa_nil)) pa_nil)) rfl)))), ?_⟩
    refine ⟨fun σ H1 => ∃ t, σ = [some (.ref x), some (.ref q), some (.ref t), none] ∧ Same H H1 ∧ SqT K H1 t (l.map V.int), ?_, ?_⟩
    · refine ⟨_, rfl, q, l.map V.int, rfl, ?_⟩
      rcases hq with hq | hq
      · exact .inl ⟨hq, fun t ht => ⟨t, rfl, same_upd ht, .inl (.inl upd_same)⟩⟩
      · exact .inr ⟨hq, ⟨q, rfl, Same.refl _, hq⟩⟩
    · rintro σ H1 ⟨t, rfl, e1, ht⟩
      refine ⟨fun σ H2 => ∃ v, σ = [some (.ref x), some (.ref q), some (.ref t), v] ∧ Same H H2 ∧ SqT K H2 t (l.map V.int), ?_, ?_⟩
      · refine ⟨_, rfl, t, rfl, ⟨_, ht⟩, for_tup (K := K) (a := t) (xs := l.map V.int) (fun i σ H2 => ∃ v, σ = [some (.ref x), some (.ref q), some (.ref t), v] ∧ Same H H2 ∧ SqT K H2 t (l.map V.int)) ⟨none, rfl, e1, ht⟩ (fun i σ H2 _ ⟨_, _, _, h⟩ => h) ?_ ?_⟩
        · rintro i y σ H2 hi ⟨v, rfl, e2, ht2⟩
          obtain ⟨z, hz, rfl⟩ := get_map_int hi
          have hz2 := hn z (List.mem_of_getElem? hz)
          refine ⟨_, rfl, z, rfl, ?_⟩
          rw [decide_eq_true hz2]
          refine ⟨_, rfl, ?_⟩
          exact iteF ⟨_, rfl, e2, ht2⟩
        · rintro σ H2 ⟨v, rfl, e2, ht2⟩
          exact ⟨v, rfl, e2, ht2⟩
      · rintro σ H2 ⟨v, rfl, e2, ht2⟩
        refine ⟨_, rfl, t, l, rfl, ht2, by omega, fun p c np hc hL => ?_⟩
        have hc48 : c ≤ 48 := by
          have := hL ask48 fun k hk => mem_ask.mpr (hn k hk)
          unfold ask48 at this
          rw [List.length_map, List.length_range] at this
          exact this
        refine ⟨p, _, c, rfl, upd_same, by omega, fun ns r hs hm hlen nr => ?_⟩
        have ens : ns = norm l := norm_of_sorted hs (fun x => by rw [hm, decide_eq_true_eq]) hn
        subst ens
        refine ⟨r, _, rfl, .inl ⟨.inl (.inl upd_same), fun t2 nt2 => ?_⟩⟩
        have s2 : Same H2 (upd (upd (upd H2 p (SetO w p (fun j => decide (j ∈ l)) c)) r (.lst ((norm l).map V.int))) t2 (.tup ((norm l).map V.int))) := ((same_upd np).trans (same_upd nr)).trans (same_upd nt2)
        have hx2 := s2 _ _ (e2 _ _ hx)
        have nx : t2 ≠ x := (ne_of_none ((same_upd nr) _ _ ((same_upd np) _ _ (e2 _ _ hx))) nt2).symm
        refine ⟨_, rfl, x, _, dx, [], rfl, hx2, T.cl_Pupil, T.nA_Pupil_rights, by decide, ?_⟩
        refine k _ t2 upd_same ?_ fun b o hb e => ?_
        · rw [upd_ne nx, upd_same]
        · rw [upd_ne hb]
          exact s2 _ _ (e2 _ _ e)
theorem ok_Pupil_contains (T : Txt K mg a) : FnOk P w K mg base CX0 1 a.f_Pupil_contains a.d_Pupil_contains P_Pupil_contains (spHas a.c_Pupil) := by
  refine T.F_Pupil_contains.ok sc_Pupil_contains (fun vs H Q E h => ?_) (fun cdv A outer s H vs Q E hr h => ?_)
  · obtain ⟨x, p, z, rfl, _⟩ := h
    rfl
  · obtain ⟨x, p, z, rfl, ⟨dx, t, hx, ht⟩, k⟩ := h
    refine ⟨_, (pss_one (ps_ret (pe_cmpR op_in_seq (pv 1) (pe_fld (pv 0) (by rfl)) (by with_unfolding_all rfl)))), ?_⟩
    exact ⟨_, rfl, _, rfl, x, _, dx, _, _, rfl, hx, T.cl_Pupil, T.nA_Pupil_rights, rfl, in_k (.inr (tup_of ht)) k⟩
theorem ok_NoPosition_init (T : Txt K mg a) : FnOk P w K mg base CX0 1 a.f_NoPosition_init a.d_NoPosition_init P_NoPosition_init (spErr a.c_NoPosition "place" okB) := by
  refine T.F_NoPosition_init.ok sc_NoPosition_init (fun vs H Q E h => ?_) (fun cdv A outer s H vs Q E hr h => ?_)
  · obtain ⟨x, v, rfl, _⟩ := h
    rfl
  · obtain ⟨x, v, rfl, ⟨i, rfl, hi⟩, hx, k⟩ := h
    refine ⟨_, (pss_cons (ps_expr (pe_binit T.bi_TestError (by rfl) T.g_TestError (pa_cons (pv 0) (pa_cons (pe_joined (PJ.cons (pe_fmt (pv 1)) (PJ.cons pe_str PJ.nil))) pa_nil))))
  (pss_one (ps_ost (pv 0) (pv 1)))), ?_⟩
    have hl := hi.len
    have c0 : Str.empty.length = 0 := rfl
    have c2 : (PySem.Str.ofString " is no position").length = 15 := by rw [PySem.ofString_length]; rfl
    refine ⟨_, rfl, ?_⟩
    refine ⟨_, rfl, .inr ⟨i, rfl, hi.log, _, rfl, by simp only [len_app, c0, c2, sizeLine_eq]; omega, ?_⟩⟩
    refine ⟨_, rfl, by simp only [len_app, c0, c2, sizeLine_eq]; omega, ?_⟩
    refine ⟨x, a.c_NoPosition, _, rfl, by show 1 ≤ 1000; decide, T.ox_NoPosition, hx, ?_⟩
    exact ⟨_, rfl, _, rfl, x, a.c_NoPosition, rfl, T.ox_NoPosition, T.nf_NoPosition_place, .inl ⟨hx, fun dx nd ne => k dx nd ne⟩⟩
theorem ok_begin (T : Txt K mg a) : FnOk P w K mg base (L2.CX P w) 3 a.f_begin a.d_begin P_begin (spBegin a.c_Web a.c_NoPosition) := by
  refine T.F_begin.okX sc_begin (fun vs H Q E h => ?_) (fun cdv A outer s H vs Q E hr h => ?_)
  · obtain ⟨web, v, rows, e, o, z, rfl, _⟩ := h
    rfl
  · obtain ⟨web, v, rows, e, o, z, rfl, ⟨dx, nt, as, hx, hnt, hrows⟩, hst, bz, k, kx⟩ := h
    refine ⟨_, (Evl.pss_cut (ps_set (i := 2) sc_begin.nd rfl (Or.inl rfl) (pe_ifExp (pt_cmpR op_isN (pv 1) pe_non (nomark _)) (pe_fld (pv 0) (by rfl)) (pv 1)))
  (Evl.pss_cut (ps_if (pt_cmpR (notIn_own (ok_Web_contains T) (hr.mono (by decide)) T.s_Web_contains T.i_Web_contains T.b_Web_contains pass0) (pv 2) (pv 0) (by with_unfolding_all rfl))
    (pss_one (ps_raise rfl (takes_of rfl rfl rfl rfl) (pmk_oex T.ox_NoPosition T.ii_NoPosition T.ti_NoPosition (ok_NoPosition_init T) (hr.mono (by decide)) T.b_NoPosition_init .nil pass0 (by rfl) T.g_NoPosition (pa_cons (pv 2) pa_nil))))
    pss_nil)
  (pss_one (ps_ret (pv 2))))), ?_⟩
    have elen : (as.map V.ref).length = rows.length := by rw [List.length_map, hrows.1]
    refine ⟨fun σ H1 => σ = [some (.ref web), some v, some (.int z)] ∧ H1 = H, ?_, ?_⟩
    · rcases hst with ⟨rfl, rfl⟩ | rfl
      · exact ⟨_, rfl, rfl, _, rfl, iteT ⟨_, rfl, web, _, dx, _, _, rfl, hx, T.cl_Web, T.nA_Web_start, rfl, rfl, rfl⟩⟩
      · exact ⟨_, rfl, rfl, _, rfl, iteF ⟨_, rfl, rfl, rfl⟩⟩
    rintro σ H1 ⟨rfl, rfl⟩
    refine ⟨fun σ H2 => (-e ≤ z ∧ z < rows.length) ∧ σ = [some (.ref web), some v, some (.int z)] ∧ H2 = H1, ?_, ?_⟩
    · refine ⟨_, rfl, _, rfl, web, dx, _, rfl, hx, web, dx, _, nt, _, e, z, rfl, hx, rfl, rfl, hnt, _, rfl, ?_⟩
      rw [elen]
      refine ⟨_, rfl, ?_⟩
      by_cases hz : -e ≤ z ∧ z < rows.length
      · rw [decide_eq_true hz]
        exact iteF ⟨hz, rfl, rfl⟩
      · rw [decide_eq_false hz]
        refine iteT ?_
        exact ⟨_, rfl, err_make ⟨z, rfl, bz⟩ fun d nd => kx hz d _ nd (same_upd nd) upd_same⟩
    rintro σ H2 ⟨hz, rfl, rfl⟩
    exact ⟨_, rfl, k hz⟩
theorem ok_target_of (T : Txt K mg a) : FnOk P w K mg base CX0 1 a.f_target_of a.d_target_of P_target_of spTgt := by
  refine T.F_target_of.ok sc_target_of (fun vs H Q E h => ?_) (fun cdv A outer s H vs Q E hr h => ?_)
  · obtain ⟨t, row, x, rfl, _⟩ := h
    rfl
  · obtain ⟨t, row, x, rfl, ht, hl, k⟩ := h
    refine ⟨_, (pss_one (ps_ret (pe_ifExp (pt_cmpR op_eq (pv 1) pe_int (nomark _)) (pe_ix ix_tup (pv 0) pe_int (by intro _ _; rfl)) (pe_ix ix_tup (pv 0) pe_int (by intro _ _; rfl))))), ?_⟩
    rcases row with _ | ⟨q, _ | ⟨t1, _ | ⟨t2, r⟩⟩⟩
    · simp at hl
    · simp at hl
    · simp at hl
    refine ⟨_, rfl, rfl, _, rfl, ?_⟩
    unfold tRow at k
    by_cases hx : x = 1
    · rw [if_pos hx] at k
      rw [show decide (V.int x = V.int 1) = true by simp [hx]]
      exact iteT ⟨_, rfl, t, _, _, _, rfl, rfl, tup_of ht, at_tup (j := 1) rfl, k⟩
    · rw [if_neg hx] at k
      rw [show decide (V.int x = V.int 1) = false by simp [hx]]
      exact iteF ⟨_, rfl, t, _, _, _, rfl, rfl, tup_of ht, at_tup (j := 2) rfl, k⟩
end
end K14

namespace K14
open PySem PySem.Spec PyProof.Rows L2 Gg TL
section
variable {P : Program} {w : World} {K : PySem.W.Frag} {mg : Str → Option Value} {base : Heap} {a : Ad}
/-- how far it still is -/
def msr (n : Nat) (p : Int) : Nat := if p < 0 then 0 else ((n : Int) - p).toNat
theorem msr_lt {rows : List (List Int)} {R : List Int} {e o p : Int} (G : GoodW rows e o) (p0 : 0 ≤ p) (p1 : p < rows.length) : msr rows.length (nxP rows R p) < msr rows.length p := by
  obtain ⟨n1, n2, n3⟩ := nxP_ok (R := R) G p0 p1
  unfold msr
  rw [if_neg (show ¬ p < 0 by omega)]
  split <;> omega
theorem gf_walk (T : Txt K mg a) : GFnF P w K mg base 5 a.f_walk a.d_walk P_walk (spWalkF a.c_Web a.c_Pupil) := by
  refine gfnF_of T.F_walk sc_walk (by decide +kernel) (fun _ => rfl) (fun vs H n It h => ?_) (fun vs H n It h => ?_) (fun cd outer L Hg n It A vs ok hr h => ?_)
  · obtain ⟨web, pu, v, rows, R, e, o, z, rfl, _⟩ := h
    rfl
  · obtain ⟨web, pu, v, rows, R, e, o, z, rfl, _, _, _, _, _, _, _, rfl⟩ := h
    exact itW_mono _
  · obtain ⟨web, pu, v, rows, R, e, o, z, rfl, hw, G, hp, hst, z0, z1, rfl, rfl⟩ := h
    refine ⟨_, (Gg.gss_cut (Gg.gs_plain (t := (tAsg (tCall (spBegin a.c_Web a.c_NoPosition) [] E0 (tCons (tVar 0) (tCons (tVar 2) tNil))) (gName 3))) fun _ => by exact (ps_set (i := 3) sc_walk.nd rfl (Or.inl rfl) (pe_call (ok_begin T) (hr.mono (by decide)) (by rfl) T.g_begin T.k_begin T.b_begin .nil passL (pa_cons (pv 0) (pa_cons (pv 2) pa_nil)))))
  (Gg.gss_cons (Gg.gs_while (tc := (tTest (tOp (rI0 fun i j => .bl (decide (j ≤ i))) (tVar 3) (tC (.int 0))))) (fun _ => by exact (pt_cmpR op_ge (pv 3) pe_int (nomark _)))
    (Gg.gss_cut (Gg.gs_plain (t := (tAsg (tOp (rIxT K) (tOp (rOwnIx a.c_Web (spItem a.c_Web a.c_NoNode) E0) (tVar 0) (tVar 3)) (tC (.int 0))) (gName 4))) fun _ => by exact (ps_set (i := 4) sc_walk.nd rfl (Or.inl rfl) (pe_ix ix_tup (pe_ownIx (ok_Web_getitem T) (hr.mono (by decide)) T.s_Web_getitem T.fn_Web_getitem T.i_Web_getitem T.b_Web_getitem passL (pv 0) (pv 3)) pe_int (by intro _ _; rfl))))
  (Gg.gss_cut (Gg.gs_plain (t := (tAsg (tIf (tTest (tOp (rOwnIn a.c_Pupil (spHas a.c_Pupil) E0 false) (tVar 4) (tVar 1))) (tC (.int 1)) (tC (.int 0))) (gName 5))) fun _ => by exact (ps_set (i := 5) sc_walk.nd rfl (Or.inl rfl) (pe_ifExp (pt_cmpR (in_own (ok_Pupil_contains T) (hr.mono (by decide)) T.s_Pupil_contains T.i_Pupil_contains T.b_Pupil_contains pass0) (pv 4) (pv 1) (by with_unfolding_all rfl)) pe_int pe_int)))
  (Gg.gss_cut (Gg.gs_yield (te := (tTup (tCons (tVar 3) (tCons (tVar 4) (tCons (tVar 5) tNil))))) ok fun _ => by exact (pe_tup (pa_cons (pv 3) (pa_cons (pv 4) (pa_cons (pv 5) pa_nil)))))
  (Gg.gss_cons (Gg.gs_plain (t := (tAsg (tCall spTgt [] E0 (tCons (tOp (rOwnIx a.c_Web (spItem a.c_Web a.c_NoNode) E0) (tVar 0) (tVar 3)) (tCons (tVar 5) tNil))) (gName 3))) fun _ => by exact (ps_set (i := 3) sc_walk.nd rfl (Or.inl rfl) (pe_call (ok_target_of T) (hr.mono (by decide)) (by rfl) T.g_target_of T.k_target_of T.b_target_of .nil pass0 (pa_cons (pe_ownIx (ok_Web_getitem T) (hr.mono (by decide)) T.s_Web_getitem T.fn_Web_getitem T.i_Web_getitem T.b_Web_getitem passL (pv 0) (pv 3)) (pa_cons (pv 5) pa_nil)))))
  Gg.gss_nil)))))
  Gg.gss_nil)), fun H f0 => ?_⟩
    have ge1 := G.e1
    have ge2 := G.e2
    have gl := G.len
    refine ⟨fun j H0 σ H1 => j = 0 ∧ σ = [some (.ref web), some (.ref pu), some v, some (.int z), none, none] ∧ H0 = H ∧ H1 = H, ?_, ?_⟩
    · exact ⟨_, rfl, _, rfl, web, v, rows, e, o, z, rfl, hw.same f0, hst, Bd.small (by omega) (by omega), fun _ => ⟨rfl, rfl, rfl, rfl⟩, fun h => absurd ⟨z0, z1⟩ h⟩
    rintro j H0 σ H1 ⟨rfl, rfl, rfl, rfl⟩
    refine ⟨fun q j H0 σ H2 => ∃ p v4 v5, σ = [some (.ref web), some (.ref pu), some v, some (.int p), v4, v5] ∧ -e ≤ p ∧ p < rows.length ∧ (WK rows R z).drop j = WK rows R p ∧ j ≤ (WK rows R z).length ∧ q = msr rows.length p ∧ Same H0 H2 ∧ Same Hg H2, ⟨_, z, _, _, rfl, z0, z1, rfl, Nat.zero_le _, rfl, Same.refl _, f0⟩, ?_⟩
    rintro q j H0 σ H2 ⟨p, v4, v5, rfl, p0, p1, hd, hj, rfl, f1, f2⟩
    refine ⟨_, rfl, _, _, rfl, rfl, _, rfl, ?_⟩
    by_cases hp0 : 0 ≤ p
    · rw [decide_eq_true hp0]
      refine iteT ?_
      obtain ⟨qq, t1, t2, r, hrow, hrw, q0, q1, h1, h2⟩ := row3 G hp0 p1
      have hq : qP rows p = qq := by unfold qP; rw [hrow] <;> rfl
      obtain ⟨c1, c2⟩ := WK_cons (R := R) G hp0 p1
      have bp : Bd p := Bd.small (by omega) (by omega)
      have item : ∀ {H : Hp} {Q : VK} {E : XK}, WebAt a.c_Web H web rows e o → (∀ t, H t = some (.tup ((qq :: t1 :: t2 :: r).map V.int)) → Q (.ref t) H) → spItem a.c_Web a.c_NoNode [.ref web, .int p] H Q E := fun {H Q E} hw k =>
        ⟨web, rows, e, o, p, rfl, hw, bp, fun _ t row hr ht => k t (by rw [hrw] at hr; cases hr; rw [hrow] at ht; exact ht), fun h => absurd ⟨hp0, p1⟩ h⟩
      -- question
      refine ⟨fun j2 H02 σ H3 => j = j2 ∧ H02 = H0 ∧ σ = [some (.ref web), some (.ref pu), some v, some (.int p), some (.int qq), v5] ∧ H3 = H2, ?_, ?_⟩
      · obtain ⟨dx, nt, as, hx, _⟩ := id (hw.same f2)
        exact ⟨_, rfl, _, rfl, web, dx, _, rfl, hx, item (hw.same f2) fun t ht => ⟨t, _, _, _, rfl, rfl, tup_of ht, at_tup (j := 0) rfl, rfl, rfl, rfl, rfl⟩⟩
      rintro j2 H02 σ H3 ⟨rfl, rfl, rfl, rfl⟩
      -- answer
      refine ⟨fun j2 H03 σ H4 => j = j2 ∧ H03 = H02 ∧ σ = [some (.ref web), some (.ref pu), some v, some (.int p), some (.int qq), some (.int (aP rows R p))] ∧ H4 = H3, ?_, ?_⟩
      · refine ⟨_, rfl, _, rfl, own_has (neg := false) (hp.same f2) ⟨_, rfl, ?_⟩⟩
        unfold aP
        rw [hq]
        by_cases hin : qq ∈ norm R
        · rw [if_pos hin, decide_eq_true hin]
          exact iteT ⟨rfl, rfl, rfl, rfl⟩
        · rw [if_neg hin, decide_eq_false hin]
          exact iteF ⟨rfl, rfl, rfl, rfl⟩
      rintro j2 H03 σ H4 ⟨rfl, rfl, rfl, rfl⟩
      have hjl : j < (WK rows R z).length := by
        have := congrArg List.length hd
        rw [List.length_drop, c1, List.length_cons] at this
        omega
      have hget : (WK rows R z)[j]? = some (itP rows R p) := by
        have := congrArg (fun l => l[0]?) hd
        simpa [c1] using this
      -- handed out
      refine ⟨fun j2 H04 σ H5 => j2 = j + 1 ∧ σ = [some (.ref web), some (.ref pu), some v, some (.int p), some (.int qq), some (.int (aP rows R p))] ∧ Same Hg H5 ∧ H04 = H5, ?_, ?_⟩
      · refine ⟨hjl, _, rfl, _, rfl, _, rfl, by show 3 ≤ sizeLine; decide, fun t nt => ⟨⟨t, _, hget, rfl, ?_⟩, f1.trans (same_upd nt), fun H5 f5 => ⟨rfl, rfl, f5, rfl⟩⟩⟩
        rw [upd_same]
        unfold itP
        rw [hq]
        rfl
      rintro j2 H04 σ H5 ⟨rfl, rfl, f5, rfl⟩
      -- the next place
      obtain ⟨dx, nt, as, hx, _⟩ := id (hw.same f5)
      refine ⟨_, rfl, _, rfl, web, dx, _, rfl, hx, item (hw.same f5) fun t ht => ⟨_, rfl, t, _, _, rfl, ht, by simp, ?_⟩⟩
      obtain ⟨n1, n2, n3⟩ := nxP_ok (R := R) G hp0 p1
      have hnx : tRow (qq :: t1 :: t2 :: r) (aP rows R p) = nxP rows R p := by unfold nxP; rw [hrow]
      rw [hnx]
      refine ⟨_, msr_lt (R := R) G hp0 p1, nxP rows R p, _, _, rfl, n1, n2, ?_, hjl, rfl, Same.refl _, f5⟩
      have := congrArg (List.drop 1) hd
      rw [List.drop_drop, c1] at this
      exact this
    · rw [decide_eq_false hp0]
      refine iteF ⟨?_, f1⟩
      rw [WK_neg (p := p) (by omega)] at hd
      have := congrArg List.length hd
      rw [List.length_drop, List.length_nil] at this
      omega
end
end K14

namespace K14
open PySem PySem.Spec PyProof.Rows L2 Gg TL
section
variable {P : Program} {w : World} {K : PySem.W.Frag} {mg : Str → Option Value} {base : Heap} {a : Ad}
theorem gl_walk (T : Txt K mg a) : GFn P w K mg base 5 a.f_walk a.d_walk P_walk (spWalkL a.c_Web a.c_Pupil a.c_NoPosition) := by
  refine gfnL_of T.F_walk sc_walk (fun vs H Q E h => ?_) (fun cdv A outer s H vs Q E pn hr h => ?_)
  · obtain ⟨web, pu, v, rows, R, e, o, z, rfl, _⟩ := h
    rfl
  · obtain ⟨web, pu, v, rows, R, e, o, z, rfl, hw, G, hp, hst, bz, k, kx⟩ := h
    refine ⟨_, (gss_cutL (L2.gs_ps (ps_set (i := 3) sc_walk.nd rfl (Or.inl rfl) (pe_callS (ok_begin T) (hr.mono (by decide)) (by rfl) T.g_begin T.k_begin T.b_begin (fun σ => passAt takes_gcx σ) (pa_cons (pv 0) (pa_cons (pv 2) pa_nil)))))
  (L2.gss_cons (L2.gs_while owns_gcx (pt_cmpR op_ge (pv 3) pe_int (nomark _))
    (gss_cutL (L2.gs_ps (ps_set (i := 4) sc_walk.nd rfl (Or.inl rfl) (pe_ix ix_tup (pe_ownIxS (ok_Web_getitem T) (hr.mono (by decide)) T.s_Web_getitem T.fn_Web_getitem T.i_Web_getitem T.b_Web_getitem (fun σ => passAt takes_gcx σ) (pv 0) (pv 3)) pe_int (by intro _ _; rfl))))
  (gss_cutL (L2.gs_ps (ps_set (i := 5) sc_walk.nd rfl (Or.inl rfl) (pe_ifExp (pt_cmpR (in_own (ok_Pupil_contains T) (hr.mono (by decide)) T.s_Pupil_contains T.i_Pupil_contains T.b_Pupil_contains pass0) (pv 4) (pv 1) (by with_unfolding_all rfl)) pe_int pe_int)))
  (gss_cutL (L2.gs_yield (pe_tup (pa_cons (pv 3) (pa_cons (pv 4) (pa_cons (pv 5) pa_nil)))))
  (L2.gss_cons (L2.gs_ps (ps_set (i := 3) sc_walk.nd rfl (Or.inl rfl) (pe_call (ok_target_of T) (hr.mono (by decide)) (by rfl) T.g_target_of T.k_target_of T.b_target_of .nil pass0 (pa_cons (pe_ownIxS (ok_Web_getitem T) (hr.mono (by decide)) T.s_Web_getitem T.fn_Web_getitem T.i_Web_getitem T.b_Web_getitem (fun σ => passAt takes_gcx σ) (pv 0) (pv 3)) (pa_cons (pv 5) pa_nil)))))
  L2.gss_nil)))))
  L2.gss_nil)), ?_⟩
    have ge1 := G.e1
    have ge2 := G.e2
    have gl := G.len
    refine ⟨fun ys σ H1 => (-e ≤ z ∧ z < rows.length) ∧ ys = [] ∧ σ = [some (.ref web), some (.ref pu), some v, some (.int z), none, none] ∧ H1 = H, ?_, ?_⟩
    · exact ⟨_, rfl, _, rfl, web, v, rows, e, o, z, rfl, hw, hst, bz, fun h => ⟨h, rfl, rfl, rfl⟩, fun h d H2 nd f2 hd => kx h d H2 nd f2 hd⟩
    rintro ys σ H1 ⟨hz, rfl, rfl, rfl⟩
    obtain ⟨z0, z1⟩ := id hz
    refine ⟨fun q ys σ H2 => ∃ p v4 v5 as l, σ = [some (.ref web), some (.ref pu), some v, some (.int p), v4, v5] ∧ -e ≤ p ∧ p < rows.length ∧ ys = as.map V.ref ∧ RowsAt H2 as l ∧ l ++ WK rows R p = WK rows R z ∧ q = msr rows.length p ∧ Same H1 H2, ⟨_, z, _, _, [], [], rfl, z0, z1, rfl, ⟨rfl, fun _ _ _ h => by simp at h⟩, rfl, rfl, Same.refl _⟩, ?_⟩
    rintro q ys σ H2 ⟨p, v4, v5, as, l, rfl, p0, p1, rfl, hra, hl, rfl, f2⟩
    refine ⟨_, rfl, _, _, rfl, rfl, _, rfl, ?_⟩
    by_cases hp0 : 0 ≤ p
    · rw [decide_eq_true hp0]
      refine iteT ⟨_, fun _ _ _ h => h, ?_⟩
      obtain ⟨qq, t1, t2, r, hrow, hrw, q0, q1, h1, h2⟩ := row3 G hp0 p1
      have hq : qP rows p = qq := by unfold qP; rw [hrow] <;> rfl
      obtain ⟨c1, c2⟩ := WK_cons (R := R) G hp0 p1
      have bp : Bd p := Bd.small (by omega) (by omega)
      have item : ∀ {H : Hp} {Q : VK} {E : XK}, WebAt a.c_Web H web rows e o → (∀ t, H t = some (.tup ((qq :: t1 :: t2 :: r).map V.int)) → Q (.ref t) H) → spItem a.c_Web a.c_NoNode [.ref web, .int p] H Q E := fun {H Q E} hw k =>
        ⟨web, rows, e, o, p, rfl, hw, bp, fun _ t row hr ht => k t (by rw [hrw] at hr; cases hr; rw [hrow] at ht; exact ht), fun h => absurd ⟨hp0, p1⟩ h⟩
      have hlen : as.length < rows.length := by
        have e1 := congrArg List.length hl
        have e2 := WK_len (rows := rows) (R := R) (p := z)
        rw [List.length_append, c1, List.length_cons] at e1
        have := hra.1
        omega
      -- question
      refine ⟨fun ys σ H3 => ys = as.map V.ref ∧ σ = [some (.ref web), some (.ref pu), some v, some (.int p), some (.int qq), v5] ∧ H3 = H2, ?_, ?_⟩
      · obtain ⟨dx, nt, as', hx, _⟩ := id (hw.same f2)
        exact ⟨_, rfl, _, rfl, web, dx, _, rfl, hx, item (hw.same f2) fun t ht => ⟨t, _, _, _, rfl, rfl, tup_of ht, at_tup (j := 0) rfl, rfl, rfl, rfl⟩⟩
      rintro ys σ H3 ⟨rfl, rfl, rfl⟩
      -- answer
      refine ⟨fun ys σ H4 => ys = as.map V.ref ∧ σ = [some (.ref web), some (.ref pu), some v, some (.int p), some (.int qq), some (.int (aP rows R p))] ∧ H4 = H3, ?_, ?_⟩
      · refine ⟨_, rfl, _, rfl, own_has (neg := false) (hp.same f2) ⟨_, rfl, ?_⟩⟩
        unfold aP
        rw [hq]
        by_cases hin : qq ∈ norm R
        · rw [if_pos hin, decide_eq_true hin]
          exact iteT ⟨rfl, rfl, rfl⟩
        · rw [if_neg hin, decide_eq_false hin]
          exact iteF ⟨rfl, rfl, rfl⟩
      rintro ys σ H4 ⟨rfl, rfl, rfl⟩
      -- handed out
      refine ⟨fun ys σ H5 => ∃ t, ys = (as ++ [t]).map V.ref ∧ σ = [some (.ref web), some (.ref pu), some v, some (.int p), some (.int qq), some (.int (aP rows R p))] ∧ Same H1 H5 ∧ RowsAt H5 (as ++ [t]) (l ++ [itP rows R p]), ?_, ?_⟩
      · refine ⟨by rw [List.length_map, sizeLine_eq]; omega, _, rfl, _, rfl, _, rfl, by show 3 ≤ sizeLine; decide, fun t nt => ⟨t, by rw [List.map_append]; rfl, rfl, f2.trans (same_upd nt), (hra.same (same_upd nt)).snoc ?_⟩⟩
        rw [upd_same]
        unfold itP
        rw [hq]
        rfl
      rintro ys σ H5 ⟨t, rfl, rfl, f5, hra5⟩
      -- the next place
      obtain ⟨dx, nt, as', hx, _⟩ := id (hw.same f5)
      refine ⟨_, rfl, _, rfl, web, dx, _, rfl, hx, item (hw.same f5) fun t' ht => ⟨_, rfl, t', _, _, rfl, ht, by simp, ?_⟩⟩
      obtain ⟨n1, n2, n3⟩ := nxP_ok (R := R) G hp0 p1
      have hnx : tRow (qq :: t1 :: t2 :: r) (aP rows R p) = nxP rows R p := by unfold nxP; rw [hrow]
      rw [hnx]
      refine ⟨_, msr_lt (R := R) G hp0 p1, nxP rows R p, _, _, as ++ [t], l ++ [itP rows R p], rfl, n1, n2, rfl, hra5, ?_, rfl, f5⟩
      rw [List.append_assoc, List.singleton_append, ← c1]
      exact hl
    · rw [decide_eq_false hp0]
      refine iteF ?_
      rw [WK_neg (p := p) (by omega), List.append_nil] at hl
      rw [hl] at hra
      exact k hz H2 as f2 hra
theorem ok_end_of (T : Txt K mg a) : FnOk P w K mg base (L2.CX P w) 7 a.f_end_of a.d_end_of P_end_of (spEnd a.c_Web a.c_Pupil a.c_NoPosition) := by
  refine T.F_end_of.ok sc_end_of (fun vs H Q E h => ?_) (fun cdv A outer s H vs Q E hr h => ?_)
  · obtain ⟨web, pu, v, rows, R, e, o, z, rfl, _⟩ := h
    rfl
  · obtain ⟨web, pu, v, rows, R, e, o, z, rfl, hw, G, hp, hst, bz, k, kx⟩ := h
    refine ⟨_, (Evl.pss_cut (ps_set (i := 3) sc_end_of.nd rfl (Or.inl rfl) (pe_callS (ok_begin T) (hr.mono (by decide)) (by rfl) T.g_begin T.k_begin T.b_begin (fun σ => passAt (takes_of rfl rfl rfl rfl) σ) (pa_cons (pv 0) (pa_cons (pv 2) pa_nil))))
  (PSs.nox (pss_cons (ps_forG rfl rfl (hr.mono (by decide)) (pgenF_call (gf_walk T) (hr.mono (by decide)) (by rfl) T.g_walk T.k_walk T.b_walk .nil (pa_cons (pv 0) (pa_cons (pv 1) (pa_cons (pv 2) pa_nil)))) (pg_tup rfl (pgs_cons (pg_name (i := 4) sc_end_of.nd rfl (Or.inl rfl)) (pgs_cons (pg_name (i := 5) sc_end_of.nd rfl (Or.inl rfl)) (pgs_cons (pg_name (i := 6) sc_end_of.nd rfl (Or.inl rfl)) pgs_nil))))
    (pss_one (ps_set (i := 3) sc_end_of.nd rfl (Or.inl rfl) (pe_call (ok_target_of T) (hr.mono (by decide)) (by rfl) T.g_target_of T.k_target_of T.b_target_of .nil pass0 (pa_cons (pe_ownIx (ok_Web_getitem T) (hr.mono (by decide)) T.s_Web_getitem T.fn_Web_getitem T.i_Web_getitem T.b_Web_getitem passL (pv 0) (pv 4)) (pa_cons (pv 6) pa_nil))))))
  (pss_one (ps_ret (pe_op op_sub (pe_un un_neg pe_int) (pv 3))))))), ?_⟩
    have ge1 := G.e1
    have ge2 := G.e2
    have gl := G.len
    refine ⟨fun σ H1 => (-e ≤ z ∧ z < rows.length) ∧ σ = [some (.ref web), some (.ref pu), some v, some (.int z), none, none, none] ∧ H1 = H, ?_, ?_⟩
    · exact ⟨_, rfl, _, rfl, web, v, rows, e, o, z, rfl, hw, hst, bz, fun h => ⟨h, rfl, rfl⟩, fun h d H2 nd f2 hd => kx h d H2 nd f2 hd⟩
    rintro σ H1 ⟨hz, rfl, rfl⟩
    obtain ⟨z0, z1⟩ := id hz
    refine ⟨_, rfl, _, rfl, _, rfl, _, _, ⟨web, pu, v, rows, R, e, o, z, rfl, hw.clH, G, hp.clH, hst, z0, z1, rfl, rfl⟩, ?_⟩
    refine ⟨fun j σ H2 => ∃ p v4 v5 v6, σ = [some (.ref web), some (.ref pu), some v, some (.int p), v4, v5, v6] ∧ Same H1 H2 ∧ -e ≤ p ∧ p < rows.length ∧ (WK rows R z).drop j = WK rows R p ∧ WN rows R z = WN rows R p, ⟨z, _, _, _, rfl, Same.refl _, z0, z1, rfl, rfl⟩, fun j σ H2 ⟨_, _, _, _, _, f2, _⟩ b o q => f2 b o (cl_sub q), ?_, ?_⟩
    · rintro j σ H2 x H3 hj ⟨p, v4, v5, v6, rfl, f2, p0, p1, hd, he⟩ f3 ⟨t, row, hrow, rfl, ht⟩
      have hp0 : 0 ≤ p := by
        refine Int.not_lt.mp fun hn => ?_
        rw [WK_neg hn] at hd
        have := congrArg List.length hd
        rw [List.length_drop, List.length_nil] at this
        omega
      obtain ⟨qq, t1, t2, r, hr3, hrw, q0, q1, h1, h2⟩ := row3 G hp0 p1
      obtain ⟨c1, c2⟩ := WK_cons (R := R) G hp0 p1
      have hget : (WK rows R z)[j]? = some (itP rows R p) := by
        have := congrArg (fun l => l[0]?) hd
        simpa [c1] using this
      rw [hrow] at hget
      cases hget
      refine ⟨t, _, rfl, tup_of ht, rfl, _, _, rfl, _, _, rfl, _, _, rfl, rfl, ?_⟩
      have f13 := f2.trans f3
      obtain ⟨dx, nt, as', hx, _⟩ := id (hw.same f13)
      refine ⟨_, rfl, _, rfl, web, dx, _, rfl, hx, web, rows, e, o, p, rfl, hw.same f13, Bd.small (by omega) (by omega), fun _ t' row' hr' ht' => ⟨_, rfl, t', row', _, rfl, ht', ?_, ?_⟩, fun h => absurd ⟨hp0, p1⟩ h⟩
      · rw [hrw] at hr'
        cases hr'
        rw [hr3]
        simp
      · rw [hrw] at hr'
        cases hr'
        obtain ⟨n1, n2, n3⟩ := nxP_ok (R := R) G hp0 p1
        refine ⟨nxP rows R p, _, _, _, rfl, f13, n1, n2, ?_, he.trans c2⟩
        have := congrArg (List.drop 1) hd
        rw [List.drop_drop, c1] at this
        exact this
    · rintro σ H2 H3 ⟨p, v4, v5, v6, rfl, f2, p0, p1, hd, he⟩ f3
      have hn : p < 0 := by
        refine Int.not_le.mp fun hp0 => ?_
        obtain ⟨c1, c2⟩ := WK_cons (R := R) G hp0 p1
        rw [c1] at hd
        have := congrArg List.length hd
        rw [List.length_drop, List.length_cons] at this
        omega
      refine ⟨_, rfl, _, rfl, _, _, rfl, rfl, ?_⟩
      have := k hz H3 (f2.trans f3)
      rw [he, WN_neg hn] at this
      exact this
theorem ok_run_of (T : Txt K mg a) : FnOk P w K mg base CX0 7 a.f_run_of a.d_run_of P_run_of (spRun a.c_Web a.c_Pupil) := by
  refine T.F_run_of.ok sc_run_of (fun vs H Q E h => ?_) (fun cdv A outer s H vs Q E hr h => ?_)
  · obtain ⟨web, pu, rows, R, e, o, rfl, _⟩ := h
    rfl
  · obtain ⟨web, pu, rows, R, e, o, rfl, hw, G, hp, k⟩ := h
    refine ⟨_, (pss_one (ps_ret (pe_callTy call_tuple_of (by rfl) T.z_tuple (by decide +kernel) (pa_cons (pe_lcG (own := [("node", 2), ("question", 3), ("answer", 4)]) (g := (gTup K 3 (gCons (gName 2) (gCons (gName 3) (gCons (gName 4) L2.gNil))))) (te := (tTup (tCons (tVar 3) (tCons (tVar 4) tNil)))) rfl sc_run_of.nd (hr.mono (by decide)) (pgenF_call (gf_walk T) (hr.mono (by decide)) (by rfl) T.g_walk T.k_walk T.bd_walk T.vd_walk (pa_cons (pv 0) (pa_cons (pv 1) pa_nil))) (blkOk_by (N := N_run_of) (sc := defScope s_run_of) (by decide +kernel)) (fun _ _ _ _ _ => by exact (pg_tup rfl (pgs_cons (pg_name (i := 2) sc_run_of.nd rfl (Or.inl rfl)) (pgs_cons (pg_name (i := 3) sc_run_of.nd rfl (Or.inl rfl)) (pgs_cons (pg_name (i := 4) sc_run_of.nd rfl (Or.inl rfl)) pgs_nil))))) (fun _ _ _ _ _ => by exact (pe_tup (pa_cons (pv 3) (pa_cons (pv 4) pa_nil))))) pa_nil)))), ?_⟩
    have gl := G.len
    refine ⟨_, rfl, _, rfl, _, _, ⟨web, pu, .non, rows, R, e, o, o, rfl, hw.clH, G, hp.clH, .inl ⟨rfl, rfl⟩, G.o1, G.o2, rfl, rfl⟩, fun D nD => ?_⟩
    refine ⟨fun j H2 => ∃ as, H2 D = some (.lst (as.map V.ref)) ∧ as.length = j ∧ RowsAt H2 as (((WK rows R o).take j).map List.tail) ∧ Same H H2, ⟨[], upd_same, rfl, ⟨rfl, fun _ _ _ h => by simp at h⟩, same_upd nD⟩, fun j H2 ⟨_, _, _, _, f2⟩ b o q => f2 b o (cl_sub q), ?_, ?_⟩
    · rintro j H2 x H3 hj ⟨as, hD, hl, hra, f2⟩ f3 ⟨t, row, hrow, rfl, ht⟩
      obtain ⟨p, q, x, hx⟩ : ∃ p q x, row = [p, q, x] := by
        have hm := List.mem_of_getElem? hrow
        have : ∀ (k : Nat) (p : Int), ∀ row ∈ wl rows R k p, ∃ p q x, row = [p, q, x] := fun k => by
          induction k with
          | zero => intro p row h; cases h
          | succ k ih =>
            intro p row h
            unfold wl at h
            split at h
            · cases h
            · rcases List.mem_cons.mp h with h | h
              · exact ⟨_, _, _, h⟩
              · exact ih _ row h
        exact this _ _ row hm
      subst hx
      refine ⟨t, _, rfl, tup_of ht, rfl, _, _, rfl, _, _, rfl, _, _, rfl, rfl, ?_⟩
      refine ⟨rfl, _, rfl, _, rfl, by show 2 ≤ sizeLine; decide, fun t2 nt2 => ⟨as.map V.ref, (f3.trans (same_upd nt2)) _ _ hD, by rw [List.length_map, hl, sizeLine_eq]; have := WK_len (rows := rows) (R := R) (p := o); omega, as ++ [t2], ?_, ?_, ?_, ?_⟩⟩
      · rw [upd_same, List.map_append]
        rfl
      · rw [List.length_append, hl] <;> rfl
      · rw [List.take_add_one, hrow, List.map_append]
        have hne : t2 ≠ D := (ne_of_none (f3 _ _ hD) nt2).symm
        have h3 := (hra.same (f3.trans (same_upd nt2 (o := .tup [V.int q, V.int x])))).snoc (x := t2) (row := [q, x]) upd_same
        refine ⟨h3.1, fun i b r e1 e2 => ?_⟩
        have := h3.2 i b r e1 e2
        rw [upd_ne (fun z => by subst z; rw [(f3.trans (same_upd nt2)) _ _ hD] at this; cases this)]
        exact this
      · exact (f2.trans (f3.trans (same_upd nt2))).mut nD
    · rintro H2 H3 ⟨as, hD, hl, hra, f2⟩ f3
      rw [List.take_length] at hra
      refine ⟨D, _, rfl, .inl ⟨lst_of (f3 _ _ hD), fun t nt => ?_⟩⟩
      have f4 := f3.trans (same_upd nt (o := .tup (as.map V.ref)))
      exact k _ t as (f2.trans f4) upd_same (hra.same f4)
end
end K14

namespace K14
open PySem PySem.Spec PyProof.Rows L2 Gg TL
section
variable {P : Program} {w : World} {K : PySem.W.Frag} {mg : Str → Option Value} {base : Heap} {a : Ad}
theorem ok_Ladder_init (T : Txt K mg a) : FnOk P w K mg base CX0 1 a.f_Ladder_init a.d_Ladder_init P_Ladder_init (spLad a.c_Ladder) := by
  refine T.F_Ladder_init.ok sc_Ladder_init (fun vs H Q E h => ?_) (fun cdv A outer s H vs Q E hr h => ?_)
  · obtain ⟨x, dx, t, rfl, _⟩ := h
    rfl
  · obtain ⟨x, dx, t, rfl, hx, ht, k⟩ := h
    obtain ⟨h, f, up, dn, sz, mo⟩ := t
    obtain ⟨o1, o2, o3, o4, o5, o6, o7⟩ := id ht
    dsimp only at o1 o2 o3 o4 o5 o6 o7
    unfold ladV
    refine ⟨_, (Evl.pss_cut (ps_set (i := 7) sc_Ladder_init.nd rfl (Or.inl rfl) (pe_tup (pa_cons (pe_tup (pa_cons pe_str (pa_cons (pv 1) (pa_cons pe_int (pa_cons pe_int pa_nil))))) (pa_cons (pe_tup (pa_cons pe_str (pa_cons (pv 2) (pa_cons pe_int (pa_cons (pv 1) pa_nil))))) (pa_cons (pe_tup (pa_cons pe_str (pa_cons (pv 3) (pa_cons pe_int (pa_cons pe_int pa_nil))))) (pa_cons (pe_tup (pa_cons pe_str (pa_cons (pv 4) (pa_cons pe_int (pa_cons pe_int pa_nil))))) (pa_cons (pe_tup (pa_cons pe_str (pa_cons (pv 5) (pa_cons pe_int (pa_cons pe_int pa_nil))))) (pa_cons (pe_tup (pa_cons pe_str (pa_cons (pv 6) (pa_cons pe_int (pa_cons (pv 5) pa_nil))))) pa_nil))))))))
  (Evl.pss_cut (ps_for PassesOwn.never rfl (pi_tup (pv 7)) (pg_tup rfl (pgs_cons (pg_name (i := 8) sc_Ladder_init.nd rfl (Or.inl rfl)) (pgs_cons (pg_name (i := 9) sc_Ladder_init.nd rfl (Or.inl rfl)) (pgs_cons (pg_name (i := 10) sc_Ladder_init.nd rfl (Or.inl rfl)) (pgs_cons (pg_name (i := 11) sc_Ladder_init.nd rfl (Or.inl rfl)) pgs_nil)))))
    (pss_one (ps_if (pt_not (pt_chain op_le op_le (pv 10) (pv 9) (pv 11)))
    (pss_one ps_never)
    pss_nil)))
  (Evl.pss_cut (ps_fld (pv 0) (pv 1) rfl)
  (Evl.pss_cut (ps_fld (pv 0) (pv 2) rfl)
  (Evl.pss_cut (ps_fld (pv 0) (pv 3) rfl)
  (Evl.pss_cut (ps_fld (pv 0) (pv 4) rfl)
  (Evl.pss_cut (ps_fld (pv 0) (pv 5) rfl)
  (pss_one (ps_fld (pv 0) (pv 6) rfl))))))))), ?_⟩
    refine ⟨fun σ H1 => ∃ (R : Addr) (ts : List Addr), σ = [some (.ref x), some (.int h), some (.int f), some (.int up), some (.int dn), some (.int sz), some (.int mo), some (.ref R), none, none, none, none] ∧ Same H H1 ∧ H1 R = some (.tup (ts.map V.ref)) ∧ ∀ b ∈ ts, ∃ (wd : Str) (n lo hi : Int), H1 b = some (.tup [.str wd, .int n, .int lo, .int hi]) ∧ lo ≤ n ∧ n ≤ hi, ?_, ?_⟩
    · refine ⟨_, rfl, by show 4 ≤ sizeLine; decide, fun t1 n1 => ⟨_, rfl, _, rfl, by show 4 ≤ sizeLine; decide, fun t2 n2 => ⟨_, rfl, by show 4 ≤ sizeLine; decide, fun t3 n3 => ⟨_, rfl, by show 4 ≤ sizeLine; decide, fun t4 n4 => ⟨_, rfl, by show 4 ≤ sizeLine; decide, fun t5 n5 => ⟨_, rfl, _, rfl, by show 4 ≤ sizeLine; decide, fun t6 n6 => ⟨by show 6 ≤ sizeLine; decide, fun R nR => ?_⟩⟩⟩⟩⟩⟩⟩
      have f1 := same_upd n1 (o := .tup [V.str "levels", .int h, .int 1, .int 6])
      have f2 := same_upd n2 (o := .tup [V.str "begin", .int f, .int 1, .int h])
      have f3 := same_upd n3 (o := .tup [V.str "up", .int up, .int 1, .int 3])
      have f4 := same_upd n4 (o := .tup [V.str "down", .int dn, .int 1, .int 3])
      have f5 := same_upd n5 (o := .tup [V.str "count", .int sz, .int 1, .int 6])
      have f6 := same_upd n6 (o := .tup [V.str "most_wrongs", .int mo, .int 0, .int sz])
      have f7 := same_upd nR (o := .tup [V.ref t1, .ref t2, .ref t3, .ref t4, .ref t5, .ref t6])
      refine ⟨R, [t1, t2, t3, t4, t5, t6], rfl, ((((((f1.trans f2).trans f3).trans f4).trans f5).trans f6).trans f7), upd_same, fun b hb => ?_⟩
      simp only [List.mem_cons, List.not_mem_nil, or_false] at hb
      rcases hb with rfl | rfl | rfl | rfl | rfl | rfl
      · exact ⟨_, _, _, _, ((((f2.trans f3).trans f4).trans f5).trans (f6.trans f7)) _ _ upd_same, o1⟩
      · exact ⟨_, _, _, _, (((f3.trans f4).trans f5).trans (f6.trans f7)) _ _ upd_same, o2⟩
      · exact ⟨_, _, _, _, ((f4.trans f5).trans (f6.trans f7)) _ _ upd_same, o3⟩
      · exact ⟨_, _, _, _, (f5.trans (f6.trans f7)) _ _ upd_same, o4⟩
      · exact ⟨_, _, _, _, (f6.trans f7) _ _ upd_same, o5⟩
      · exact ⟨_, _, _, _, f7 _ _ upd_same, o6, o7⟩
    rintro σ H1 ⟨R, ts, rfl, f1, hR, hts⟩
    refine ⟨fun σ H2 => ∃ v8 v9 v10 v11, σ = [some (.ref x), some (.int h), some (.int f), some (.int up), some (.int dn), some (.int sz), some (.int mo), some (.ref R), v8, v9, v10, v11] ∧ Same H H2, ?_, ?_⟩
    · refine ⟨_, rfl, R, rfl, ⟨_, tup_of hR⟩, for_tup (K := K) (a := R) (xs := ts.map V.ref) (fun i σ H2 => ∃ v8 v9 v10 v11, σ = [some (.ref x), some (.int h), some (.int f), some (.int up), some (.int dn), some (.int sz), some (.int mo), some (.ref R), v8, v9, v10, v11] ∧ Same H1 H2) ⟨_, _, _, _, rfl, Same.refl _⟩ (fun i σ H2 _ ⟨_, _, _, _, _, f⟩ => tup_of (f _ _ hR)) ?_ ?_⟩
      · rintro i y σ H2 hi ⟨v8, v9, v10, v11, rfl, f2⟩
        rw [List.getElem?_map] at hi
        obtain ⟨b, hb, rfl⟩ := Option.map_eq_some_iff.mp hi
        obtain ⟨wd, n, lo, hi', hbb, b1, b2⟩ := hts b (List.mem_of_getElem? hb)
        refine ⟨b, _, rfl, tup_of (f2 _ _ hbb), rfl, _, _, rfl, _, _, rfl, _, _, rfl, _, _, rfl, rfl, _, rfl, _, rfl, _, _, rfl, rfl, _, rfl, ?_⟩
        rw [decide_eq_true b1]
        refine iteT ⟨_, rfl, _, _, rfl, rfl, _, rfl, ?_⟩
        rw [decide_eq_true b2]
        exact iteF ⟨_, _, _, _, rfl, f2⟩
      · rintro σ H2 ⟨v8, v9, v10, v11, rfl, f2⟩
        exact ⟨_, _, _, _, rfl, f1.trans f2⟩
    rintro σ H2 ⟨v8, v9, v10, v11, rfl, f2⟩
    have hx2 := f2 _ _ hx
    have kx : ∀ {H' : Hp} {o : HO}, (∀ b u, b ≠ x → H b = some u → H' b = some u) → ∀ b u, b ≠ x → H b = some u → upd H' x o b = some u := fun {H' o} g b u nb eb => by rw [upd_ne nb]; exact g b u nb eb
    refine ⟨fun σ H3 => σ = [some (.ref x), some (.int h), some (.int f), some (.int up), some (.int dn), some (.int sz), some (.int mo), some (.ref R), v8, v9, v10, v11] ∧ H3 x = some (.ins a.c_Ladder dx [("levels", .int h)]) ∧ ∀ b u, b ≠ x → H b = some u → H3 b = some u, ?_, ?_⟩
    · exact ⟨_, rfl, _, rfl, x, _, dx, _, rfl, hx2, T.cl_Ladder, T.nA_Ladder_levels, by show 0 < 1000; decide, rfl, by rw [upd_same]; rfl, kx fun b u _ eb => f2 b u eb⟩
    rintro σ H3 ⟨rfl, hx3, k3⟩
    refine ⟨fun σ H4 => σ = [some (.ref x), some (.int h), some (.int f), some (.int up), some (.int dn), some (.int sz), some (.int mo), some (.ref R), v8, v9, v10, v11] ∧ H4 x = some (.ins a.c_Ladder dx [("levels", .int h), ("begin", .int f)]) ∧ ∀ b u, b ≠ x → H b = some u → H4 b = some u, ?_, ?_⟩
    · exact ⟨_, rfl, _, rfl, x, _, dx, _, rfl, hx3, T.cl_Ladder, T.nA_Ladder_begin, by show 1 < 1000; decide, rfl, by rw [upd_same]; rfl, kx k3⟩
    rintro σ H4 ⟨rfl, hx4, k4⟩
    refine ⟨fun σ H5 => σ = [some (.ref x), some (.int h), some (.int f), some (.int up), some (.int dn), some (.int sz), some (.int mo), some (.ref R), v8, v9, v10, v11] ∧ H5 x = some (.ins a.c_Ladder dx [("levels", .int h), ("begin", .int f), ("up", .int up)]) ∧ ∀ b u, b ≠ x → H b = some u → H5 b = some u, ?_, ?_⟩
    · exact ⟨_, rfl, _, rfl, x, _, dx, _, rfl, hx4, T.cl_Ladder, T.nA_Ladder_up, by show 2 < 1000; decide, rfl, by rw [upd_same]; rfl, kx k4⟩
    rintro σ H5 ⟨rfl, hx5, k5⟩
    refine ⟨fun σ H6 => σ = [some (.ref x), some (.int h), some (.int f), some (.int up), some (.int dn), some (.int sz), some (.int mo), some (.ref R), v8, v9, v10, v11] ∧ H6 x = some (.ins a.c_Ladder dx [("levels", .int h), ("begin", .int f), ("up", .int up), ("down", .int dn)]) ∧ ∀ b u, b ≠ x → H b = some u → H6 b = some u, ?_, ?_⟩
    · exact ⟨_, rfl, _, rfl, x, _, dx, _, rfl, hx5, T.cl_Ladder, T.nA_Ladder_down, by show 3 < 1000; decide, rfl, by rw [upd_same]; rfl, kx k5⟩
    rintro σ H6 ⟨rfl, hx6, k6⟩
    refine ⟨fun σ H7 => σ = [some (.ref x), some (.int h), some (.int f), some (.int up), some (.int dn), some (.int sz), some (.int mo), some (.ref R), v8, v9, v10, v11] ∧ H7 x = some (.ins a.c_Ladder dx [("levels", .int h), ("begin", .int f), ("up", .int up), ("down", .int dn), ("count", .int sz)]) ∧ ∀ b u, b ≠ x → H b = some u → H7 b = some u, ?_, ?_⟩
    · exact ⟨_, rfl, _, rfl, x, _, dx, _, rfl, hx6, T.cl_Ladder, T.nA_Ladder_count, by show 4 < 1000; decide, rfl, by rw [upd_same]; rfl, kx k6⟩
    rintro σ H7 ⟨rfl, hx7, k7⟩
    exact ⟨_, rfl, _, rfl, x, _, dx, _, rfl, hx7, T.cl_Ladder, T.nA_Ladder_most_wrongs, by show 5 < 1000; decide, k _ ⟨dx, by rw [upd_same]; rfl⟩ (kx k7)⟩
theorem cmul_lv {i : Int} (h0 : 0 ≤ i) (h1 : i < 100) : CMul i 8 := .inr (by decide)
theorem take0 {h : Int} (h1 : 1 ≤ h) (h6 : h ≤ 6) : (List.replicate h.toNat [V.int 0]).flatten = (([0, 0, 0, 0, 0, 0] : List Int).take h.toNat).map V.int := by
  have hh : h.toNat = 1 ∨ h.toNat = 2 ∨ h.toNat = 3 ∨ h.toNat = 4 ∨ h.toNat = 5 ∨ h.toNat = 6 := by omega
  rcases hh with e | e | e | e | e | e <;> rw [e] <;> rfl
theorem ok_first_state (T : Txt K mg a) : FnOk P w K mg base CX0 1 a.f_first_state a.d_first_state P_first_state (spLad0 a.c_Ladder) := by
  refine T.F_first_state.ok sc_first_state (fun vs H Q E h => ?_) (fun cdv A outer s H vs Q E hr h => ?_)
  · obtain ⟨x, t, rfl, _⟩ := h
    rfl
  · obtain ⟨x, t, rfl, ⟨dx, hx⟩, ht, k⟩ := h
    refine ⟨_, (pss_one (ps_ret (pe_tup (pa_cons (pe_fld (pv 0) (by rfl)) (pa_cons pe_int (pa_cons pe_int (pa_cons (pe_op (op_or2 op_repT1 op_repT) (pe_tup (pa_cons pe_int pa_nil)) (pe_fld (pv 0) (by rfl))) (pa_cons pe_int pa_nil)))))))), ?_⟩
    have h1 := ht.1
    refine ⟨_, rfl, x, _, dx, _, _, rfl, hx, T.cl_Ladder, T.nA_Ladder_begin, rfl, by show 1 ≤ sizeLine; decide, fun z nz => ?_⟩
    have fz := same_upd nz (o := .tup [V.int 0])
    refine ⟨_, rfl, x, _, dx, _, _, rfl, fz _ _ hx, T.cl_Ladder, T.nA_Ladder_levels, rfl, ?_⟩
    by_cases e1 : t.h = 1
    · refine .inl ⟨z, _, rfl, by rw [e1], tup_of upd_same, by simp, by show 5 ≤ sizeLine; decide, fun p np => ?_⟩
      refine k _ p (fz.trans (same_upd np)) ⟨z, upd_same, ?_⟩
      rw [(same_upd np) _ _ upd_same, e1]
      rfl
    · refine .inr ⟨z, t.h, _, rfl, rfl, tup_of upd_same, by simp, by omega, by omega, by show 1 ≤ 1000; decide, fun q nq => ⟨by show 5 ≤ sizeLine; decide, fun p np => ?_⟩⟩
      have fq := same_upd nq (o := .tup (List.replicate t.h.toNat [V.int 0]).flatten)
      refine k _ p ((fz.trans fq).trans (same_upd np)) ⟨q, upd_same, ?_⟩
      rw [(same_upd np) _ _ upd_same, take0 h1.1 h1.2]
      rfl
theorem ok_has_ended (T : Txt K mg a) : FnOk P w K mg base CX0 1 a.f_has_ended a.d_has_ended P_has_ended (spEnded a.c_Ladder) := by
  refine T.F_has_ended.ok sc_has_ended (fun vs H Q E h => ?_) (fun cdv A outer s H vs Q E hr h => ?_)
  · obtain ⟨x, p, t, i, st, rfl, _⟩ := h
    rfl
  · obtain ⟨x, p, t, i, st, rfl, ⟨dx, hx⟩, ⟨ak, hp, hak⟩, I, k⟩ := h
    refine ⟨_, (Evl.pss_cut (ps_set (i := 2) sc_has_ended.nd rfl (Or.inl rfl) (pe_callB (cr_sumT rfl) (by rfl) T.z_sum (by decide +kernel) (pa_cons (pe_ix ix_tup (pv 1) pe_int (by intro _ _; rfl)) pa_nil)))
  (Evl.pss_cut (ps_set (i := 3) sc_has_ended.nd rfl (Or.inl rfl) (pe_op op_sub (pv 2) (pe_ix ix_tup (pv 1) pe_int (by intro _ _; rfl))))
  (Evl.pss_cut (ps_if (PW.pt (pw_and (pt_cmpR op_gt (pe_fld (pv 0) (by rfl)) pe_int (nomark _)) (pw_and1 (pt_cmpR op_eq (pv 3) (pe_fld (pv 0) (by rfl)) (nomark _)))))
    (pss_one (ps_ret pe_bl))
    pss_nil)
  (pss_one (ps_ret (pe_cmpR op_eq (pv 2) (pe_fld (pv 0) (by rfl)) (nomark _))))))), ?_⟩
    refine ⟨fun σ H1 => σ = [some (.ref x), some (.ref p), some (.int (i : Int)), none] ∧ H1 = H, ?_, ?_⟩
    · refine ⟨_, rfl, p, _, 3, _, rfl, rfl, tup_of hp, atI3, ak, _, rfl, tup_of hak, ?_⟩
      rw [I.sum]
      exact ⟨rfl, rfl⟩
    rintro σ H1 ⟨rfl, rfl⟩
    refine ⟨fun σ H2 => σ = [some (.ref x), some (.ref p), some (.int (i : Int)), some (.int st.lost)] ∧ H2 = H1, ?_, ?_⟩
    · refine ⟨_, rfl, _, rfl, p, _, 4, _, rfl, rfl, tup_of hp, atI4, _, _, rfl, rfl, ?_, rfl⟩
      show [_, _, _, some (V.int ((i : Int) - ((i : Int) - st.lost)))] = _
      rw [show (i : Int) - ((i : Int) - st.lost) = st.lost by omega]
    rintro σ H2 ⟨rfl, rfl⟩
    refine ⟨fun σ H3 => σ = [some (.ref x), some (.ref p), some (.int (i : Int)), some (.int st.lost)] ∧ H3 = H2 ∧ ¬ (0 < t.mo ∧ st.lost = t.mo), ?_, ?_⟩
    · refine ⟨_, rfl, x, _, dx, _, _, rfl, hx, T.cl_Ladder, T.nA_Ladder_most_wrongs, rfl, _, _, rfl, rfl, _, rfl, ?_⟩
      by_cases h1 : 0 < t.mo
      · rw [decide_eq_true h1]
        refine iteT ⟨_, rfl, _, rfl, x, _, dx, _, _, rfl, hx, T.cl_Ladder, T.nA_Ladder_most_wrongs, rfl, rfl, _, rfl, ?_⟩
        by_cases h2 : st.lost = t.mo
        · rw [decide_eq_true (show V.int st.lost = V.int t.mo by rw [h2])]
          rw [decide_eq_true (.inr ⟨h1, h2⟩)] at k
          exact iteT k
        · rw [decide_eq_false (show ¬ V.int st.lost = V.int t.mo from fun z => h2 (by injection z))]
          exact iteF ⟨rfl, rfl, fun z => h2 z.2⟩
      · rw [decide_eq_false h1]
        exact iteF (iteF ⟨rfl, rfl, fun z => h1 z.1⟩)
    rintro σ H3 ⟨rfl, rfl, hn⟩
    refine ⟨_, rfl, _, rfl, x, _, dx, _, _, rfl, hx, T.cl_Ladder, T.nA_Ladder_count, rfl, rfl, ?_⟩
    rw [show decide (V.int (i : Int) = V.int t.sz) = decide ((i : Int) = t.sz ∨ (0 < t.mo ∧ st.lost = t.mo)) by rw [Bool.eq_iff_iff]; simp [hn]]
    exact k
theorem ok_question_of (T : Txt K mg a) : FnOk P w K mg base CX0 1 a.f_question_of a.d_question_of P_question_of spQuest := by
  refine T.F_question_of.ok sc_question_of (fun vs H Q E h => ?_) (fun cdv A outer s H vs Q E hr h => ?_)
  · obtain ⟨p, t, i, st, rfl, _⟩ := h
    rfl
  · obtain ⟨p, t, i, st, rfl, ht, ⟨ak, hp, hak⟩, I, k⟩ := h
    refine ⟨_, (Evl.pss_cut (ps_par (i := 1) (j := 2) (by rfl) sc_question_of.nd rfl rfl (by decide) rfl rfl (pa_cons (pe_ix ix_tup (pv 0) pe_int (by intro _ _; rfl)) (pa_cons (pe_ix ix_tup (pv 0) pe_int (by intro _ _; rfl)) pa_nil)) (by rfl))
  (pss_one (ps_ret (pe_op op_add (pe_op op_mul (pe_op op_sub (pv 1) pe_int) (pe_glob (v := .int 8) (by rfl) T.g_QUESTIONS_OF_A_LEVEL ⟨_, rfl⟩)) (pe_ix ix_tup (pv 2) (pe_op op_sub (pv 1) pe_int) (by intro _ _; rfl)))))), ?_⟩
    have hg := I.get ht
    have hl := I.lv
    have hh := ht.1
    obtain ⟨n, hn⟩ := Int.eq_ofNat_of_zero_le (show 0 ≤ st.lv - 1 by omega)
    refine ⟨fun σ H1 => σ = [some (.ref p), some (.int st.lv), some (.ref ak)] ∧ H1 = H, ?_, ?_⟩
    · exact ⟨_, rfl, p, _, 0, _, rfl, rfl, tup_of hp, atI0, _, rfl, p, _, 3, _, rfl, rfl, tup_of hp, atI3, _, _, rfl, rfl, rfl⟩
    rintro σ H1 ⟨rfl, rfl⟩
    have hat : atI ((st.as.take t.h.toNat).map V.int) (st.lv - 1) = some (.int st.at_) := by
      rw [hn]
      refine at_tup (j := n) ?_
      rw [List.getElem?_map, List.getElem?_take, if_pos (by omega), show n = (st.lv - 1).toNat by omega, hg.1]
      rfl
    exact ⟨_, rfl, _, _, rfl, rfl, _, _, rfl, rfl, cmul_lv (by omega) (by omega), _, rfl, _, rfl, _, _, rfl, rfl, ak, _, _, _, rfl, rfl, tup_of hak, hat, _, _, rfl, rfl, k⟩
theorem behind_at {H : Hp} {p ak : Addr} {t : Lad} {i : Nat} {st s' : LSt} {v0 v1 v2 v4 : V} (hp : H p = some (.tup [v0, v1, v2, .ref ak, v4])) (hak : H ak = some (.tup ((st.asked.take t.h.toNat).map V.int))) (e0 : v0 = .int s'.lv) (e1 : v1 = .int s'.ups) (e2 : v2 = .int s'.dns) (e3 : s'.as = st.asked) (e4 : v4 = .int (((i + 1 : Nat) : Int) - s'.lost)) : LStAt H p t (i + 1) s' :=
  ⟨ak, by rw [hp, e0, e1, e2, e4], by rw [hak, e3]⟩
theorem ok_state_behind (T : Txt K mg a) : FnOk P w K mg base CX0 1 a.f_state_behind a.d_state_behind P_state_behind (spLBehind a.c_Ladder) := by
  refine T.F_state_behind.ok sc_state_behind (fun vs H Q E h => ?_) (fun cdv A outer s H vs Q E hr h => ?_)
  · obtain ⟨x, p, t, i, st, a', rfl, _⟩ := h
    rfl
  · obtain ⟨x, p, t, i, st, a', rfl, ht, ⟨dx, hx⟩, ⟨ak, hp, hak⟩, I, ha', k⟩ := h
    refine ⟨_, (Evl.pss_cut (ps_asg (pv 1) (pg_tup rfl (pgs_cons (pg_name (i := 3) sc_state_behind.nd rfl (Or.inl rfl)) (pgs_cons (pg_name (i := 4) sc_state_behind.nd rfl (Or.inl rfl)) (pgs_cons (pg_name (i := 5) sc_state_behind.nd rfl (Or.inl rfl)) (pgs_cons (pg_name (i := 6) sc_state_behind.nd rfl (Or.inl rfl)) (pgs_cons (pg_name (i := 7) sc_state_behind.nd rfl (Or.inl rfl)) pgs_nil)))))))
  (Evl.pss_cut (ps_set (i := 6) sc_state_behind.nd rfl (Or.inl rfl) (pe_op op_catA (pe_op op_catA (pe_slice sl_tupA (pv 6) po_none (po_some (pe_op op_sub (pv 3) pe_int))) (pe_tup (pa_cons (pe_op op_add (pe_ix ix_tup (pv 6) (pe_op op_sub (pv 3) pe_int) (by intro _ _; rfl)) pe_int) pa_nil))) (pe_slice sl_tupA (pv 6) (po_some (pv 3)) po_none)))
  (Evl.pss_cut (ps_if (PW.pt (pw_and (pt_cmpR op_eq (pv 2) pe_int (nomark _)) (pw_and1 (pt_cmpR op_eq (pe_op op_add (pv 4) pe_int) (pe_fld (pv 0) (by rfl)) (nomark _)))))
    (pss_one (ps_ret (pe_tup (pa_cons (pe_ifExp (pt_cmpR op_lt (pv 3) (pe_fld (pv 0) (by rfl)) (nomark _)) (pe_op op_add (pv 3) pe_int) (pv 3)) (pa_cons pe_int (pa_cons pe_int (pa_cons (pv 6) (pa_cons (pe_op op_add (pv 7) pe_int) pa_nil))))))))
    pss_nil)
  (Evl.pss_cut (ps_if (pt_cmpR op_eq (pv 2) pe_int (nomark _))
    (pss_one (ps_ret (pe_tup (pa_cons (pv 3) (pa_cons (pe_op op_add (pv 4) pe_int) (pa_cons pe_int (pa_cons (pv 6) (pa_cons (pe_op op_add (pv 7) pe_int) pa_nil))))))))
    pss_nil)
  (Evl.pss_cut (ps_if (pt_cmpR op_eq (pe_op op_add (pv 5) pe_int) (pe_fld (pv 0) (by rfl)) (nomark _))
    (pss_one (ps_ret (pe_tup (pa_cons (pe_ifExp (pt_cmpR op_gt (pv 3) pe_int (nomark _)) (pe_op op_sub (pv 3) pe_int) (pv 3)) (pa_cons pe_int (pa_cons pe_int (pa_cons (pv 6) (pa_cons (pv 7) pa_nil))))))))
    pss_nil)
  (pss_one (ps_ret (pe_tup (pa_cons (pv 3) (pa_cons pe_int (pa_cons (pe_op op_add (pv 5) pe_int) (pa_cons (pv 6) (pa_cons (pv 7) pa_nil))))))))))))), ?_⟩
    have hg := I.get ht
    have hl := I.lv
    have hh := ht.1
    obtain ⟨n, hn⟩ := Int.eq_ofNat_of_zero_le (show 0 ≤ st.lv - 1 by omega)
    have hn1 : st.lv = ((n + 1 : Nat) : Int) := by omega
    have hnn : (st.lv - 1).toNat = n := by omega
    rw [hnn] at hg
    have hlen : (st.as.take t.h.toNat).length = t.h.toNat := by rw [List.length_take, I.len]; omega
    have hat : atI ((st.as.take t.h.toNat).map V.int) (st.lv - 1) = some (.int st.at_) := by
      rw [hn]
      refine at_tup (j := n) ?_
      rw [List.getElem?_map, List.getElem?_take, if_pos (by omega), hg.1]
      rfl
    refine ⟨fun σ H1 => σ = [some (.ref x), some (.ref p), some (.int a'), some (.int st.lv), some (.int st.ups), some (.int st.dns), some (.ref ak), some (.int ((i : Int) - st.lost))] ∧ H1 = H, ?_, ?_⟩
    · exact ⟨_, rfl, p, _, rfl, tup_of hp, rfl, _, _, rfl, _, _, rfl, _, _, rfl, _, _, rfl, _, _, rfl, rfl, rfl, rfl⟩
    rintro σ H1 ⟨rfl, rfl⟩
    -- asked once more
    refine ⟨fun σ H2 => ∃ bk, σ = [some (.ref x), some (.ref p), some (.int a'), some (.int st.lv), some (.int st.ups), some (.int st.dns), some (.ref bk), some (.int ((i : Int) - st.lost))] ∧ Same H1 H2 ∧ H2 bk = some (.tup ((st.asked.take t.h.toNat).map V.int)), ?_, ?_⟩
    · refine ⟨_, rfl, noP ⟨_, rfl, _, _, rfl, rfl, _, rfl, ?_⟩⟩
      rw [hn]
      refine slA_toV hak fun H2 r1 f2 hr1 => ?_
      refine ⟨_, rfl, _, rfl, _, _, rfl, rfl, ak, _, _, _, rfl, rfl, tup_of (f2 _ _ hak), hat, _, _, rfl, rfl, by show 1 ≤ sizeLine; decide, fun r2 n2 => ?_⟩
      have f3 := same_upd n2 (o := .tup [V.int (st.at_ + 1)])
      refine catA_any (f3 _ _ hr1) upd_same ?_ fun H4 r3 f4 hr3 => ?_
      · rw [List.length_take, List.length_map, hlen]
        show _ + 1 ≤ sizeLine
        rw [sizeLine_eq]
        omega
      refine ⟨_, rfl, _, rfl, _, rfl, noP ?_⟩
      rw [hn1]
      refine slA_from (((f2.trans f3).trans f4) _ _ hak) fun H5 r4 f5 hr4 => ?_
      refine catA_any (f5 _ _ hr3) hr4 ?_ fun H6 r5 f6 hr5 => ⟨r5, rfl, (((f2.trans f3).trans f4).trans f5).trans f6, ?_⟩
      · rw [List.length_append, List.length_take, List.length_drop, List.length_map, hlen]
        show _ + 1 + _ ≤ sizeLine
        rw [sizeLine_eq]
        omega
      rw [hr5, show ([V.int (st.at_ + 1)] : List V) = [V.int (st.at_ + 1)] from rfl, set_cut (by rw [List.length_map, hlen]; exact hg.2)]
      unfold LSt.asked
      rw [hnn, List.take_set, List.map_set]
    rintro σ H2 ⟨bk, rfl, f2, hbk⟩
    have hx2 := f2 _ _ hx
    have alloc : ∀ {H' : Hp} {p' : Addr} {v0 v1 v2 v4 : V} {s' : LSt}, Same H2 H' → H' p' = none → s' = ladStep t st a' → v0 = .int s'.lv → v1 = .int s'.ups → v2 = .int s'.dns → v4 = .int (((i + 1 : Nat) : Int) - s'.lost) → s'.as = st.asked → Q (.ref p') (upd H' p' (.tup [v0, v1, v2, .ref bk, v4])) := fun {H' p' v0 v1 v2 v4 s'} f np es e0 e1 e2 e4 e3 => by
      subst es
      exact k _ p' ((f2.trans f).trans (same_upd np)) (behind_at upd_same ((same_upd np) _ _ (f _ _ hbk)) e0 e1 e2 e3 e4)
    have e1 : ladStep t st 1 = if st.ups + 1 = t.up then ⟨if st.lv < t.h then st.lv + 1 else st.lv, 0, 0, st.asked, st.lost⟩ else ⟨st.lv, st.ups + 1, 0, st.asked, st.lost⟩ := if_pos rfl
    have e0 : ladStep t st 0 = if st.dns + 1 = t.dn then ⟨if 1 < st.lv then st.lv - 1 else st.lv, 0, 0, st.asked, st.lost + 1⟩ else ⟨st.lv, 0, st.dns + 1, st.asked, st.lost + 1⟩ := if_neg (by decide)
    -- up
    refine ⟨fun σ H3 => σ = [some (.ref x), some (.ref p), some (.int a'), some (.int st.lv), some (.int st.ups), some (.int st.dns), some (.ref bk), some (.int ((i : Int) - st.lost))] ∧ H3 = H2 ∧ ¬ (a' = 1 ∧ st.ups + 1 = t.up), ?_, ?_⟩
    · refine ⟨_, rfl, rfl, _, rfl, ?_⟩
      rcases ha' with rfl | rfl
      · rw [decide_eq_false (show ¬ V.int 0 = V.int 1 from fun z => by cases z)]
        exact iteF (iteF ⟨rfl, rfl, fun z => by omega⟩)
      rw [decide_eq_true rfl]
      refine iteT ⟨_, rfl, _, _, rfl, rfl, _, rfl, x, _, dx, _, _, rfl, hx2, T.cl_Ladder, T.nA_Ladder_up, rfl, rfl, _, rfl, ?_⟩
      by_cases hu : st.ups + 1 = t.up
      · rw [decide_eq_true (show V.int (st.ups + 1) = V.int t.up by rw [hu])]
        rw [if_pos hu] at e1
        refine iteT ⟨_, rfl, _, rfl, x, _, dx, _, _, rfl, hx2, T.cl_Ladder, T.nA_Ladder_levels, rfl, _, _, rfl, rfl, _, rfl, ?_⟩
        by_cases hlv : st.lv < t.h
        · rw [decide_eq_true hlv]
          rw [if_pos hlv] at e1
          exact iteT ⟨_, rfl, _, _, rfl, rfl, _, rfl, _, rfl, _, _, rfl, rfl, by show 5 ≤ sizeLine; decide, fun p' np => alloc (Same.refl _) np e1.symm rfl rfl rfl (congrArg V.int (show (i : Int) - st.lost + 1 = ((i + 1 : Nat) : Int) - st.lost by omega)) rfl⟩
        · rw [decide_eq_false hlv]
          rw [if_neg hlv] at e1
          exact iteF ⟨_, rfl, _, rfl, _, rfl, _, _, rfl, rfl, by show 5 ≤ sizeLine; decide, fun p' np => alloc (Same.refl _) np e1.symm rfl rfl rfl (congrArg V.int (show (i : Int) - st.lost + 1 = ((i + 1 : Nat) : Int) - st.lost by omega)) rfl⟩
      · rw [decide_eq_false (show ¬ V.int (st.ups + 1) = V.int t.up from fun z => hu (by injection z))]
        exact iteF ⟨rfl, rfl, fun z => hu z.2⟩
    rintro σ H3 ⟨rfl, rfl, hn1'⟩
    refine ⟨fun σ H4 => σ = [some (.ref x), some (.ref p), some (.int a'), some (.int st.lv), some (.int st.ups), some (.int st.dns), some (.ref bk), some (.int ((i : Int) - st.lost))] ∧ H4 = H3 ∧ a' = 0, ?_, ?_⟩
    · refine ⟨_, rfl, rfl, _, rfl, ?_⟩
      rcases ha' with rfl | rfl
      · rw [decide_eq_false (show ¬ V.int 0 = V.int 1 from fun z => by cases z)]
        exact iteF ⟨rfl, rfl, rfl⟩
      rw [decide_eq_true rfl]
      rw [if_neg (fun z => hn1' ⟨rfl, z⟩)] at e1
      exact iteT ⟨_, rfl, _, rfl, _, _, rfl, rfl, _, rfl, _, rfl, _, _, rfl, rfl, by show 5 ≤ sizeLine; decide, fun p' np => alloc (Same.refl _) np e1.symm rfl rfl rfl (congrArg V.int (show (i : Int) - st.lost + 1 = ((i + 1 : Nat) : Int) - st.lost by omega)) rfl⟩
    rintro σ H4 ⟨rfl, rfl, ha0⟩
    refine ⟨fun σ H5 => σ = [some (.ref x), some (.ref p), some (.int a'), some (.int st.lv), some (.int st.ups), some (.int st.dns), some (.ref bk), some (.int ((i : Int) - st.lost))] ∧ H5 = H4 ∧ ¬ st.dns + 1 = t.dn, ?_, ?_⟩
    · refine ⟨_, rfl, _, _, rfl, rfl, _, rfl, x, _, dx, _, _, rfl, hx2, T.cl_Ladder, T.nA_Ladder_down, rfl, rfl, _, rfl, ?_⟩
      by_cases hd : st.dns + 1 = t.dn
      · rw [decide_eq_true (show V.int (st.dns + 1) = V.int t.dn by rw [hd])]
        rw [if_pos hd] at e0
        refine iteT ⟨_, rfl, _, _, rfl, rfl, _, rfl, ?_⟩
        by_cases hlv : 1 < st.lv
        · rw [decide_eq_true hlv]
          rw [if_pos hlv] at e0
          exact iteT ⟨_, rfl, _, _, rfl, rfl, _, rfl, _, rfl, by show 5 ≤ sizeLine; decide, fun p' np => alloc (Same.refl _) np (e0.symm.trans (congrArg (ladStep t st) ha0.symm)) rfl rfl rfl (congrArg V.int (show (i : Int) - st.lost = ((i + 1 : Nat) : Int) - (st.lost + 1) by omega)) rfl⟩
        · rw [decide_eq_false hlv]
          rw [if_neg hlv] at e0
          exact iteF ⟨_, rfl, _, rfl, _, rfl, by show 5 ≤ sizeLine; decide, fun p' np => alloc (Same.refl _) np (e0.symm.trans (congrArg (ladStep t st) ha0.symm)) rfl rfl rfl (congrArg V.int (show (i : Int) - st.lost = ((i + 1 : Nat) : Int) - (st.lost + 1) by omega)) rfl⟩
      · rw [decide_eq_false (show ¬ V.int (st.dns + 1) = V.int t.dn from fun z => hd (by injection z))]
        exact iteF ⟨rfl, rfl, hd⟩
    rintro σ H5 ⟨rfl, rfl, hd⟩
    rw [if_neg hd] at e0
    exact ⟨_, rfl, _, rfl, _, _, rfl, rfl, _, rfl, _, rfl, by show 5 ≤ sizeLine; decide, fun p' np => alloc (Same.refl _) np (e0.symm.trans (congrArg (ladStep t st) ha0.symm)) rfl rfl rfl (congrArg V.int (show (i : Int) - st.lost = ((i + 1 : Nat) : Int) - (st.lost + 1) by omega)) rfl⟩
end
end K14

namespace K14
open PySem PySem.Spec PyProof.Rows L2 Gg TL
section
variable {P : Program} {w : World} {K : PySem.W.Frag} {mg : Str → Option Value} {base : Heap} {a : Ad}
theorem ok_ladder_run (T : Txt K mg a) : FnOk P w K mg base CX0 3 a.f_ladder_run a.d_ladder_run P_ladder_run (spLadRun a.c_Ladder a.c_Pupil) := by
  refine T.F_ladder_run.ok sc_ladder_run (fun vs H Q E h => ?_) (fun cdv A outer s H vs Q E hr h => ?_)
  · obtain ⟨x, y, t, l, rfl, _⟩ := h
    rfl
  · obtain ⟨x, y, t, l, rfl, ht, hx, hy, k⟩ := h
    refine ⟨_, (Evl.pss_cut (ps_set (i := 2) sc_ladder_run.nd rfl (Or.inl rfl) (pe_lst pa_nil))
  (Evl.pss_cut (ps_set (i := 3) sc_ladder_run.nd rfl (Or.inl rfl) (pe_call (ok_first_state T) (hr.mono (by decide)) (by rfl) T.g_first_state T.k_first_state T.b_first_state .nil pass0 (pa_cons (pv 0) pa_nil)))
  (Evl.pss_cut (ps_while PassesOwn.never (pt_not (pt_val (pe_call (ok_has_ended T) (hr.mono (by decide)) (by rfl) T.g_has_ended T.k_has_ended T.b_has_ended .nil pass0 (pa_cons (pv 0) (pa_cons (pv 3) pa_nil)))))
    (Evl.pss_cut (ps_set (i := 4) sc_ladder_run.nd rfl (Or.inl rfl) (pe_call (ok_question_of T) (hr.mono (by decide)) (by rfl) T.g_question_of T.k_question_of T.b_question_of .nil pass0 (pa_cons (pv 3) pa_nil)))
  (Evl.pss_cut (ps_set (i := 5) sc_ladder_run.nd rfl (Or.inl rfl) (pe_ifExp (pt_cmpR (in_own (ok_Pupil_contains T) (hr.mono (by decide)) T.s_Pupil_contains T.i_Pupil_contains T.b_Pupil_contains pass0) (pv 4) (pv 1) (by with_unfolding_all rfl)) pe_int pe_int))
  (Evl.pss_cut (ps_expr (pe_bm PySem.F.plainAttrs_list PySem.F.slot_list_append PySem.F.type_list_append mt_append (pv 2) (pa_cons (pe_tup (pa_cons (pv 4) (pa_cons (pv 5) pa_nil))) pa_nil)))
  (pss_one (ps_set (i := 3) sc_ladder_run.nd rfl (Or.inl rfl) (pe_call (ok_state_behind T) (hr.mono (by decide)) (by rfl) T.g_state_behind T.k_state_behind T.b_state_behind .nil pass0 (pa_cons (pv 0) (pa_cons (pv 3) (pa_cons (pv 5) pa_nil))))))))))
  (pss_one (ps_ret (pe_callTy call_tuple_of (by rfl) T.z_tuple (by decide +kernel) (pa_cons (pv 2) pa_nil))))))), ?_⟩
    obtain ⟨ans, hans⟩ : ∃ ans : Int → Nat → Int, ans = fun q _ => if q ∈ norm l then 1 else 0 := ⟨_, rfl⟩
    have hA : ∀ q i, ans q i = 0 ∨ ans q i = 1 := fun q i => by rw [hans]; dsimp only; split <;> omega
    rw [← hans] at k
    have hsz := ht.2.2.2.2.1
    refine ⟨fun σ H1 => ∃ D, σ = [some (.ref x), some (.ref y), some (.ref D), none, none, none] ∧ H D = none ∧ H1 = upd H D (.lst []), ?_, ?_⟩
    · exact ⟨by show 0 ≤ sizeLine; decide, fun D nD => ⟨D, rfl, nD, rfl⟩⟩
    rintro σ H1 ⟨D, rfl, nD, rfl⟩
    have f1 := same_upd nD (o := .lst [])
    refine ⟨fun σ H2 => ∃ p, σ = [some (.ref x), some (.ref y), some (.ref D), some (.ref p), none, none] ∧ Same (upd H D (.lst [])) H2 ∧ LStAt H2 p t 0 (lad0 t), ?_, ?_⟩
    · exact ⟨_, rfl, x, t, rfl, hx.same f1, ht, fun H2 p f2 hp => ⟨p, rfl, f2, hp⟩⟩
    rintro σ H2 ⟨p0, rfl, f2, hp0⟩
    have keep : ∀ {H' : Hp}, (∀ b u, b ≠ D → H b = some u → H' b = some u) → Same H H' := fun {H'} g b u eb => g b u (ne_of_none eb nD) eb
    refine ⟨fun σ H3 => ∃ v3 v4 v5 as rows, σ = [some (.ref x), some (.ref y), some (.ref D), v3, v4, v5] ∧ Same H H3 ∧ H3 D = some (.lst (as.map V.ref)) ∧ RowsAt H3 as rows ∧ LadRun t ans rows, ?_, ?_⟩
    · refine ⟨fun m σ H3 => ∃ (i : Nat) (p : Addr) (v4 v5 : Option V) (as : List Addr), m + i = t.sz.toNat ∧ σ = [some (.ref x), some (.ref y), some (.ref D), some (.ref p), v4, v5] ∧ (∀ b u, b ≠ D → H b = some u → H3 b = some u) ∧ H3 D = some (.lst (as.map V.ref)) ∧ RowsAt H3 as (ladL t ans i) ∧ LStAt H3 p t i (ladS t ans i) ∧ ∀ i', i' < i → ¬ ladStop t ans i', ⟨t.sz.toNat, 0, p0, _, _, [], rfl, rfl, fun b u nb eb => f2 _ _ (f1 _ _ eb), f2 _ _ upd_same, RowsAt.nil, hp0, fun i' h => absurd h (Nat.not_lt_zero _)⟩, ?_⟩
      rintro m σ H3 ⟨i, p, v4, v5, as, hm, rfl, f3, hD, hR, hp, hno⟩
      have I := ladS_inv ht hA i
      have hsame := keep f3
      have hal : as.length = i := by rw [hR.1, ladL_len]
      refine ⟨_, rfl, _, rfl, x, p, t, i, _, rfl, hx.same hsame, hp, I, _, rfl, ?_⟩
      by_cases hs : (i : Int) = t.sz ∨ (0 < t.mo ∧ (ladS t ans i).lost = t.mo)
      · rw [decide_eq_true hs]
        exact ⟨_, _, _, as, _, rfl, hsame, hD, hR, i, by omega, hno, hs, rfl⟩
      rw [decide_eq_false hs]
      have hi : (i : Int) < t.sz := by omega
      have hq := I.q ht hi
      refine ⟨fun σ H9 => ∃ (p : Addr) (v4 v5 : Option V) (as : List Addr), σ = [some (.ref x), some (.ref y), some (.ref D), some (.ref p), v4, v5] ∧ (∀ b u, b ≠ D → H b = some u → H9 b = some u) ∧ H9 D = some (.lst (as.map V.ref)) ∧ RowsAt H9 as (ladL t ans (i + 1)) ∧ LStAt H9 p t (i + 1) (ladS t ans (i + 1)), fun σ' H' ⟨p, v4, v5, as, e, a1, a2, a3, a4⟩ => ⟨m - 1, by omega, i + 1, p, v4, v5, as, by omega, e, a1, a2, a3, a4, fun i' h => ?_⟩, ?_⟩
      · rcases Nat.lt_or_ge i' i with h' | h'
        · exact hno i' h'
        · rw [show i' = i by omega]
          exact hs
      refine ⟨fun σ H4 => σ = [some (.ref x), some (.ref y), some (.ref D), some (.ref p), some (.int (ladQ (ladS t ans i))), v5] ∧ H4 = H3, ?_, ?_⟩
      · exact ⟨_, rfl, p, t, i, _, rfl, ht, hp, I, rfl, rfl⟩
      rintro σ H4 ⟨rfl, rfl⟩
      refine ⟨fun σ H5 => σ = [some (.ref x), some (.ref y), some (.ref D), some (.ref p), some (.int (ladQ (ladS t ans i))), some (.int (ladA t ans i))] ∧ H5 = H4, ?_, ?_⟩
      · refine ⟨_, rfl, _, rfl, own_has (neg := false) (hy.same hsame) ⟨_, rfl, ?_⟩⟩
        have ea : ladA t ans i = if ladQ (ladS t ans i) ∈ norm l then 1 else 0 := by unfold ladA; rw [hans]
        rw [ea]
        by_cases hin : ladQ (ladS t ans i) ∈ norm l
        · rw [decide_eq_true hin, if_pos hin]
          exact iteT ⟨rfl, rfl⟩
        · rw [decide_eq_false hin, if_neg hin]
          exact iteF ⟨rfl, rfl⟩
      rintro σ H5 ⟨rfl, rfl⟩
      refine ⟨fun σ H6 => ∃ as', σ = [some (.ref x), some (.ref y), some (.ref D), some (.ref p), some (.int (ladQ (ladS t ans i))), some (.int (ladA t ans i))] ∧ (∀ b u, b ≠ D → H5 b = some u → H6 b = some u) ∧ H6 D = some (.lst (as'.map V.ref)) ∧ RowsAt H6 as' (ladL t ans (i + 1)), ?_, ?_⟩
      · refine ⟨_, rfl, .inl ⟨rfl, _, lst_of hD⟩, _, rfl, _, rfl, by show 2 ≤ sizeLine; decide, fun r nr => ?_⟩
        have fr := same_upd nr (o := .tup [V.int (ladQ (ladS t ans i)), .int (ladA t ans i)])
        have nrD : r ≠ D := (ne_of_none hD nr).symm
        refine ⟨D, _, _, rfl, rfl, fr _ _ hD, by rw [List.length_map, sizeLine_eq]; omega, as ++ [r], rfl, fun b u nb eb => by rw [upd_ne nb]; exact fr _ _ eb, by rw [upd_same, List.map_append]; rfl, ?_⟩
        rw [ladL_succ]
        exact RowsAt.snoc ((hR.same fr).upd_lst (fr _ _ hD)) (by rw [upd_ne nrD, upd_same]; rfl)
      rintro σ H6 ⟨as', rfl, f6, hD6, hR6⟩
      have hst6 : LStAt H6 p t i (ladS t ans i) := by
        obtain ⟨ak, h1, h2⟩ := hp
        exact ⟨ak, f6 _ _ (ne_of h1 hD (by intro z; cases z)) h1, f6 _ _ (ne_of h2 hD (by intro z; cases z)) h2⟩
      have f36 : ∀ b u, b ≠ D → H b = some u → H6 b = some u := fun b u nb eb => f6 b u nb (f3 b u nb eb)
      exact ⟨_, rfl, _, rfl, _, rfl, x, p, t, i, _, _, rfl, ht, hx.same (keep f36), hst6, I, hA _ _, fun H7 p' f7 hp' => ⟨p', _, _, as', rfl, fun b u nb eb => f7 _ _ (f36 b u nb eb), f7 _ _ hD6, hR6.same f7, hp'⟩⟩
    rintro σ H3 ⟨v3, v4, v5, as, rows, rfl, f3, hD, hR, hrun⟩
    exact ⟨_, rfl, D, _, rfl, .inl ⟨lst_of hD, fun r nr => k _ r as rows (f3.trans (same_upd nr)) upd_same (hR.same (same_upd nr)) hrun⟩⟩
end
end K14

namespace L2
open PySem PySem.Spec PyProof.Rows
/-! ## pupils in webs, and the final states of the relation same -/
/-- a pupil's way to an end -/
inductive WayP (rows : List (List Int)) (P : Int → Bool) : Int → Int → Prop
  | fin {z : Int} : z < 0 → WayP rows P z z
  | step {z e : Int} : 0 ≤ z → WayP rows P (tRow (rowP rows z) (if P (qP rows z) = true then 1 else 0)) e → WayP rows P z e
theorem WayP.one {rows : List (List Int)} {P : Int → Bool} {z e e' : Int} (h : WayP rows P z e) (h' : WayP rows P z e') : e = e' := by
  induction h with
  | fin h0 =>
    cases h' with
    | fin _ => rfl
    | step h1 _ => omega
  | step h0 _ ih =>
    cases h' with
    | fin h1 => omega
    | step _ h2 => exact ih h2
theorem WayP.inv {rows : List (List Int)} {P : Int → Bool} {z e : Int} (h : WayP rows P z e) (h0 : 0 ≤ z) : WayP rows P (tRow (rowP rows z) (if P (qP rows z) = true then 1 else 0)) e := by
  cases h with
  | fin k => omega
  | step _ k => exact k
theorem WayP.congr {rows : List (List Int)} {P P' : Int → Bool} {e o : Int} (G : GoodW rows e o) (hP : ∀ (i : Nat) q r, rows[i]? = some (q :: r) → P q = P' q) {z y : Int} (h : WayP rows P z y) : z < rows.length → WayP rows P' z y := by
  induction h with
  | fin h0 => exact fun _ => .fin h0
  | @step z y h0 _ ih =>
    intro hz
    obtain ⟨q, t1, t2, r, hr1, hr2, _, _, a1, a2⟩ := row3 G h0 hz
    have hq : qP rows z = q := by unfold qP; rw [hr1]; rfl
    have e : P (qP rows z) = P' (qP rows z) := by rw [hq]; exact hP _ q (t1 :: t2 :: r) (by rw [hr2, hr1])
    rw [e] at ih
    refine .step h0 (ih ?_)
    rcases tgt_01 hr1 (if P' (qP rows z) = true then 1 else 0) with e | e
    · rw [e]; exact a1.2.1
    · rw [e]; exact a2.2.1
theorem ask_own {rows : List (List Int)} {e o z : Int} (G : GoodW rows e o) (h0 : 0 ≤ z) (h1 : z < rows.length) : AskP rows z (qP rows z) := by
  obtain ⟨q, t1, t2, r, hr1, hr2, _⟩ := row3 G h0 h1
  refine ⟨z.toNat, t1 :: t2 :: r, ?_, ?_⟩
  · rw [show ((z.toNat : Nat) : Int) = z by omega]; exact .refl
  · rw [hr2, hr1]
    have : qP rows z = q := by unfold qP; rw [hr1]; rfl
    rw [this]
theorem ask_tgt {rows : List (List Int)} {e o z a t : Int} (G : GoodW rows e o) (h0 : 0 ≤ z) (h1 : z < rows.length) (h : AskP rows (tRow (rowP rows z) a) t) : AskP rows z t := by
  obtain ⟨q, t1, t2, r, hr1, hr2, _⟩ := row3 G h0 h1
  have hz : ((z.toNat : Nat) : Int) = z := by omega
  rw [← hz]
  refine (AskP.node (j := z.toNat) (by rw [hr2, hr1])).mpr ?_
  rcases tgt_01 hr1 a with e | e
  · rw [e] at h; exact .inr (.inl h)
  · rw [e] at h; exact .inr (.inr h)
theorem ask_not {rows : List (List Int)} {e o z a : Int} (G : GoodW rows e o) (h0 : 0 ≤ z) (h1 : z < rows.length) : ¬ AskP rows (tRow (rowP rows z) a) (qP rows z) := by
  intro h
  obtain ⟨q, t1, t2, r, hr1, hr2, _⟩ := row3 G h0 h1
  have hq : qP rows z = q := by unfold qP; rw [hr1]; rfl
  obtain ⟨A, hA⟩ := G.cert
  obtain ⟨c1, c2⟩ := hA z.toNat q (t1 :: t2 :: r) (by rw [hr2, hr1])
  obtain ⟨i, r', hl, hi⟩ := h
  rw [hq] at hi
  generalize ht : tRow (rowP rows z) a = t at hl
  have htm : t ∈ t1 :: t2 :: r := by
    rcases tgt_01 hr1 a with e | e
    · rw [← ht, e]; simp
    · rw [← ht, e]; simp
  have hS : ∀ j : Int, Led rows t j → 0 ≤ j → 0 ≤ t ∧ ∀ x, A j.toNat x → A t.toNat x := by
    intro j hj
    induction hj with
    | refl => exact fun h0 => ⟨h0, fun x hx => hx⟩
    | @step j u q' a' b' r'' _ hj0 hjr hu ih =>
      intro hu0
      obtain ⟨k1, k2⟩ := ih hj0
      refine ⟨k1, fun x hx => k2 x ?_⟩
      have := (hA j.toNat q' (a' :: b' :: r'') hjr).2 u (by rcases hu with e | e <;> rw [e] <;> simp) hu0
      exact this.2 x hx
  obtain ⟨k1, k2⟩ := hS i hl (Int.natCast_nonneg i)
  have := k2 q (by rw [Int.toNat_natCast]; exact (hA i q r' hi).1)
  exact (c2 t htm k1).1 this
/-! what is told -/
theorem frc_told {ans : List Int} {w : Nat} {c : Int} (h : frcJ true ans w = some c) : c ∈ ans ∧ c ≠ -1 := by
  unfold frcJ at h
  split at h
  · unfold frc0 at h
    rw [if_pos rfl] at h
    obtain ⟨h1, h2⟩ := List.mem_filter.mp (List.mem_of_head? h)
    exact ⟨h1, by simpa using h2⟩
  · cases h
theorem frc_some {ans : List Int} {w : Nat} {a : Int} (hw : ans[w]? = some (-1)) (ha : a ∈ ans) (hn : a ≠ -1) : ∃ c, frcJ true ans w = some c := by
  unfold frcJ
  rw [if_pos hw]
  unfold frc0
  rw [if_pos rfl]
  cases hf : ans.filter (fun a => a != -1) with
  | nil =>
    have k : a ∈ ans.filter (fun a => a != -1) := List.mem_filter.mpr ⟨ha, by simpa using hn⟩
    rw [hf] at k
    simp at k
  | cons c r => exact ⟨c, rfl⟩
theorem ans_told {mem : List JE} {q a : Int} {n : Nat} (h : a ∈ ansTo mem q n) (hn : a ≠ -1) : ∃ m ∈ mem, m.1 = q ∧ a ∈ m.2 := by
  unfold ansTo at h
  cases hf : mem.find? (fun m => m.1 == q) with
  | none =>
    rw [hf] at h
    exact absurd (List.eq_of_mem_replicate h) hn
  | some m =>
    rw [hf] at h
    exact ⟨m, List.mem_of_find?_eq_some hf, by simpa using List.find?_some hf, h⟩
theorem ans_of {mem : List JE} (hp : mem.Pairwise fun m n => m.1 < n.1) {m : JE} (hm : m ∈ mem) (n : Nat) : ansTo mem m.1 n = m.2 := by
  unfold ansTo
  cases hf : mem.find? (fun m' => m'.1 == m.1) with
  | none =>
    have := List.find?_eq_none.mp hf m hm
    simp at this
  | some m' =>
    have h1 := List.mem_of_find?_eq_some hf
    have h2 : m'.1 = m.1 := by simpa using List.find?_some hf
    have : m' = m := by
      obtain ⟨i, hi⟩ := List.getElem?_of_mem h1
      obtain ⟨j, hj⟩ := List.getElem?_of_mem hm
      obtain ⟨il, ei⟩ := List.getElem?_eq_some_iff.mp hi
      obtain ⟨jl, ej⟩ := List.getElem?_eq_some_iff.mp hj
      rw [List.pairwise_iff_getElem] at hp
      rcases Nat.lt_trichotomy i j with k | k | k
      · have := hp i j il jl k
        rw [ei, ej, h2] at this
        omega
      · subst k
        rw [← ei, ← ej]
      · have := hp j i jl il k
        rw [ei, ej, h2] at this
        omega
    rw [this]
    rfl
theorem rem_mem {mem : List JE} {q a : Int} {n w : Nat} {m : JE} : m ∈ remJ mem q n w a ↔ (m ∈ mem ∧ m.1 ≠ q) ∨ m = (q, (ansTo mem q n).set w a) := by
  unfold remJ
  simp only [List.mem_append, List.mem_filter, List.mem_singleton, decide_eq_true_eq]
  constructor
  · rintro ((⟨h1, h2⟩ | h) | ⟨h1, h2⟩)
    · exact .inl ⟨h1, by omega⟩
    · exact .inr h
    · exact .inl ⟨h1, by omega⟩
  · rintro (⟨h1, h2⟩ | h)
    · rcases Int.lt_or_gt_of_ne h2 with k | k
      · exact .inl (.inl ⟨h1, k⟩)
      · exact .inr ⟨h1, k⟩
    · exact .inl (.inr h)
theorem step_in {ws : List JW} {sm : Bool} {st : JS} {w : Nat} {a : Int} (ht : turnJ st.1 = some w) (ha : a ∈ ansJ ws sm st w) : (a, behJ ws sm st w a) ∈ stepsJ ws sm st := by
  unfold stepsJ
  rw [ht]
  exact List.mem_map.mpr ⟨a, ha, rfl⟩
/-! ### each pupil's ends are reached -/
def ans01 (b : Bool) : Int := if b = true then 1 else 0
def MemOk (P : Int → Bool) (st : JS) : Prop := ∀ m ∈ st.2, ∀ a ∈ m.2, a ≠ -1 → a = ans01 (P m.1)
theorem pupil_in {ws : List JW} {sts : List (List Int)} {P : Int → Bool} {e : Nat → Int} (hG : ∀ y ∈ ws, GoodW y.1 y.2.1 y.2.2) : ∀ (n : Nat) (st : JS), depJ ws st ≤ n → RcJ ws true sts st → StOk ws st → MemOk P st → (∀ w, w < ws.length → WayP (rowsJ ws w) P (posI st.1 w) (e w)) →
    ∃ st', RcJ ws true sts st' ∧ turnJ st'.1 = none ∧ st'.1.length = ws.length ∧ ∀ w, w < ws.length → posI st'.1 w = e w := by
  intro n
  induction n with
  | zero =>
    intro st hd hr ok hm hw
    cases ht : turnJ st.1 with
    | none =>
      refine ⟨st, hr, ht, ok.len, fun w hwl => ?_⟩
      have hn := fin_neg (ws := ws) ht (show w < st.1.length by rw [ok.len]; exact hwl)
      exact (WayP.fin hn).one (hw w hwl)
    | some w =>
      obtain ⟨hwl, h0⟩ := turn_at ok ht
      have := depJ_beh (sm := true) (a := 0) ok hG hwl h0
      omega
  | succ n ih =>
    intro st hd hr ok hm hw
    cases ht : turnJ st.1 with
    | none =>
      refine ⟨st, hr, ht, ok.len, fun w hwl => ?_⟩
      have hn := fin_neg (ws := ws) ht (show w < st.1.length by rw [ok.len]; exact hwl)
      exact (WayP.fin hn).one (hw w hwl)
    | some w =>
      obtain ⟨hwl, h0⟩ := turn_at ok ht
      generalize hq : qJ ws st.1 w = q
      have ha : ans01 (P q) ∈ ansJ ws true st w := by
        unfold ansJ
        rw [hq]
        cases hf : frcJ true (ansTo st.2 q st.1.length) w with
        | none =>
          show ans01 (P q) ∈ [0, 1]
          unfold ans01
          split <;> simp
        | some c =>
          show ans01 (P q) ∈ [c]
          obtain ⟨c1, c2⟩ := frc_told hf
          obtain ⟨m, m1, m2, m3⟩ := ans_told c1 c2
          have := hm m m1 c m3 c2
          rw [m2] at this
          rw [this]
          exact List.mem_singleton.mpr rfl
      have a01 : ans01 (P q) = 0 ∨ ans01 (P q) = 1 := by
        unfold ans01
        split
        · exact .inr rfl
        · exact .inl rfl
      refine ih (behJ ws true st w (ans01 (P q))) (by have := depJ_beh (sm := true) (a := ans01 (P q)) ok hG hwl h0; omega) (.step hr (step_in ht ha)) (behJ_ok ok hG hwl h0 a01) ?_ ?_
      · intro m hmm a hma han
        have hmm : m ∈ remJ st.2 (qJ ws st.1 w) st.1.length w (ans01 (P q)) := (List.mem_filter.mp hmm).1
        rw [hq] at hmm
        rcases rem_mem.mp hmm with ⟨k, _⟩ | rfl
        · exact hm m k a hma han
        · rcases List.mem_or_eq_of_mem_set hma with k | k
          · obtain ⟨m, m1, m2, m3⟩ := ans_told k han
            have := hm m m1 a m3 han
            rw [m2] at this
            exact this
          · exact k
      · intro u hu
        show WayP (rowsJ ws u) P (posI (movJ ws st.1 w (ans01 (P q))) u) (e u)
        by_cases eu : u = w
        · subst eu
          rw [posI_mov_eq (by rw [ok.len]; exact hwl)]
          have k := (hw u hu).inv h0
          have eq : qP (rowsJ ws u) (posI st.1 u) = q := hq
          rw [eq] at k
          exact k
        · rw [posI_mov_ne eu]
          exact hw u hu
/-! ### and nothing else -/
inductive PathP (rows : List (List Int)) (h : Int → Option Int) (z : Int) : Int → Prop
  | refl : PathP rows h z z
  | snoc {y b : Int} : PathP rows h z y → 0 ≤ y → h (qP rows y) = some b → (b = 0 ∨ b = 1) → PathP rows h z (tRow (rowP rows y) b)
theorem PathP.mono {rows : List (List Int)} {h h' : Int → Option Int} {z y : Int} (hh : ∀ q b, h q = some b → h' q = some b) (p : PathP rows h z y) : PathP rows h' z y := by
  induction p with
  | refl => exact .refl
  | snoc _ h0 h1 h2 ih => exact .snoc ih h0 (hh _ _ h1) h2
theorem PathP.way {rows : List (List Int)} {h : Int → Option Int} {z y e : Int} (p : PathP rows h z y) : WayP rows (fun q => decide (h q = some 1)) y e → WayP rows (fun q => decide (h q = some 1)) z e := by
  induction p with
  | refl => exact id
  | @snoc y b _ h0 h1 h2 ih =>
    intro k
    refine ih (.step h0 ?_)
    have : (if decide (h (qP rows y) = some 1) = true then (1 : Int) else 0) = b := by
      rw [h1]
      rcases h2 with rfl | rfl <;> simp
    rw [this]
    exact k
structure HistS (ws : List JW) (s : List Int) (st : JS) (h : Int → Option Int) : Prop where
  p : ∀ w, w < ws.length → PathP (rowsJ ws w) h (posI s w) (posI st.1 w)
  b : ∀ m ∈ st.2, ∀ a ∈ m.2, a ≠ -1 → h m.1 = some a
  c : ∀ q b w, h q = some b → w < ws.length → AskP (rowsJ ws w) (posI st.1 w) q → ∃ m ∈ st.2, m.1 = q ∧ ∃ a ∈ m.2, a ≠ -1
  d : ∀ m ∈ st.2, ∀ w, w < ws.length → AskP (rowsJ ws w) (posI st.1 w) m.1 → m.2[w]? = some (-1)
theorem rowsJ_of {ws : List JW} {w : Nat} (h : w < ws.length) : rowsJ ws w = (ws[w]).1 := by unfold rowsJ; rw [List.getElem?_eq_getElem h]; rfl
theorem HistS.step {ws : List JW} {s : List Int} {st : JS} {h : Int → Option Int} {w : Nat} {a : Int} (hG : ∀ y ∈ ws, GoodW y.1 y.2.1 y.2.2) (ok : StOk ws st) (hi : HistS ws s st h) (ht : turnJ st.1 = some w) (ha : a ∈ ansJ ws true st w) : HistS ws s (behJ ws true st w a) (fun q' => if q' = qJ ws st.1 w then some a else h q') ∧ ∀ b, h (qJ ws st.1 w) = some b → b = a := by
  obtain ⟨hwl, h0⟩ := turn_at ok ht
  have Gw := hG _ (List.getElem_mem hwl)
  have hrw := rowsJ_of hwl
  have hlt : posI st.1 w < (rowsJ ws w).length := by rw [hrw]; exact (ok.pos w _ (List.getElem?_eq_getElem hwl)).2
  have a01 := ansJ_01 ok _ ha
  generalize hq : qJ ws st.1 w = q at ha ⊢
  have hqP : qP (rowsJ ws w) (posI st.1 w) = q := hq
  have own : AskP (rowsJ ws w) (posI st.1 w) q := by rw [← hqP, hrw]; rw [hrw] at hlt; exact ask_own Gw h0 hlt
  have nown : ¬ AskP (rowsJ ws w) (posI (movJ ws st.1 w a) w) q := by
    rw [posI_mov_eq (by rw [ok.len]; exact hwl), ← hqP, hrw]
    rw [hrw] at hlt
    exact ask_not Gw h0 hlt
  have back : ∀ u t, u < ws.length → AskP (rowsJ ws u) (posI (movJ ws st.1 w a) u) t → AskP (rowsJ ws u) (posI st.1 u) t := fun u t hu hk => by
    by_cases e : u = w
    · subst e
      rw [posI_mov_eq (by rw [ok.len]; exact hwl)] at hk
      rw [hrw] at hk hlt ⊢
      exact ask_tgt Gw h0 hlt hk
    · rw [posI_mov_ne e] at hk; exact hk
  have hqs : qJ ws st.1 w = q := hq
  -- what was told forces the answer
  have old : ∀ b, h q = some b → b = a := fun b hb => by
    obtain ⟨m, m1, m2, c, c1, c2⟩ := hi.c q b w hb hwl own
    have hmw := hi.d m m1 w hwl (by rw [m2]; exact own)
    have ea : ansTo st.2 q st.1.length = m.2 := by rw [← m2]; exact ans_of ok.asc m1 _
    obtain ⟨c', hc'⟩ := frc_some hmw c1 c2
    obtain ⟨k1, k2⟩ := frc_told hc'
    have e1 := hi.b m m1 c' k1 k2
    rw [m2, hb] at e1
    unfold ansJ at ha
    rw [hqs, ea, hc'] at ha
    have ha : a ∈ [c'] := ha
    rw [List.mem_singleton.mp ha]
    exact Option.some.inj e1
  have toldq : ∀ c ∈ ansTo st.2 q st.1.length, c ≠ -1 → c = a := fun c hc hn => by
    obtain ⟨m, m1, m2, m3⟩ := ans_told hc hn
    have := hi.b m m1 c m3 hn
    rw [m2] at this
    exact old c this
  have ansl : (ansTo st.2 q st.1.length).length = ws.length := by rw [ansTo_len fun m hm => (ok.ent m hm).2.2.1.trans ok.len.symm, ok.len]
  -- nobody who can still be asked has answered
  have ansn : ∀ u, u < ws.length → AskP (rowsJ ws u) (posI st.1 u) q → (ansTo st.2 q st.1.length)[u]? = some (-1) := fun u hu hk => by
    unfold ansTo
    cases hf : st.2.find? (fun m => m.1 == q) with
    | none =>
      show (List.replicate st.1.length (-1))[u]? = some (-1)
      rw [List.getElem?_replicate, if_pos (by rw [ok.len]; exact hu)]
    | some m =>
      have h2 : m.1 = q := by simpa using List.find?_some hf
      exact hi.d m (List.mem_of_find?_eq_some hf) u hu (by rw [h2]; exact hk)
  have ext : ∀ q' b, h q' = some b → (if q' = q then some a else h q') = some b := fun q' b hb => by
    by_cases e : q' = q
    · subst e; rw [if_pos rfl, old b hb]
    · rw [if_neg e]; exact hb
  have wset : ((ansTo st.2 q st.1.length).set w a)[w]? = some a := List.getElem?_set_self (by rw [ansl]; exact hwl)
  have an1 : a ≠ -1 := by rcases a01 with e | e <;> rw [e] <;> decide
  refine ⟨⟨fun u hu => ?_, fun m hm c hc hn => ?_, fun q' b u hb hu hk => ?_, fun m hm u hu hk => ?_⟩, old⟩
  · show PathP (rowsJ ws u) _ (posI s u) (posI (movJ ws st.1 w a) u)
    by_cases e : u = w
    · subst e
      rw [posI_mov_eq (by rw [ok.len]; exact hwl)]
      exact .snoc ((hi.p u hu).mono ext) h0 (by rw [hqP, if_pos rfl]) a01
    · rw [posI_mov_ne e]
      exact (hi.p u hu).mono ext
  · have hm : m ∈ remJ st.2 (qJ ws st.1 w) st.1.length w a := (List.mem_filter.mp hm).1
    rw [hqs] at hm
    rcases rem_mem.mp hm with ⟨k, k2⟩ | rfl
    · show (if m.1 = q then some a else h m.1) = some c
      rw [if_neg k2]
      exact hi.b m k c hc hn
    · show (if q = q then some a else h q) = some c
      rw [if_pos rfl]
      rcases List.mem_or_eq_of_mem_set hc with k | k
      · rw [toldq c k hn]
      · rw [k]
  · have hk : AskP (rowsJ ws u) (posI (movJ ws st.1 w a) u) q' := hk
    have hb : (if q' = q then some a else h q') = some b := hb
    have hbk := back u q' hu hk
    by_cases e : q' = q
    · subst e
      have euw : u ≠ w := fun z => by subst z; exact nown hk
      refine ⟨(q', (ansTo st.2 q' st.1.length).set w a), List.mem_filter.mpr ⟨by rw [hqs]; exact rem_mem.mpr (.inr rfl), ?_⟩, rfl, a, List.mem_of_getElem? wset, an1⟩
      refine List.any_eq_true.mpr ⟨u, List.mem_range.mpr (by show u < (movJ ws st.1 w a).length; unfold movJ; rw [List.length_set, ok.len]; exact hu), ?_⟩
      obtain ⟨c, hc⟩ := frc_some (w := u) (ans := (ansTo st.2 q' st.1.length).set w a) (by rw [List.getElem?_set_ne (fun z => euw z.symm)]; exact ansn u hu hbk) (List.mem_of_getElem? wset) an1
      rw [Bool.and_eq_true]
      exact ⟨askB_iff.mpr hk, by rw [hc]; rfl⟩
    · rw [if_neg e] at hb
      obtain ⟨m, m1, m2, c, c1, c2⟩ := hi.c q' b u hb hu hbk
      refine ⟨m, List.mem_filter.mpr ⟨by rw [hqs]; exact rem_mem.mpr (.inl ⟨m1, by rw [m2]; exact e⟩), ?_⟩, m2, c, c1, c2⟩
      refine List.any_eq_true.mpr ⟨u, List.mem_range.mpr (by show u < (movJ ws st.1 w a).length; unfold movJ; rw [List.length_set, ok.len]; exact hu), ?_⟩
      obtain ⟨c', hc'⟩ := frc_some (hi.d m m1 u hu (by rw [m2]; exact hbk)) c1 c2
      rw [Bool.and_eq_true]
      exact ⟨askB_iff.mpr (by rw [m2]; exact hk), by rw [hc']; rfl⟩
  · have hk : AskP (rowsJ ws u) (posI (movJ ws st.1 w a) u) m.1 := hk
    have hm : m ∈ remJ st.2 (qJ ws st.1 w) st.1.length w a := (List.mem_filter.mp hm).1
    rw [hqs] at hm
    have hbk := back u m.1 hu hk
    rcases rem_mem.mp hm with ⟨k, _⟩ | rfl
    · exact hi.d m k u hu hbk
    · have euw : u ≠ w := fun z => by subst z; exact nown hk
      show ((ansTo st.2 q st.1.length).set w a)[u]? = some (-1)
      rw [List.getElem?_set_ne (fun z => euw z.symm)]
      exact ansn u hu hbk
theorem hist_of {ws : List JW} {sts : List (List Int)} (hG : ∀ y ∈ ws, GoodW y.1 y.2.1 y.2.2) (hs : ∀ s ∈ sts, StOk ws (s, [])) {st : JS} (h : RcJ ws true sts st) : ∃ s ∈ sts, ∃ hh, HistS ws s st hh := by
  induction h with
  | @start s h => exact ⟨s, h, fun _ => none, fun _ _ => .refl, fun m hm => by simp at hm, fun q b w hb => (nomatch hb), fun m hm => by simp at hm⟩
  | @step st st' b h hst ih =>
    obtain ⟨s, hs1, hh, hi⟩ := ih
    obtain ⟨w, ht, ha, e⟩ := steps_mem hst
    have e : st' = behJ ws true st w b := e
    subst e
    exact ⟨s, hs1, _, (hi.step hG (rc_ok hG hs h) ht ha).1⟩
/-- by same: just the ends of pupils -/
theorem fins_same {ws : List JW} {sts : List (List Int)} (O : ExplOk ws true sts) (e : List Int) : (∃ st, RcJ ws true sts st ∧ turnJ st.1 = none ∧ e = endsJ st) ↔ ∃ s ∈ sts, ∃ P : Int → Bool, e.length = ws.length ∧ ∀ w, w < ws.length → WayP (rowsJ ws w) P (posI s w) (-1 - posI e w) := by
  constructor
  · rintro ⟨st, hr, ht, rfl⟩
    have ok := rc_ok O.good O.st hr
    obtain ⟨s, hs, h, hi⟩ := hist_of O.good O.st hr
    refine ⟨s, hs, fun q => decide (h q = some 1), by unfold endsJ; rw [List.length_map, ok.len], fun w hw => (hi.p w hw).way ?_⟩
    have hw' : w < st.1.length := by rw [ok.len]; exact hw
    rw [endsJ_at hw', show -1 - (-1 - posI st.1 w) = posI st.1 w by omega]
    exact .fin (fin_neg (ws := ws) ht hw')
  · rintro ⟨s, hs, P, hl, hw⟩
    obtain ⟨st, hr, ht, hsl, hp⟩ := pupil_in (e := fun w => -1 - posI e w) O.good _ (s, []) (Nat.le_refl _) (.start hs) (O.st s hs) (fun m hm => by simp at hm) hw
    refine ⟨st, hr, ht, ?_⟩
    apply List.ext_getElem?
    intro i
    by_cases hi : i < ws.length
    · have h1 := hp i hi
      unfold endsJ
      rw [List.getElem?_map]
      unfold posI at h1
      rw [List.getElem?_eq_getElem (show i < st.1.length by omega), List.getElem?_eq_getElem (show i < e.length by omega)] at h1 ⊢
      simp only [Option.getD_some] at h1
      rw [Option.map_some, h1]
      congr 1
      omega
    · rw [List.getElem?_eq_none (by omega), List.getElem?_eq_none (by unfold endsJ; rw [List.length_map]; omega)]
end L2

namespace L2
open PySem PySem.Spec PyProof.Rows
theorem hu0 {A : Around} {k : Nat} (hr : Room k A) : A.units < cLine := Nat.lt_of_le_of_lt (Nat.le_add_right _ 64) hr.units
/-! ## law side -/
def QIn (l : List Int) (rows : List (List Int)) : Prop := ∀ (i : Nat) q r, rows[i]? = some (q :: r) → q ∈ l
theorem GoodS.qin {e : Int} {N : Nat} {l : List Int} : ∀ {rows bels : List (List Int)}, GoodS e N l rows bels → QIn l rows
  | [], [], _ => fun i q r h => by simp at h
  | [], _ :: _, h => h.elim
  | _ :: _, [], h => h.elim
  | row :: rows, b :: bels, h => by
    obtain ⟨h1, q', r', hr, _, hq, _⟩ := h
    intro i q r hi
    cases i with
    | zero =>
      have e : row = q :: r := Option.some.inj hi
      rw [hr] at e
      injection e with e1 _
      rw [← e1]
      exact hq
    | succ i => exact GoodS.qin h1 i q r (by simpa using hi)
theorem lex_of_code {B : Int} : ∀ {e f : List Int}, e.length = f.length → TS.Bd B e → TS.Bd B f → TS.code B e ≤ TS.code B f → e ≠ f → HT.lexLt e f = true
  | [], [], _, _, _, _, h => absurd rfl h
  | [], _ :: _, h, _, _, _, _ => by simp at h
  | _ :: _, [], h, _, _, _, _ => by simp at h
  | x :: xs, y :: ys, hl, he, hf, hc, hn => by
    have hl' : xs.length = ys.length := by simpa using hl
    rw [HT.lexLt_cons]
    by_cases e : x = y
    · subst e
      rw [if_pos rfl]
      refine lex_of_code hl' he.tail hf.tail ?_ (fun z => hn (by rw [z]))
      simp only [TS.code, hl'] at hc
      omega
    · rw [if_neg e, decide_eq_true_eq]
      rcases Int.lt_or_gt_of_ne e with k | k
      · exact k
      · have := TS.code_lt hl'.symm hf.tail he.tail k
        omega
/-! sets of questions by number -/
def subT (l : List Int) (n k : Nat) : List Int := ((List.range k).filter fun j => n / 2 ^ j % 2 == 1).map fun j => (l[j]?).getD 0
theorem subT_succ (l : List Int) (n k : Nat) : subT l n (k + 1) = subT l n k ++ if n / 2 ^ k % 2 = 1 then [(l[k]?).getD 0] else [] := by
  unfold subT
  rw [List.range_succ, List.filter_append, List.map_append]
  congr 1
  by_cases h : n / 2 ^ k % 2 = 1
  · rw [if_pos h, List.filter_cons_of_pos (by simpa using h)]; rfl
  · rw [if_neg h, List.filter_cons_of_neg (by simpa using h)]; rfl
theorem subT_len (l : List Int) (n k : Nat) : (subT l n k).length ≤ k := by
  unfold subT
  rw [List.length_map]
  exact Nat.le_trans (List.length_filter_le _ _) (by rw [List.length_range]; exact Nat.le_refl _)
theorem subT_mem {l : List Int} {n : Nat} {q : Int} : q ∈ subT l n l.length ↔ ∃ j, l[j]? = some q ∧ n / 2 ^ j % 2 = 1 := by
  unfold subT
  rw [List.mem_map]
  constructor
  · rintro ⟨j, hj, rfl⟩
    obtain ⟨h1, h2⟩ := List.mem_filter.mp hj
    have hl := List.mem_range.mp h1
    exact ⟨j, by rw [List.getElem?_eq_getElem hl]; rfl, by simpa using h2⟩
  · rintro ⟨j, hj, h2⟩
    exact ⟨j, List.mem_filter.mpr ⟨List.mem_range.mpr (List.getElem?_eq_some_iff.mp hj).1, by simpa using h2⟩, by rw [hj]; rfl⟩
def numP (P : Int → Bool) : List Int → Nat
  | [] => 0
  | q :: r => (if P q = true then 1 else 0) + 2 * numP P r
theorem numP_lt (P : Int → Bool) : ∀ l : List Int, numP P l < 2 ^ l.length
  | [] => by show 0 < 1; omega
  | q :: r => by
    have := numP_lt P r
    rw [List.length_cons, Nat.pow_succ]
    unfold numP
    split <;> omega
theorem numP_bit (P : Int → Bool) : ∀ (l : List Int) (j : Nat) (q : Int), l[j]? = some q → numP P l / 2 ^ j % 2 = if P q = true then 1 else 0
  | [], j, q, h => by simp at h
  | p :: r, 0, q, h => by
    have e : p = q := Option.some.inj h
    subst e
    unfold numP
    rw [Nat.pow_zero, Nat.div_one]
    split <;> omega
  | p :: r, j + 1, q, h => by
    have ih := numP_bit P r j q (by simpa using h)
    have e : numP P (p :: r) / 2 ^ (j + 1) = numP P r / 2 ^ j := by
      rw [Nat.pow_succ, Nat.mul_comm, ← Nat.div_div_eq_div_mul]
      congr 1
      rw [show numP P (p :: r) = (if P p = true then 1 else 0) + 2 * numP P r from rfl]
      split <;> omega
    rw [e, ih]
theorem sub_all (P : Int → Bool) (l : List Int) : ∃ n, n < 2 ^ l.length ∧ ∀ q ∈ l, q ∈ subT l n l.length ↔ P q = true := by
  refine ⟨numP P l, numP_lt P l, fun q hq => ?_⟩
  rw [subT_mem]
  constructor
  · rintro ⟨j, hj, h⟩
    rw [numP_bit P l j q hj] at h
    split at h
    · assumption
    · cases h
  · intro h
    obtain ⟨j, hj⟩ := List.getElem?_of_mem hq
    exact ⟨j, hj, by rw [numP_bit P l j q hj, if_pos h]⟩
def SubsAt (H : Hp) (bs : List Addr) (l : List Int) : Prop := bs.length = 2 ^ l.length ∧ ∀ (i : Nat) b, bs[i]? = some b → H b = some (.lst ((subT l i l.length).map V.int))
def spSubsL : Sp := fun vs H Q _ => ∃ (A : Addr) (l : List Int), vs = [.ref A] ∧ H A = some (.lst (l.map V.int)) ∧ l.length ≤ 5 ∧ ∀ H' D bs, H D = none → Same H H' → H' D = some (.lst (bs.map V.ref)) → SubsAt H' bs l → (∀ b ∈ bs, H b = none) → Q (.ref D) H'
def spEndL (K : PySem.W.Frag) : Sp := fun vs H Q _ => ∃ (D R : Addr) (z : Int) (rows : List (List Int)) (e o : Int) (l : List Int), vs = [.ref D, .int z, .ref R] ∧ LsAt H D rows ∧ H R = some (.lst (l.map V.int)) ∧ GoodW rows e o ∧ rows.length ≤ 40 ∧ -e ≤ z ∧ z < rows.length ∧
  ∀ H' y, Same H H' → WayP rows (fun q => decide (q ∈ l)) z y → -e ≤ y → y < 0 → Q (.int (-1 - y)) H'
def spStrictL : Sp := fun vs H Q _ => ∃ (A : Addr) (ps : List Addr) (es : List (List Int)), vs = [.ref A] ∧ H A = some (.tup (ps.map V.ref)) ∧ RowsAt H ps es ∧ es.length ≤ 1000 ∧ (∀ (i : Nat) e f, es[i]? = some e → es[i + 1]? = some f → HT.lexLt e f = true) ∧ ∀ H', Same H H' → Q (.bl true) H'
theorem Fr.tpk {p c : Addr} {H H' : Hp} (e : Fr p c H H') : TpK H H' := fun _ _ h => e.tup h
theorem RowsAt.tpk {H H' : Hp} {as : List Addr} {rows : List (List Int)} (h : RowsAt H as rows) (e : TpK H H') : RowsAt H' as rows := ⟨h.1, fun i a row h1 h2 => e _ _ (h.2 i a row h1 h2)⟩
theorem RowsAt.put {H : Hp} {as : List Addr} {rows : List (List Int)} {b : Addr} {row : List Int} (h : RowsAt H as rows) (hb : H b = some (.tup (row.map V.int))) : RowsAt H (as ++ [b]) (rows ++ [row]) := by
  refine ⟨by rw [List.length_append, List.length_append, h.1]; rfl, fun i x y h1 h2 => ?_⟩
  by_cases hi : i < as.length
  · rw [List.getElem?_append_left hi] at h1
    rw [List.getElem?_append_left (by rw [← h.1]; exact hi)] at h2
    exact h.2 i x y h1 h2
  · rw [List.getElem?_append_right (by omega)] at h1
    rw [List.getElem?_append_right (by rw [← h.1]; omega), ← h.1] at h2
    have h0 : i - as.length = 0 := by
      have := (List.getElem?_eq_some_iff.mp h1).1
      rw [List.length_singleton] at this
      omega
    rw [h0] at h1 h2
    cases h1
    cases h2
    exact hb
/-- the ends of a pupil from a start -/
def EndsOf (ws : List JW) (P : Int → Bool) (s e : List Int) : Prop := e.length = ws.length ∧ ∀ w, w < ws.length → WayP (rowsJ ws w) P (posI s w) (-1 - posI e w)
theorem posI_ext {e f : List Int} {n : Nat} (he : e.length = n) (hf : f.length = n) (h : ∀ w, w < n → posI e w = posI f w) : e = f := by
  apply List.ext_getElem?
  intro i
  by_cases hi : i < n
  · have h1 := h i hi
    unfold posI at h1
    rw [List.getElem?_eq_getElem (by omega), List.getElem?_eq_getElem (by omega)] at h1 ⊢
    simp only [Option.getD_some] at h1
    rw [h1]
  · rw [List.getElem?_eq_none (by omega), List.getElem?_eq_none (by omega)]
theorem EndsOf.one {ws : List JW} {P : Int → Bool} {s e f : List Int} (h : EndsOf ws P s e) (h' : EndsOf ws P s f) : e = f :=
  posI_ext h.1 h'.1 fun w hw => by have := (h.2 w hw).one (h'.2 w hw); omega
theorem EndsOf.congr {ws : List JW} {P P' : Int → Bool} {s e l : List Int} (hG : ∀ y ∈ ws, GoodW y.1 y.2.1 y.2.2) (hq : ∀ y ∈ ws, QIn l y.1) (hs : StOk ws (s, [])) (hP : ∀ q ∈ l, P q = P' q) (h : EndsOf ws P s e) : EndsOf ws P' s e := by
  refine ⟨h.1, fun w hw => ?_⟩
  have hy := List.getElem_mem hw
  have hr := rowsJ_of hw
  have hw1 := h.2 w hw
  have hp := (hs.pos w _ (List.getElem?_eq_getElem hw)).2
  rw [hr] at hw1 ⊢
  exact hw1.congr (hG _ hy) (fun i q r hi => hP q (hq _ hy i q r hi)) hp
/-- what is told is what is due -/
theorem told_due {ws : List JW} {sts : List (List Int)} {l : List Int} {es ds : List (List Int)} (O : ExplOk ws true sts) (hq : ∀ y ∈ ws, QIn l y.1) (hF : FinsJ ws true sts es)
    (hA : ∀ e ∈ ds, ∃ i, i < 2 ^ l.length ∧ ∃ s ∈ sts, EndsOf ws (fun q => decide (q ∈ subT l i l.length)) s e) (hB : ∀ i, i < 2 ^ l.length → ∀ s ∈ sts, ∃ e ∈ ds, EndsOf ws (fun q => decide (q ∈ subT l i l.length)) s e) (e : List Int) : e ∈ es ↔ e ∈ ds := by
  rw [hF.iff e, fins_same O e]
  constructor
  · rintro ⟨s, hs, P, hl, hw⟩
    obtain ⟨n, hn, hP⟩ := sub_all P l
    have h1 : EndsOf ws P s e := ⟨hl, hw⟩
    have h2 : EndsOf ws (fun q => decide (q ∈ subT l n l.length)) s e := h1.congr O.good hq (O.st s hs) fun q hq' => by
      cases hp : P q with
      | true => exact (decide_eq_true ((hP q hq').mpr hp)).symm
      | false => exact (decide_eq_false fun z => by rw [(hP q hq').mp z] at hp; cases hp).symm
    obtain ⟨f, hf, hf2⟩ := hB n hn s hs
    rw [h2.one hf2]
    exact hf
  · intro h
    obtain ⟨i, _, s, hs, h1⟩ := hA e h
    exact ⟨s, hs, _, h1⟩
theorem same_len {es ds : List (List Int)} (h1 : es.Nodup) (h2 : ds.Nodup) (h : ∀ e, e ∈ es ↔ e ∈ ds) : es.length = ds.length :=
  ((List.perm_ext_iff_of_nodup h1 h2).mpr h).length_eq
theorem massJ_le {ws : List JW} {D : Nat} : ∀ {l : List JS}, (∀ s ∈ l, depJ ws s ≤ D) → massJ ws l ≤ l.length * 2 ^ (D + 1)
  | [], _ => Nat.zero_le _
  | s :: l, h => by
    have ih := massJ_le (ws := ws) (D := D) (l := l) fun x hx => h x (List.mem_cons_of_mem _ hx)
    have h1 : 2 ^ (depJ ws s + 1) ≤ 2 ^ (D + 1) := Nat.pow_le_pow_right (by decide) (Nat.succ_le_succ (h s List.mem_cons_self))
    have e : massJ ws (s :: l) = (2 ^ (depJ ws s + 1) - 2) + massJ ws l := by unfold massJ; rw [List.map_cons, List.sum_cons]
    rw [e, List.length_cons, Nat.succ_mul]
    generalize 2 ^ (D + 1) = W at *
    generalize 2 ^ (depJ ws s + 1) = X at *
    generalize l.length * W = Y at *
    omega
theorem code_inj {B : Int} : ∀ {e f : List Int}, e.length = f.length → TS.Bd B e → TS.Bd B f → TS.code B e = TS.code B f → e = f
  | [], [], _, _, _, _ => rfl
  | [], _ :: _, h, _, _, _ => by simp at h
  | _ :: _, [], h, _, _, _ => by simp at h
  | x :: xs, y :: ys, hl, he, hf, hc => by
    have hl' : xs.length = ys.length := by simpa using hl
    rcases Int.lt_trichotomy x y with k | k | k
    · have := TS.code_lt hl' he.tail hf.tail k
      omega
    · subst k
      have : TS.code B xs = TS.code B ys := by
        simp only [TS.code, hl'] at hc
        omega
      rw [code_inj hl' he.tail hf.tail this]
    · have := TS.code_lt hl'.symm hf.tail he.tail k
      omega
theorem few_of {ws : List JW} (n3 : ws.length ≤ 3) (h : ∀ y ∈ ws, y.2.1 ≤ 3) : FewE ws := by
  intro es hn hb
  have bd : ∀ e ∈ es, TS.Bd 3 e := fun e he x hx => by
    obtain ⟨i, hi⟩ := List.getElem?_of_mem hx
    obtain ⟨hl, hw⟩ := hb e he
    have hil : i < ws.length := by rw [← hl]; exact (List.getElem?_eq_some_iff.mp hi).1
    have hy := List.getElem?_eq_getElem hil
    obtain ⟨a, b⟩ := hw i _ hy
    have e3 := h _ (List.getElem_mem hil)
    have : posI e i = x := by unfold posI; rw [hi]; rfl
    rw [this] at a b
    exact ⟨a, by omega⟩
  have hc : (es.map (TS.code 3)).Nodup := by
    clear h
    induction es with
    | nil => exact List.nodup_nil
    | cons e es ih =>
      obtain ⟨h1, h2⟩ := List.nodup_cons.mp hn
      refine List.nodup_cons.mpr ⟨fun hm => ?_, ih h2 (fun x hx => hb x (List.mem_cons_of_mem _ hx)) fun x hx => bd x (List.mem_cons_of_mem _ hx)⟩
      obtain ⟨f, hf, e2⟩ := List.mem_map.mp hm
      have : f = e := code_inj ((hb f (List.mem_cons_of_mem _ hf)).1.trans (hb e List.mem_cons_self).1.symm) (bd f (List.mem_cons_of_mem _ hf)) (bd e List.mem_cons_self) e2
      rw [this] at hf
      exact h1 hf
  have := nodup_le (es.map (TS.code 3)) ((List.range 27).map Int.ofNat) hc fun x hx => by
    obtain ⟨e, he, rfl⟩ := List.mem_map.mp hx
    obtain ⟨a, b⟩ := TS.code_bd e (bd e he)
    have hl := (hb e he).1
    have h27 : (3 : Int) ^ e.length ≤ 27 := by
      rw [hl]
      have : ws.length = 0 ∨ ws.length = 1 ∨ ws.length = 2 ∨ ws.length = 3 := by omega
      rcases this with k | k | k | k <;> rw [k] <;> decide
    have b' := Int.lt_of_lt_of_le b h27
    exact List.mem_map.mpr ⟨(TS.code 3 e).toNat, List.mem_range.mpr (by omega), Int.toNat_of_nonneg a⟩
  rw [List.length_map, List.length_map, List.length_range] at this
  omega
theorem any_rowE (e : List Int) : ∀ es : List (List Int), ((es.map rowD).any fun z => PyData.eqv z (.tuple (e.map PyData.int))) = decide (e ∈ es)
  | [] => by simp
  | f :: es => by
    rw [List.map_cons, List.any_cons, any_rowE e es]
    rw [show PyData.eqv (rowD f) (.tuple (e.map PyData.int)) = decide (f = e) from evT f e]
    by_cases h : f = e
    · subst h; simp
    · rw [decide_eq_false h, Bool.false_or]
      have : (e ∈ f :: es) ↔ e ∈ es := ⟨fun z => (List.mem_cons.mp z).resolve_left (fun q => h q.symm), List.mem_cons_of_mem _⟩
      simp [this]
end L2

namespace K14
open PySem PySem.Spec PyProof.Rows L2 Gg TL
section
variable {P : Program} {w : World} {K : PySem.W.Frag} {mg : Str → Option Value} {base : Heap} {a : Ad}
theorem lwgt_two {t : Lad} {i : Nat} {s : LSt} (hi : (i : Int) < t.sz) : ∃ W, 1 ≤ W ∧ lwgt t (i, s) = 2 * W - 1 ∧ ∀ u, lwgt t (i + 1, u) = W - 1 := by
  refine ⟨2 ^ (t.sz.toNat - (i + 1)), Nat.one_le_two_pow, ?_, fun u => rfl⟩
  unfold lwgt
  show 2 ^ (t.sz.toNat - i) - 1 = _
  rw [show t.sz.toNat - i = (t.sz.toNat - (i + 1)) + 1 by omega, Nat.pow_succ, Nat.mul_comm]
theorem massL_len {t : Lad} : ∀ {l : List (Nat × LSt)}, (∀ x ∈ l, (x.1 : Int) < t.sz) → l.length ≤ massL t l
  | [], _ => Nat.zero_le _
  | x :: l, h => by
    have ih := massL_len (t := t) (l := l) fun y hy => h y (List.mem_cons_of_mem _ hy)
    have h1 := h x List.mem_cons_self
    have h2 : 2 ≤ 2 ^ (t.sz.toNat - x.1) := by
      rw [show t.sz.toNat - x.1 = (t.sz.toNat - x.1 - 1) + 1 by omega, Nat.pow_succ]
      have := Nat.one_le_two_pow (n := t.sz.toNat - x.1 - 1)
      omega
    unfold massL lwgt at *
    rw [List.map_cons, List.sum_cons, List.length_cons]
    omega
theorem drop_get {α : Type} {l : List α} {n : Nat} {x : α} (h : l[n]? = some x) : l.drop n = x :: l.drop (n + 1) := by
  obtain ⟨hl, rfl⟩ := List.getElem?_eq_some_iff.mp h
  exact List.drop_eq_getElem_cons hl
theorem ok_build (T : Txt K mg a) : FnOk P w K mg base CX0 5 a.f_build a.d_build P_build (spBuild a.c_Web a.c_Ladder) := by
  refine T.F_build.ok sc_build (fun vs H Q E h => ?_) (fun cdv A outer s H vs Q E hr h => ?_)
  · obtain ⟨x, t, rfl, _⟩ := h
    rfl
  · obtain ⟨x, t, rfl, ht, hx, k⟩ := h
    refine ⟨_, (Evl.pss_cut (ps_set (i := 1) sc_build.nd rfl (Or.inl rfl) (pe_lst (pa_cons (pe_call (ok_first_state T) (hr.mono (by decide)) (by rfl) T.g_first_state T.k_first_state T.b_first_state .nil pass0 (pa_cons (pv 0) pa_nil)) pa_nil)))
  (Evl.pss_cut (ps_set (i := 2) sc_build.nd rfl (Or.inr rfl) (pe_ndisp1 (hu9 hr) (pe_ix ix_list (pv 1) pe_int (by intro _ _; rfl)) pe_int))
  (Evl.pss_cut (ps_set (i := 3) sc_build.nd rfl (Or.inl rfl) (pe_lst pa_nil))
  (Evl.pss_cut (ps_while PassesOwn.never (pt_cmpR op_lt (pe_callB call_len_seq (by rfl) T.z_len (by decide +kernel) (pa_cons (pv 3) pa_nil)) (pe_callB call_len_seq (by rfl) T.z_len (by decide +kernel) (pa_cons (pv 1) pa_nil)) (nomark _))
    (Evl.pss_cut (ps_set (i := 4) sc_build.nd rfl (Or.inr rfl) (pe_ix ix_list (pv 1) (pe_callB call_len_seq (by rfl) T.z_len (by decide +kernel) (pa_cons (pv 3) pa_nil)) (by intro _ _; rfl)))
  (Evl.pss_cut (ps_setLc (i := 5) (own := [("answer", 8)]) (g := gName 8) (tt := tYes) (te := (tCall (spLBehind a.c_Ladder) [] E0 (tCons (tVar 0) (tCons (tVar 4) (tCons (tVar 8) tNil))))) rfl sc_build.nd rfl rfl (sw_true rfl rfl rfl (by decide +kernel)) (pi_tup (pe_tup (pa_cons pe_int (pa_cons pe_int pa_nil)))) (blkOk_by (N := N_build) (sc := defScope s_build) (by decide +kernel)) (fun _ _ _ _ _ => pg_name (i := 8) sc_build.nd rfl (Or.inl rfl)) (fun _ _ _ _ _ => pts_nil) (fun _ _ _ _ _ => by exact (pe_call (ok_state_behind T) (hr.mono (by decide)) (by rfl) T.g_state_behind T.k_state_behind T.b_state_behind .nil pass0 (pa_cons (pv 0) (pa_cons (pv 4) (pa_cons (pv 8) pa_nil))))))
  (Evl.pss_cut (ps_for PassesOwn.never rfl (pi_list (pv 5)) (pg_name (i := 6) sc_build.nd rfl (Or.inl rfl))
    (pss_one (ps_if (PW.pt (pw_and (pt_not (pt_val (pe_call (ok_has_ended T) (hr.mono (by decide)) (by rfl) T.g_has_ended T.k_has_ended T.b_has_ended .nil pass0 (pa_cons (pv 0) (pa_cons (pv 6) pa_nil))))) (pw_and1 (pt_cmp (pc_nnotin (hu9 hr) (pv 6) (pv 2))))))
    (pss_cons (ps_nput (hu9 hr) (pv 2) (pv 6) (pe_callB call_len_seq (by rfl) T.z_len (by decide +kernel) (pa_cons (pv 1) pa_nil)) rfl)
  (pss_one (ps_expr (pe_bm PySem.F.plainAttrs_list PySem.F.slot_list_append PySem.F.type_list_append mt_append (pv 1) (pa_cons (pv 6) pa_nil)))))
    pss_nil)))
  (Evl.pss_cut (ps_setLc (i := 7) (own := [("found", 6)]) (g := gName 6) (tt := tYes) (te := (tIf (tB (tNIn (tVar 6) (tVar 2))) (tNGet (tVar 2) (tVar 6)) (tOp (rI0 fun i j => .int (i - j)) (tUn (rU fun i => .int (-i)) (tC (.int 1))) (tOp (rIxT K) (tVar 6) (tC (.int 4)))))) rfl sc_build.nd rfl rfl (sw_true rfl rfl rfl (by decide +kernel)) (pi_list (pv 5)) (blkOk_by (N := N_build) (sc := defScope s_build) (by decide +kernel)) (fun _ _ _ _ _ => pg_name (i := 6) sc_build.nd rfl (Or.inl rfl)) (fun _ _ _ _ _ => pts_nil) (fun _ _ _ _ _ => by exact (pe_ifExp (pt_cmp (pc_nin (hu9 hr) (pv 6) (pv 2))) (pe_nget (hu9 hr) (pv 2) (pv 6) (by intro _ _; rfl)) (pe_op op_sub (pe_un un_neg pe_int) (pe_ix ix_tup (pv 6) pe_int (by intro _ _; rfl))))))
  (pss_one (ps_expr (pe_bm PySem.F.plainAttrs_list PySem.F.slot_list_append PySem.F.type_list_append mt_append (pv 3) (pa_cons (pe_tup (pa_cons (pe_call (ok_question_of T) (hr.mono (by decide)) (by rfl) T.g_question_of T.k_question_of T.b_question_of .nil pass0 (pa_cons (pv 4) pa_nil)) (pa_cons (pe_ix ix_list (pv 7) pe_int (by intro _ _; rfl)) (pa_cons (pe_ix ix_list (pv 7) pe_int (by intro _ _; rfl)) pa_nil)))) pa_nil)))))))))
  (pss_one (ps_ret (pe_make T.mk_Web (ok_Web_init T) (hr.mono (by decide)) (by rfl) T.g_Web T.bd_Web_init T.vd_Web_init pass0 (pa_cons (pv 3) (pa_cons (pe_op op_add (pe_fld (pv 0) (by rfl)) pe_int) pa_nil))))))))), ?_⟩
    have hsz := ht.2.2.2.2.1
    have hdx := id hx
    refine ⟨fun σ H1 => ∃ S p, σ = [some (.ref x), some (.ref S), none, none, none, none, none, none, none] ∧ Same H H1 ∧ H S = none ∧ H1 S = some (.lst [.ref p]) ∧ LStAt H1 p t 0 (lad0 t), ?_, ?_⟩
    · exact ⟨_, rfl, x, t, rfl, hx, ht, fun H1 p f1 hp => ⟨by show 1 ≤ sizeLine; decide, fun S nS => ⟨S, p, rfl, f1.trans (same_upd nS), f1.free nS, upd_same, hp.same (same_upd nS)⟩⟩⟩
    rintro σ H1 ⟨S, p0, rfl, f1, nS, hS1, hp1⟩
    refine ⟨fun σ H2 => ∃ d o, σ = [some (.ref x), some (.ref S), some (.ref d), none, none, none, none, none, none] ∧ Same H H2 ∧ H1 d = none ∧ TpK H1 H2 ∧ H2 S = some (.lst [.ref p0]) ∧ H2 d = some (DN d o (nput [] (lkey t 0 (lad0 t)) p0 (.int 0))), ?_, ?_⟩
    · intro d o0 nd
      have g := same_upd nd (o := DN d o0 [])
      have hd1 : upd H1 d (DN d o0 []) d = some (DN d o0 []) := upd_same
      have dS : d ≠ S := (ne_of_none hS1 nd).symm
      refine ⟨_, rfl, S, _, _, _, rfl, rfl, lst_of (g _ _ hS1), at_tup (j := 0) rfl, p0, lkey t 0 (lad0 t), rfl, hd1, (hp1.same g).nk, depth_lkey _ _ _, fun o' => ⟨d, o', rfl, (f1.trans g).mut (f1.free nd), nd, g.tpk.trans (TpK.put hd1 dn_ntup), by rw [upd_ne dS.symm]; exact g _ _ hS1, upd_same⟩⟩
    rintro σ H2 ⟨d, o, rfl, f2, nd1, tk12, hS2, hd2⟩
    have nd : H d = none := f1.free nd1
    have dS : d ≠ S := (ne_of_none hS1 nd1).symm
    refine ⟨fun σ H3 => ∃ N, σ = [some (.ref x), some (.ref S), some (.ref d), some (.ref N), none, none, none, none, none] ∧ H2 N = none ∧ H3 = upd H2 N (.lst []), ⟨by show 0 ≤ sizeLine; decide, fun N nN => ⟨N, rfl, nN, rfl⟩⟩, ?_⟩
    rintro σ H3 ⟨N, rfl, nN2, rfl⟩
    have g3 := same_upd nN2 (o := .lst [])
    have nN : H N = none := f2.free nN2
    have NS : N ≠ S := (ne_of_none hS2 nN2).symm
    have Nd : N ≠ d := (ne_of_none hd2 nN2).symm
    have I0 := lad0_inz ht
    have E0 : ¬ LEnd t 0 (lad0 t) := by
      unfold LEnd
      rintro (z | ⟨z1, z2⟩)
      · omega
      · have : (lad0 t).lost = 0 := rfl
        omega
    have hJ0 : LadJ t [(0, lad0 t)] := by
      refine ⟨rfl, fun j j' y z _ h1 h2 => ?_, fun y hy => ?_⟩
      · rw [List.mem_singleton.mp (List.mem_of_getElem? h1)]; exact Nat.zero_le _
      · rw [List.mem_singleton.mp hy]
        exact ⟨I0, E0, by show (0 : Int) < t.sz; omega⟩
    have hL0 : NumL (upd H2 N (.lst [])) t (nput [] (lkey t 0 (lad0 t)) p0 (.int 0)) [p0] [(0, lad0 t)] := by
      have : NumL (upd H2 N (.lst [])) t [] [] [] := ⟨rfl, rfl, fun j y h => by simp at h, List.nodup_nil, fun y h => by simp at h⟩
      exact this.snoc (by simp) I0 (hp1.tpk (tk12.trans g3.tpk))
    have hI0 : LadI t 0 [] [(0, lad0 t)] := by
      refine ⟨hJ0, rfl, Nat.zero_le _, fun y hy z hz => ?_, fun j y row _ h => by simp at h, ?_⟩
      · rw [List.mem_singleton.mp hy]; exact Nat.zero_le _
      · show 0 + massL t [(0, lad0 t)] ≤ 63
        have h6 : 2 ^ t.sz.toNat ≤ 2 ^ 6 := Nat.pow_le_pow_right (by decide) (by omega)
        have : massL t [(0, lad0 t)] = 2 ^ t.sz.toNat - 1 := by
          unfold massL lwgt
          rw [List.map_singleton, List.sum_singleton]
          rfl
        omega
    refine ⟨fun σ H4 => ∃ v4 v5 v6 v7 as rows L, σ = [some (.ref x), some (.ref S), some (.ref d), some (.ref N), v4, v5, v6, v7, none] ∧ Same H H4 ∧ H4 N = some (.lst (as.map V.ref)) ∧ RowsAt H4 as rows ∧ LadW t rows L, ?_, ?_⟩
    · refine while_num (fun m σ H4 => ∃ v4 v5 v6 v7 o kvs ps L as rows n, σ = [some (.ref x), some (.ref S), some (.ref d), some (.ref N), v4, v5, v6, v7, none] ∧ Same H H4 ∧ H4 S = some (.lst (ps.map V.ref)) ∧ H4 d = some (DN d o kvs) ∧ NumL H4 t kvs ps L ∧ H4 N = some (.lst (as.map V.ref)) ∧ RowsAt H4 as rows ∧ LadI t n rows L ∧ m = massL t (L.drop n)) ⟨_, _, _, _, _, o, _, [p0], _, [], [], 0, rfl, f2.trans g3, g3 _ _ hS2, g3 _ _ hd2, hL0, upd_same, RowsAt.nil, hI0, rfl⟩ ?_ (fun σ H4 Q Q' h ⟨a1, a2, a3, a4, a5, a6, a7, a8, a9, a10, a11, a12, a13, a14, a15, a16, a17, a18, q⟩ => ⟨a1, a2, a3, a4, a5, a6, a7, a8, a9, a10, a11, a12, a13, a14, a15, a16, a17, a18, h _ _ q⟩)
      rintro m σ H4 ⟨v4, v5, v6, v7, o, kvs, ps, L, as, rows, n, rfl, f4, hS4, hd4, hL4, hN4, hR4, I4, hm⟩
      have hal : as.length = n := by rw [hR4.1, I4.len]
      refine ⟨_, rfl, N, _, rfl, .inl (lst_of hN4), _, rfl, S, _, rfl, .inl (lst_of hS4), _, _, rfl, rfl, _, rfl, ?_⟩
      rw [show decide ((((as.map V.ref).length : Nat) : Int) < (((ps.map V.ref).length : Nat) : Int)) = decide (n < L.length) by rw [List.length_map, List.length_map, hal, hL4.pl]; simp]
      rcases Nat.lt_or_ge n L.length with hnl | hnl
      case inr =>
        rw [decide_eq_false (Nat.not_lt.mpr hnl)]
        exact iteF ⟨_, _, _, _, as, rows, L, rfl, f4, hN4, hR4, I4.done hnl⟩
      rw [decide_eq_true hnl]
      refine iteT ?_
      obtain ⟨⟨i, st⟩, hLn⟩ : ∃ y, L[n]? = some y := ⟨_, List.getElem?_eq_getElem hnl⟩
      obtain ⟨p, hpn, hst4, hkn⟩ := hL4.at_ n _ hLn
      obtain ⟨Iz, hne, hi⟩ := I4.j.st _ (List.mem_of_getElem? hLn)
      have hi : (i : Int) < t.sz := hi
      have I := Iz.inv
      obtain ⟨W, W1, eW, eW1⟩ := lwgt_two (t := t) (s := st) hi
      have hdrop := drop_get hLn
      have hmass : massL t (L.drop n) = (2 * W - 1) + massL t (L.drop (n + 1)) := by
        rw [hdrop]
        unfold massL
        rw [List.map_cons, List.sum_cons, eW]
      -- the state
      refine ⟨fun σ H5 => σ = [some (.ref x), some (.ref S), some (.ref d), some (.ref N), some (.ref p), v5, v6, v7, none] ∧ H5 = H4, ?_, ?_⟩
      · have hat : atI (ps.map V.ref) (((as.map V.ref).length : Nat) : Int) = some (.ref p) := by
          rw [List.length_map, hal]
          exact at_tup (by rw [List.getElem?_map, hpn]; rfl)
        exact ⟨_, rfl, _, rfl, N, _, rfl, .inl (lst_of hN4), S, _, _, _, rfl, rfl, lst_of hS4, hat, rfl, rfl⟩
      rintro σ H5 ⟨rfl, rfl⟩
      -- what is behind it
      refine ⟨fun σ H6 => ∃ B b1 b0, σ = [some (.ref x), some (.ref S), some (.ref d), some (.ref N), some (.ref p), some (.ref B), v6, v7, none] ∧ Same H5 H6 ∧ H5 B = none ∧ H6 B = some (.lst [.ref b1, .ref b0]) ∧ LStAt H6 b1 t (i + 1) (ladStep t st 1) ∧ LStAt H6 b0 t (i + 1) (ladStep t st 0), ?_, ?_⟩
      · refine ⟨by show 2 ≤ sizeLine; decide, fun tt ntt => ⟨tt, rfl, ⟨_, tup_of upd_same⟩, fun B nB => ?_⟩⟩
        have gt := same_upd ntt (o := .tup [.int 1, .int 0])
        refine lc_tup (K := K) (a := tt) (xs := [.int 1, .int 0]) (fun j Hj => Same (upd H5 tt (.tup [.int 1, .int 0])) Hj ∧ ∃ bs : List Addr, bs.length = j ∧ Hj B = some (.lst (bs.map V.ref)) ∧ ∀ (q : Nat) b, bs[q]? = some b → LStAt Hj b t (i + 1) (ladStep t st (1 - (q : Int)))) ⟨same_upd nB, [], rfl, upd_same, fun q b h => by simp at h⟩ (fun j Hj _ h => tup_of (h.1 _ _ upd_same)) (fun j y Hj hj h => ?_) (fun Hj h => ?_)
        · obtain ⟨fj, bs, hbl, hBj, hbs⟩ := h
          have hy : ∃ z : Int, y = .int z ∧ z = 1 - (j : Int) ∧ (z = 0 ∨ z = 1) ∧ j < 2 := by
            rcases j with _ | _ | j
            · cases hj; exact ⟨1, rfl, rfl, .inr rfl, by decide⟩
            · cases hj; exact ⟨0, rfl, rfl, .inl rfl, by decide⟩
            · simp at hj
          obtain ⟨z, rfl, hz, hz01, hj2⟩ := hy
          have f5j := gt.trans fj
          refine ⟨rfl, tyes ⟨_, rfl, _, rfl, _, rfl, x, p, t, i, st, z, rfl, ht, (hx.same f4).same f5j, hst4.same f5j, I, hz01, fun H7 p' f7 hp' => ?_⟩⟩
          have hB7 := f7 _ _ hBj
          refine ⟨_, hB7, by rw [List.length_map, sizeLine_eq]; omega, (fj.trans f7).mut nB, bs ++ [p'], by rw [List.length_append, hbl]; rfl, by rw [upd_same, List.map_append]; rfl, fun q b hq => ?_⟩
          have tk := TpK.put (o := .lst (bs.map V.ref ++ [.ref p'])) hB7 fun xs z => by cases z
          by_cases hql : q < bs.length
          · rw [List.getElem?_append_left hql] at hq
            exact ((hbs q b hq).same f7).tpk tk
          · rw [List.getElem?_append_right (by omega)] at hq
            have h0 : q - bs.length = 0 := by
              have := (List.getElem?_eq_some_iff.mp hq).1
              rw [List.length_singleton] at this
              omega
            rw [h0] at hq
            cases hq
            have eq : q = j := by omega
            subst eq
            rw [hz] at hp'
            exact hp'.tpk tk
        · obtain ⟨fj, bs, hbl, hBj, hbs⟩ := h
          have hbl : bs.length = 2 := hbl
          obtain ⟨b1, b0, rfl⟩ : ∃ b1 b0, bs = [b1, b0] := by
            rcases bs with _ | ⟨b1, _ | ⟨b0, _ | ⟨b, bs⟩⟩⟩
            · cases hbl
            · cases hbl
            · exact ⟨b1, b0, rfl⟩
            · simp at hbl
          exact ⟨B, b1, b0, rfl, gt.trans fj, gt.free nB, hBj, hbs 0 b1 rfl, hbs 1 b0 rfl⟩
      rintro σ H6 ⟨B, b1, b0, rfl, f6, nB5, hB6, hb1, hb0⟩
      have BS : B ≠ S := (ne_of_none hS4 nB5).symm
      have Bd : B ≠ d := (ne_of_none hd4 nB5).symm
      have BN : B ≠ N := (ne_of_none hN4 nB5).symm
      have fndP : ∀ (q : Nat), q < 2 → ∃ b, ([.ref b1, .ref b0] : List V)[q]? = some (.ref b) ∧ LStAt H6 b t (i + 1) (ladStep t st (1 - (q : Int))) ∧ ((1 : Int) - (q : Int) = 0 ∨ (1 : Int) - (q : Int) = 1) := fun q hq => by
        rcases q with _ | _ | q
        · exact ⟨b1, rfl, hb1, .inr rfl⟩
        · exact ⟨b0, rfl, hb0, .inl rfl⟩
        · omega
      -- the new ones
      refine ⟨fun σ H7 => ∃ v6 o kvs ps L', σ = [some (.ref x), some (.ref S), some (.ref d), some (.ref N), some (.ref p), some (.ref B), v6, v7, none] ∧ Same H H7 ∧ TpK H6 H7 ∧ H7 B = some (.lst [.ref b1, .ref b0]) ∧ H7 S = some (.lst (ps.map V.ref)) ∧ H7 d = some (DN d o kvs) ∧ NumL H7 t kvs ps L' ∧ H7 N = some (.lst (as.map V.ref)) ∧ LadJ t L' ∧ (∀ (j : Nat) y, L[j]? = some y → L'[j]? = some y) ∧ (∀ y ∈ L', y.1 ≤ i + 1) ∧ massL t (L'.drop (n + 1)) + 1 ≤ massL t (L.drop n) ∧ ∀ q : Nat, q < 2 → LEnd t (i + 1) (ladStep t st (1 - (q : Int))) ∨ (i + 1, ladStep t st (1 - (q : Int))) ∈ L', ?_, ?_⟩
      · refine ⟨_, rfl, B, rfl, ⟨_, lst_of hB6⟩, ?_⟩
        refine for_list (K := K) (a := B) (xs := [.ref b1, .ref b0]) (fun j σ H7 => ∃ v6 o kvs ps L', σ = [some (.ref x), some (.ref S), some (.ref d), some (.ref N), some (.ref p), some (.ref B), v6, v7, none] ∧ Same H H7 ∧ TpK H6 H7 ∧ H7 B = some (.lst [.ref b1, .ref b0]) ∧ H7 S = some (.lst (ps.map V.ref)) ∧ H7 d = some (DN d o kvs) ∧ NumL H7 t kvs ps L' ∧ H7 N = some (.lst (as.map V.ref)) ∧ LadJ t L' ∧ (∀ (j : Nat) y, L[j]? = some y → L'[j]? = some y) ∧ (∀ y ∈ L', y.1 ≤ i + 1) ∧ massL t (L'.drop (n + 1)) + (2 - j) * (W - 1) + 1 ≤ massL t (L.drop n) ∧ ∀ q : Nat, q < j → LEnd t (i + 1) (ladStep t st (1 - (q : Int))) ∨ (i + 1, ladStep t st (1 - (q : Int))) ∈ L') ⟨_, o, kvs, ps, L, rfl, f4.trans f6, fun _ _ h => h, hB6, f6 _ _ hS4, f6 _ _ hd4, hL4.tpk f6.tpk, f6 _ _ hN4, I4.j, fun _ _ h => h, fun y hy => I4.top y hy _ hLn, by rw [hmass]; omega, fun q h => absurd h (Nat.not_lt_zero _)⟩ (fun j σ H7 _ ⟨_, _, _, _, _, _, _, _, e, _⟩ => lst_of e) (fun j y σ H7 hj h => ?_) (fun σ H7 ⟨v6, o, kvs, ps, L', e1, e2, e3, e4, e5, e6, e7, e8, e9, e10, e11, e12, e13⟩ => ⟨v6, o, kvs, ps, L', e1, e2, e3, e4, e5, e6, e7, e8, e9, e10, e11, by have : ([V.ref b1, .ref b0] : List V).length = 2 := rfl; rw [this, Nat.sub_self, Nat.zero_mul] at e12; exact e12, e13⟩)
        obtain ⟨v6, o7, kvs7, ps7, L', rfl, f7, tk7, hB7, hS7, hd7, hL7, hN7, J7, pre7, top7, cap7, fnd7⟩ := h
        have hj2 : j < 2 := (List.getElem?_eq_some_iff.mp hj).1
        obtain ⟨b, hbj, hb6, h01⟩ := fndP j hj2
        rw [hbj] at hj
        cases hj
        have hb7 := hb6.tpk tk7
        have Iz' := Iz.step (a := 1 - (j : Int)) ht h01
        generalize hu : ladStep t st (1 - (j : Int)) = u at hb6 hb7 Iz'
        have hn7 : n < L'.length := (List.getElem?_eq_some_iff.mp (pre7 n _ hLn)).1
        have emul : (2 - j) * (W - 1) = (2 - (j + 1)) * (W - 1) + (W - 1) := by
          have : 2 - j = (2 - (j + 1)) + 1 := by omega
          rw [this, Nat.succ_mul]
        rw [emul] at cap7
        have h63 : L'.length ≤ 63 := by
          have h1 := massL_len (t := t) (l := L'.drop (n + 1)) fun y hy => (J7.st y (List.mem_of_mem_drop hy)).2.2
          rw [List.length_drop] at h1
          have := I4.cap
          omega
        have fin : (LEnd t (i + 1) u ∨ (i + 1, u) ∈ L') → ∃ v6 o kvs ps L', ([some (.ref x), some (.ref S), some (.ref d), some (.ref N), some (.ref p), some (.ref B), some (.ref b), v7, none] : L2.St) = [some (.ref x), some (.ref S), some (.ref d), some (.ref N), some (.ref p), some (.ref B), v6, v7, none] ∧ Same H H7 ∧ TpK H6 H7 ∧ H7 B = some (.lst [.ref b1, .ref b0]) ∧ H7 S = some (.lst (ps.map V.ref)) ∧ H7 d = some (DN d o kvs) ∧ NumL H7 t kvs ps L' ∧ H7 N = some (.lst (as.map V.ref)) ∧ LadJ t L' ∧ (∀ (j : Nat) y, L[j]? = some y → L'[j]? = some y) ∧ (∀ y ∈ L', y.1 ≤ i + 1) ∧ massL t (L'.drop (n + 1)) + (2 - (j + 1)) * (W - 1) + 1 ≤ massL t (L.drop n) ∧ ∀ q : Nat, q < j + 1 → LEnd t (i + 1) (ladStep t st (1 - (q : Int))) ∨ (i + 1, ladStep t st (1 - (q : Int))) ∈ L' := fun z => by
          refine ⟨_, o7, kvs7, ps7, L', rfl, f7, tk7, hB7, hS7, hd7, hL7, hN7, J7, pre7, top7, by omega, fun q hq => ?_⟩
          by_cases e : q = j
          · rw [e, hu]; exact z
          · exact fnd7 q (by omega)
        refine ⟨_, rfl, _, rfl, x, b, t, i + 1, u, rfl, hx.same f7, hb7, Iz'.inv, _, rfl, ?_⟩
        by_cases hend : (((i + 1 : Nat) : Int) = t.sz ∨ (0 < t.mo ∧ u.lost = t.mo))
        · rw [decide_eq_true hend]
          exact fin (.inl hend)
        rw [decide_eq_false hend]
        refine ⟨_, rfl, _, rfl, d, b, kvs7, lkey t (i + 1) u, rfl, rfl, ⟨⟨o7, hd7⟩, hL7.keysN⟩, hb7.nk, depth_lkey _ _ _, _, rfl, ?_⟩
        by_cases hin : (i + 1, u) ∈ L'
        · have hv : (nval kvs7 (lkey t (i + 1) u)).isSome = true := by
            cases hv : nval kvs7 (lkey t (i + 1) u) with
            | none => exact absurd hin ((hL7.none_iff Iz').mp hv)
            | some v => rfl
          rw [hv]
          exact fin (.inr hin)
        have hv := (hL7.none_iff Iz').mpr hin
        rw [hv]
        refine ⟨_, rfl, S, _, rfl, .inl (lst_of hS7), _, rfl, _, rfl, d, b, kvs7, lkey t (i + 1) u, rfl, rfl, ⟨⟨o7, hd7⟩, hL7.keysN⟩, hb7.nk, depth_lkey _ _ _, hv, ?_, fun o' => ?_⟩
        · rw [hL7.len, sizeLine_eq]
          omega
        have tk8 := TpK.put (o := DN d o' (nput kvs7 (lkey t (i + 1) u) b (.int ((ps7.map V.ref).length : Nat)))) hd7 dn_ntup
        have hS8 : upd H7 d (DN d o' (nput kvs7 (lkey t (i + 1) u) b (.int ((ps7.map V.ref).length : Nat)))) S = some (.lst (ps7.map V.ref)) := by rw [upd_ne dS.symm]; exact hS7
        have tk9 := TpK.put (o := .lst (ps7.map V.ref ++ [.ref b])) hS8 fun xs z => by cases z
        have hL9 := (hL7.snoc hin Iz' hb7).tpk (tk8.trans tk9)
        have el : (ps7.map V.ref).length = L'.length := by rw [List.length_map, hL7.pl]
        rw [el] at hS8 tk8 tk9 hL9 ⊢
        refine ⟨_, rfl, .inl ⟨rfl, _, lst_of hS8⟩, _, rfl, S, _, _, rfl, rfl, hS8, ?_, ?_⟩
        · rw [el, sizeLine_eq]
          omega
        refine ⟨_, o', _, ps7 ++ [b], L' ++ [(i + 1, u)], rfl, (f7.mut nd).mut nS, tk7.trans (tk8.trans tk9), ?_, by rw [upd_same, List.map_append]; rfl, by rw [upd_ne dS]; exact upd_same, hL9, ?_, J7.snoc top7 Iz' hend ?_, fun q y hq => by rw [List.getElem?_append_left (List.getElem?_eq_some_iff.mp (pre7 q y hq)).1]; exact pre7 q y hq, fun y hy => ?_, ?_, fun q hq => ?_⟩
        · rw [upd_ne BS, upd_ne Bd]; exact hB7
        · rw [upd_ne NS, upd_ne Nd]; exact hN7
        · have := Iz'.inv
          omega
        · rcases List.mem_append.mp hy with hy | hy
          · exact top7 y hy
          · rw [List.mem_singleton.mp hy]; exact Nat.le_refl _
        · rw [List.drop_append_of_le_length (by omega), massL_snoc, eW1]
          omega
        · by_cases e : q = j
          · rw [e, hu]
            exact .inr (List.mem_append_right _ (List.mem_singleton.mpr rfl))
          · exact (fnd7 q (by omega)).imp id fun z => List.mem_append_left _ z
      rintro σ H7 ⟨v6, o7, kvs7, ps7, L', rfl, f7, tk7, hB7, hS7, hd7, hL7, hN7, J7, pre7, top7, cap7, fnd7⟩
      -- the targets
      refine ⟨fun σ H8 => ∃ D z1 z0, σ = [some (.ref x), some (.ref S), some (.ref d), some (.ref N), some (.ref p), some (.ref B), v6, some (.ref D), none] ∧ Same H7 H8 ∧ H8 D = some (.lst [.int z1, .int z0]) ∧ TgtL t L' (i + 1) (ladStep t st 1) z1 ∧ TgtL t L' (i + 1) (ladStep t st 0) z0, ?_, ?_⟩
      · refine ⟨_, rfl, B, rfl, ⟨_, lst_of hB7⟩, fun D nD => ?_⟩
        refine lc_list (K := K) (a := B) (xs := [.ref b1, .ref b0]) (fun j Hj => Same H7 Hj ∧ ∃ zs : List Int, zs.length = j ∧ Hj D = some (.lst (zs.map V.int)) ∧ ∀ (q : Nat) z, zs[q]? = some z → TgtL t L' (i + 1) (ladStep t st (1 - (q : Int))) z) ⟨same_upd nD, [], rfl, upd_same, fun q b h => by simp at h⟩ (fun j Hj _ h => lst_of (h.1 _ _ hB7)) (fun j y Hj hj h => ?_) (fun Hj h => ?_)
        · obtain ⟨fj, zs, hzl, hDj, hzs⟩ := h
          have hj2 : j < 2 := (List.getElem?_eq_some_iff.mp hj).1
          obtain ⟨b, hbj, hb6, h01⟩ := fndP j hj2
          rw [hbj] at hj
          cases hj
          have hbJ := hb6.tpk (tk7.trans fj.tpk)
          have Iz' := Iz.step (a := 1 - (j : Int)) ht h01
          have hf := fnd7 j hj2
          have hLj := hL7.tpk fj.tpk
          have put : ∀ z, TgtL t L' (i + 1) (ladStep t st (1 - (j : Int))) z → ∃ acc, Hj D = some (.lst acc) ∧ acc.length < sizeLine ∧ Same H7 (upd Hj D (.lst (acc ++ [.int z]))) ∧ ∃ zs : List Int, zs.length = j + 1 ∧ upd Hj D (.lst (acc ++ [.int z])) D = some (.lst (zs.map V.int)) ∧ ∀ (q : Nat) z, zs[q]? = some z → TgtL t L' (i + 1) (ladStep t st (1 - (q : Int))) z := fun z hz => by
            refine ⟨_, hDj, by rw [List.length_map, sizeLine_eq]; omega, fj.mut nD, zs ++ [z], by rw [List.length_append, hzl]; rfl, by rw [upd_same, List.map_append]; rfl, fun q y hq => ?_⟩
            by_cases hql : q < zs.length
            · rw [List.getElem?_append_left hql] at hq
              exact hzs q y hq
            · rw [List.getElem?_append_right (by omega)] at hq
              have h0 : q - zs.length = 0 := by
                have := (List.getElem?_eq_some_iff.mp hq).1
                rw [List.length_singleton] at this
                omega
              rw [h0] at hq
              cases hq
              have eq : q = j := by omega
              subst eq
              exact hz
          generalize ladStep t st (1 - (j : Int)) = u at hbJ Iz' hf put
          refine ⟨rfl, tyes ⟨_, rfl, _, rfl, d, b, kvs7, lkey t (i + 1) u, rfl, rfl, ⟨⟨o7, fj _ _ hd7⟩, hLj.keysN⟩, hbJ.nk, depth_lkey _ _ _, _, rfl, ?_⟩⟩
          by_cases hin : (i + 1, u) ∈ L'
          · obtain ⟨jj, hjj⟩ := List.getElem?_of_mem hin
            have hv := hL7.val hjj
            rw [hv]
            exact iteT ⟨_, rfl, _, rfl, d, b, kvs7, lkey t (i + 1) u, _, rfl, rfl, ⟨⟨o7, fj _ _ hd7⟩, hLj.keysN⟩, hbJ.nk, depth_lkey _ _ _, hv, put _ (.inr ⟨(J7.st _ hin).2.1, jj, hjj, rfl⟩)⟩
          · rw [(hL7.none_iff Iz').mpr hin]
            obtain ⟨ak, hb, hak⟩ := hbJ
            exact iteF ⟨_, rfl, _, rfl, b, _, 4, _, rfl, rfl, tup_of hb, atI4, _, _, rfl, rfl, put _ (.inl ⟨hf.resolve_right hin, rfl⟩)⟩
        · obtain ⟨fj, zs, hzl, hDj, hzs⟩ := h
          have hzl : zs.length = 2 := hzl
          obtain ⟨z1, z0, rfl⟩ : ∃ z1 z0, zs = [z1, z0] := by
            rcases zs with _ | ⟨b1, _ | ⟨b0, _ | ⟨b, bs⟩⟩⟩
            · cases hzl
            · cases hzl
            · exact ⟨b1, b0, rfl⟩
            · simp at hzl
          exact ⟨D, z1, z0, rfl, fj, hDj, hzs 0 z1 rfl, hzs 1 z0 rfl⟩
      rintro σ H8 ⟨D, z1, z0, rfl, f8, hD8, hz1, hz0⟩
      have hst8 := hst4.tpk (f6.tpk.trans (tk7.trans f8.tpk))
      have hN8 := f8 _ _ hN7
      refine ⟨_, rfl, .inl ⟨rfl, _, lst_of hN8⟩, _, rfl, p, t, i, st, rfl, ht, hst8, I, _, rfl, D, _, 0, _, rfl, rfl, lst_of hD8, atI0, _, rfl, D, _, 1, _, rfl, rfl, lst_of hD8, at_tup (j := 1) rfl, by show 3 ≤ sizeLine; decide, fun r nr => ?_⟩
      have gr := same_upd nr (o := .tup [.int (ladQ st), .int z1, .int z0])
      have hN9 := gr _ _ hN8
      have cap4 := I4.cap
      refine ⟨N, _, _, rfl, rfl, hN9, by rw [List.length_map, hal, sizeLine_eq]; omega, massL t (L'.drop (n + 1)), by omega, _, _, _, _, o7, kvs7, ps7, L', as ++ [r], rows ++ [[ladQ st, z1, z0]], n + 1, rfl, ((f7.trans f8).trans gr).mut nN, ?_, ?_, ?_, by rw [upd_same, List.map_append]; rfl, ?_, ?_, rfl⟩
      · rw [upd_ne NS.symm]; exact gr _ _ (f8 _ _ hS7)
      · rw [upd_ne Nd.symm]; exact gr _ _ (f8 _ _ hd7)
      · exact hL7.tpk ((f8.trans gr).tpk.trans (TpK.put hN9 fun xs z => by cases z))
      · have hRr := (hR4.tpk (f6.tpk.trans (tk7.trans (f8.trans gr).tpk))).put (b := r) (row := [ladQ st, z1, z0]) upd_same
        exact hRr.tpk (TpK.put hN9 fun xs z => by cases z)
      · have hn7 : n < L'.length := (List.getElem?_eq_some_iff.mp (pre7 n _ hLn)).1
        refine ⟨J7, by rw [List.length_append, I4.len]; rfl, hn7, fun y hy z hz => ?_, fun q y row h1 h2 => ?_, ?_⟩
        · have h1 := top7 y hy
          have h2 := J7.srt n (n + 1) _ z (Nat.le_succ n) (pre7 n _ hLn) hz
          have h2 : i ≤ z.1 := h2
          omega
        · by_cases hq : q < n
          · rw [List.getElem?_append_left (by rw [I4.len]; exact hq)] at h2
            have hql : q < L.length := by omega
            have e := List.getElem?_eq_getElem hql
            rw [pre7 q _ e] at h1
            cases h1
            exact (I4.row q _ row e h2).mono pre7
          · rw [List.getElem?_append_right (by rw [I4.len]; omega), I4.len] at h2
            have h0 : q - n = 0 := by
              have := (List.getElem?_eq_some_iff.mp h2).1
              rw [List.length_singleton] at this
              omega
            have eq : q = n := by omega
            subst eq
            rw [Nat.sub_self] at h2
            cases h2
            rw [pre7 q _ hLn] at h1
            cases h1
            exact ⟨z1, z0, rfl, hz1, hz0⟩
        · omega
    rintro σ H4 ⟨v4, v5, v6, v7, as, rows, L, rfl, f4, hN4, hR4, hW⟩
    obtain ⟨dx, hx0⟩ := hx
    have hx4 := f4 _ _ hx0
    have hst : st0 rows = 0 := by
      unfold st0
      have : 0 < rows.length := by rw [hW.len]; exact (List.getElem?_eq_some_iff.mp hW.j.z).1
      cases rows with
      | nil => simp at this
      | cons _ _ => rfl
    have G := hW.good ht
    refine ⟨_, rfl, _, rfl, x, _, dx, _, _, rfl, hx4, T.cl_Ladder, T.nA_Ladder_count, rfl, _, _, rfl, rfl, fun y dy ny nd' ndy => madeD ny nd' ndy (lst_of hN4) hR4.1 (fun q b row h1 h2 => .inl (hR4.2 q b row h1 h2)) (by rw [hst]; exact G) fun H9 w9 f9 => ?_⟩
    rw [hst] at w9
    refine ⟨rfl, ?_⟩
    exact k H9 y rows L (f4.free ny) (f4.trans f9) w9 hW
end
end K14

namespace K14
open PySem PySem.Spec PyProof.Rows L2 Gg TL
section
variable {P : Program} {w : World} {K : PySem.W.Frag} {mg : Str → Option Value} {base : Heap} {a : Ad}
theorem ok_l_ladder (T : Txt K mg a) : FnOk P w K mg base CX0 2 a.f_l_ladder a.d_l_ladder P_l_ladder (spLadder K) := by
  refine T.F_l_ladder.ok sc_l_ladder (fun vs H Q E h => ?_) (fun cdv A outer s H vs Q E hr h => ?_)
  · obtain ⟨p, c, rfl, _⟩ := h
    rfl
  · obtain ⟨p, c, rfl, hp, hc, k⟩ := h
    refine ⟨_, (Evl.pss_cut (ps_set (i := 1) sc_l_ladder.nd rfl (Or.inl rfl) (pe_op op_add pe_int (pe_call (ok_l_draw T) (hr.mono (by decide)) (by rfl) T.g_l_draw T.k_l_draw T.b_l_draw .nil pass0 (pa_cons (pv 0) (pa_cons pe_int pa_nil)))))
  (Evl.pss_cut (ps_set (i := 2) sc_l_ladder.nd rfl (Or.inl rfl) (pe_op op_add pe_int (pe_call (ok_l_draw T) (hr.mono (by decide)) (by rfl) T.g_l_draw T.k_l_draw T.b_l_draw .nil pass0 (pa_cons (pv 0) (pa_cons pe_int pa_nil)))))
  (Evl.pss_cut (ps_set (i := 3) sc_l_ladder.nd rfl (Or.inl rfl) (pe_op op_add pe_int (pe_call (ok_l_draw T) (hr.mono (by decide)) (by rfl) T.g_l_draw T.k_l_draw T.b_l_draw .nil pass0 (pa_cons (pv 0) (pa_cons (pv 1) pa_nil)))))
  (Evl.pss_cut (ps_set (i := 4) sc_l_ladder.nd rfl (Or.inl rfl) (pe_op op_add pe_int (pe_call (ok_l_draw T) (hr.mono (by decide)) (by rfl) T.g_l_draw T.k_l_draw T.b_l_draw .nil pass0 (pa_cons (pv 0) (pa_cons pe_int pa_nil)))))
  (Evl.pss_cut (ps_set (i := 5) sc_l_ladder.nd rfl (Or.inl rfl) (pe_op op_add pe_int (pe_call (ok_l_draw T) (hr.mono (by decide)) (by rfl) T.g_l_draw T.k_l_draw T.b_l_draw .nil pass0 (pa_cons (pv 0) (pa_cons pe_int pa_nil)))))
  (pss_one (ps_ret (pe_tup (pa_cons (pv 1) (pa_cons (pv 3) (pa_cons (pv 4) (pa_cons (pv 5) (pa_cons (pv 2) (pa_cons (pe_call (ok_l_draw T) (hr.mono (by decide)) (by rfl) T.g_l_draw T.k_l_draw T.b_l_draw .nil pass0 (pa_cons (pv 0) (pa_cons (pe_op op_add (pv 2) pe_int) pa_nil))) pa_nil)))))))))))))), ?_⟩
    have hlim : (1000000 : Nat) < LIM := by decide
    refine ⟨fun σ H1 => ∃ h : Int, σ = [some (.ref p), some (.int h), none, none, none, none] ∧ (1 ≤ h ∧ h ≤ 6) ∧ Gd H H1 ∧ PoolOk K p (c + 1) H1, ?_, ?_⟩
    · exact ⟨_, rfl, p, c, 6, rfl, hp, by omega, by decide, by decide, fun H1 r g1 p1 r0 r1 => ⟨_, _, rfl, rfl, 1 + r, rfl, ⟨by omega, by omega⟩, g1, p1⟩⟩
    rintro σ H1 ⟨h, rfl, hh, g1, p1⟩
    refine ⟨fun σ H2 => ∃ sz : Int, σ = [some (.ref p), some (.int h), some (.int sz), none, none, none] ∧ (1 ≤ sz ∧ sz ≤ 6) ∧ Gd H H2 ∧ PoolOk K p (c + 2) H2, ?_, ?_⟩
    · exact ⟨_, rfl, p, c + 1, 6, rfl, p1, by omega, by decide, by decide, fun H2 r g2 p2 r0 r1 => ⟨_, _, rfl, rfl, 1 + r, rfl, ⟨by omega, by omega⟩, g1.trans g2, p2⟩⟩
    rintro σ H2 ⟨sz, rfl, hsz, g2, p2⟩
    refine ⟨fun σ H3 => ∃ f : Int, σ = [some (.ref p), some (.int h), some (.int sz), some (.int f), none, none] ∧ (1 ≤ f ∧ f ≤ h) ∧ Gd H H3 ∧ PoolOk K p (c + 3) H3, ?_, ?_⟩
    · exact ⟨_, rfl, _, rfl, p, c + 2, h, rfl, p2, by omega, by omega, Int.lt_of_le_of_lt hh.2 (by decide), fun H3 r g3 p3 r0 r1 => ⟨_, _, rfl, rfl, 1 + r, rfl, ⟨by omega, by omega⟩, g2.trans g3, p3⟩⟩
    rintro σ H3 ⟨f, rfl, hf, g3, p3⟩
    refine ⟨fun σ H4 => ∃ up : Int, σ = [some (.ref p), some (.int h), some (.int sz), some (.int f), some (.int up), none] ∧ (1 ≤ up ∧ up ≤ 3) ∧ Gd H H4 ∧ PoolOk K p (c + 4) H4, ?_, ?_⟩
    · exact ⟨_, rfl, p, c + 3, 3, rfl, p3, by omega, by decide, by decide, fun H4 r g4 p4 r0 r1 => ⟨_, _, rfl, rfl, 1 + r, rfl, ⟨by omega, by omega⟩, g3.trans g4, p4⟩⟩
    rintro σ H4 ⟨up, rfl, hup, g4, p4⟩
    refine ⟨fun σ H5 => ∃ dn : Int, σ = [some (.ref p), some (.int h), some (.int sz), some (.int f), some (.int up), some (.int dn)] ∧ (1 ≤ dn ∧ dn ≤ 3) ∧ Gd H H5 ∧ PoolOk K p (c + 5) H5, ?_, ?_⟩
    · exact ⟨_, rfl, p, c + 4, 3, rfl, p4, by omega, by decide, by decide, fun H5 r g5 p5 r0 r1 => ⟨_, _, rfl, rfl, 1 + r, rfl, ⟨by omega, by omega⟩, g4.trans g5, p5⟩⟩
    rintro σ H5 ⟨dn, rfl, hdn, g5, p5⟩
    refine ⟨_, rfl, _, rfl, _, rfl, _, rfl, _, rfl, _, rfl, _, rfl, _, _, rfl, rfl, p, c + 5, sz + 1, rfl, p5, by omega, by omega, Int.lt_of_le_of_lt (b := 7) (by omega) (by decide), fun H6 r g6 p6 r0 r1 => ⟨by show 6 ≤ sizeLine; decide, fun x nx => ?_⟩⟩
    exact k _ x ⟨h, f, up, dn, sz, r⟩ (g5.trans (g6.trans (same_upd nx).gd)) (p6.upd nx) upd_same ⟨hh, hf, hup, hdn, hsz, r0, by show r ≤ sz; omega⟩
theorem ok_l_made (T : Txt K mg a) : FnOk P w K mg base CX0 3 a.f_l_made a.d_l_made P_l_made (spMade a.c_Ladder) := by
  refine T.F_l_made.ok sc_l_made (fun vs H Q E h => ?_) (fun cdv A outer s H vs Q E hr h => ?_)
  · obtain ⟨x, t, rfl, _⟩ := h
    rfl
  · obtain ⟨x, t, rfl, hx, ht, k⟩ := h
    refine ⟨_, (Evl.pss_cut (ps_asg (pv 0) (pg_tup rfl (pgs_cons (pg_name (i := 1) sc_l_made.nd rfl (Or.inl rfl)) (pgs_cons (pg_name (i := 2) sc_l_made.nd rfl (Or.inl rfl)) (pgs_cons (pg_name (i := 3) sc_l_made.nd rfl (Or.inl rfl)) (pgs_cons (pg_name (i := 4) sc_l_made.nd rfl (Or.inl rfl)) (pgs_cons (pg_name (i := 5) sc_l_made.nd rfl (Or.inl rfl)) (pgs_cons (pg_name (i := 6) sc_l_made.nd rfl (Or.inl rfl)) pgs_nil))))))))
  (pss_one (ps_ret (pe_makeN0 (gV := fun us ws => us ++ ws) T.mk_Ladder (ok_Ladder_init T) (hr.mono (by decide)) (by rfl) T.g_Ladder T.kb_Ladder_init_levels_begin_up_down_count_most_wrongs (passAt0 pass0) (pk_cons (pv 1) (pk_cons (pv 2) (pk_cons (pv 3) (pk_cons (pv 4) (pk_cons (pv 5) (pk_cons (pv 6) pk_nil)))))))))), ?_⟩
    refine ⟨fun σ H1 => σ = [some (.ref x), some (.int t.h), some (.int t.f), some (.int t.up), some (.int t.dn), some (.int t.sz), some (.int t.mo)] ∧ H1 = H, ?_, ?_⟩
    · exact ⟨_, rfl, x, _, rfl, tup_of hx, rfl, _, _, rfl, _, _, rfl, _, _, rfl, _, _, rfl, _, _, rfl, _, _, rfl, rfl, rfl, rfl⟩
    rintro σ H1 ⟨rfl, rfl⟩
    refine ⟨_, rfl, _, rfl, _, rfl, _, rfl, _, rfl, _, rfl, rfl, rfl, fun y dy ny ndy nd => ?_⟩
    have ny2 : upd H1 dy (.own y) y = none := by rw [upd_ne (fun z => nd z.symm)]; exact ny
    have s := (same_upd ndy (o := .own y)).trans (same_upd ny2 (o := .ins a.c_Ladder dy []))
    exact ⟨y, dy, t, rfl, upd_same, ht, fun H' hw f => ⟨rfl, k H' y ny (fun b u eb => f b u (ne_of_none eb ny) (s b u eb)) hw⟩⟩
end
end K14

namespace L2
open PySem PySem.Spec PyProof.Rows
/-! ## the same steps with another count -/
def lad2 (t : Lad) (sz mo : Int) : Lad := ⟨t.h, t.f, t.up, t.dn, sz, mo⟩
theorem ladS_lad2 (t : Lad) (sz mo : Int) (ans : Int → Nat → Int) : ∀ i, ladS (lad2 t sz mo) ans i = ladS t ans i
  | 0 => rfl
  | i + 1 => by
    show ladStep (lad2 t sz mo) (ladS (lad2 t sz mo) ans i) (ans (ladQ (ladS (lad2 t sz mo) ans i)) i) = _
    rw [ladS_lad2 t sz mo ans i]
    rfl
theorem ladL_lad2 (t : Lad) (sz mo : Int) (ans : Int → Nat → Int) (j : Nat) : ladL (lad2 t sz mo) ans j = ladL t ans j := by
  unfold ladL ladA
  simp only [ladS_lad2]
theorem stop_lad2 {t : Lad} {sz mo : Int} {ans : Int → Nat → Int} {i : Nat} : ladStop (lad2 t sz mo) ans i ↔ ((i : Int) = sz ∨ (0 < mo ∧ (ladS t ans i).lost = mo)) := by
  unfold ladStop
  rw [ladS_lad2]
  exact Iff.rfl
theorem lad2_ok {t : Lad} (ht : t.Ok) {sz mo : Int} (h1 : 1 ≤ sz) (h2 : sz ≤ 6) (h3 : 0 ≤ mo) (h4 : mo ≤ sz) : (lad2 t sz mo).Ok := ⟨ht.1, ht.2.1, ht.2.2.1, ht.2.2.2.1, ⟨h1, h2⟩, h3, h4⟩
theorem lost_step {t : Lad} {ans : Int → Nat → Int} (hA : ∀ q i, ans q i = 0 ∨ ans q i = 1) (i : Nat) : (ladS t ans (i + 1)).lost = (ladS t ans i).lost + (1 - ladA t ans i) := by
  show (ladStep t (ladS t ans i) (ladA t ans i)).lost = _
  have h : ladA t ans i = 0 ∨ ladA t ans i = 1 := hA _ _
  unfold ladStep
  rcases h with h | h
  · rw [h, if_neg (by decide)]
    split
    · show (ladS t ans i).lost + 1 = (ladS t ans i).lost + (1 - 0); omega
    · show (ladS t ans i).lost + 1 = (ladS t ans i).lost + (1 - 0); omega
  · rw [h, if_pos rfl]
    split
    · show (ladS t ans i).lost = (ladS t ans i).lost + (1 - 1); omega
    · show (ladS t ans i).lost = (ladS t ans i).lost + (1 - 1); omega
theorem lv_step (t : Lad) (s : LSt) (a : Int) : (ladStep t s a).lv - s.lv ≤ 1 ∧ s.lv - (ladStep t s a).lv ≤ 1 := by
  unfold ladStep
  split
  · split
    · show (if s.lv < t.h then s.lv + 1 else s.lv) - s.lv ≤ 1 ∧ s.lv - (if s.lv < t.h then s.lv + 1 else s.lv) ≤ 1
      split <;> omega
    · show s.lv - s.lv ≤ 1 ∧ s.lv - s.lv ≤ 1
      omega
  · split
    · show (if 1 < s.lv then s.lv - 1 else s.lv) - s.lv ≤ 1 ∧ s.lv - (if 1 < s.lv then s.lv - 1 else s.lv) ≤ 1
      split <;> omega
    · show s.lv - s.lv ≤ 1 ∧ s.lv - s.lv ≤ 1
      omega
theorem ladL_get {t : Lad} {ans : Int → Nat → Int} {n i : Nat} (h : i < n) : (ladL t ans n)[i]? = some [ladQ (ladS t ans i), ladA t ans i] := by
  unfold ladL
  rw [List.getElem?_map, List.getElem?_range h]
  rfl
theorem ladL_take (t : Lad) (ans : Int → Nat → Int) (n k : Nat) : (ladL t ans n).take k = ladL t ans (min k n) := by
  unfold ladL
  rw [← List.map_take, List.take_range]
/-- with one question less -/
theorem LadRun.less {t : Lad} {sz mo : Int} {ans : Int → Nat → Int} {n : Nat} (hsz : 1 ≤ sz) (h2 : ∀ i, i < n → ¬ ladStop (lad2 t sz mo) ans i) (h1 : (n : Int) ≤ sz) (h3 : ladStop (lad2 t sz mo) ans n) : LadRun (lad2 t (sz - 1) mo) ans (ladL t ans (min (sz - 1).toNat n)) := by
  by_cases hn : (n : Int) ≤ sz - 1
  · rw [Nat.min_eq_right (by omega)]
    refine ⟨n, hn, fun i hi => ?_, ?_, (ladL_lad2 _ _ _ _ _).symm⟩
    · have := h2 i hi
      rw [stop_lad2] at this ⊢
      omega
    · rw [stop_lad2] at h3 ⊢
      omega
  · rw [Nat.min_eq_left (by omega)]
    refine ⟨(sz - 1).toNat, by show (((sz - 1).toNat : Nat) : Int) ≤ sz - 1; omega, fun i hi => ?_, ?_, (ladL_lad2 _ _ _ _ _).symm⟩
    · have := h2 i (by omega)
      rw [stop_lad2] at this ⊢
      omega
    · rw [stop_lad2]
      exact .inl (by omega)
def spCut : Sp := fun vs H Q _ => ∃ (r : Addr) (as : List Addr) (t : Lad) (ans : Int → Nat → Int) (mo : Int), vs = [.ref r, .int mo] ∧ H r = some (.tup (as.map V.ref)) ∧ 1 ≤ t.sz ∧ t.sz ≤ 6 ∧ 0 ≤ mo ∧ (∀ q i, ans q i = 0 ∨ ans q i = 1) ∧ RowsAt H as (ladL t ans t.sz.toNat) ∧
  ∀ H' r' as' rows', Same H H' → H' r' = some (.tup (as'.map V.ref)) → RowsAt H' as' rows' → LadRun (lad2 t t.sz mo) ans rows' → Q (.ref r') H'
end L2

namespace L2
open PySem PySem.Spec PyProof.Rows
/-! ## a ladder and its mirror -/
def oppI (h q : Int) : Int := (h - 1 - q / 8) * 8 + q % 8
theorem opp_rng {h q : Int} (h0 : 0 ≤ q) (h1 : q < 8 * h) : 0 ≤ oppI h q ∧ oppI h q < 8 * h ∧ oppI h (oppI h q) = q := by
  unfold oppI
  omega
def mirT (t : Lad) : Lad := ⟨t.h, t.h + 1 - t.f, t.dn, t.up, t.sz, t.mo⟩
theorem mirT_ok {t : Lad} (ht : t.Ok) : (mirT t).Ok := by
  obtain ⟨h1, h2, h3, h4, h5, h6⟩ := ht
  exact ⟨h1, by show 1 ≤ t.h + 1 - t.f ∧ t.h + 1 - t.f ≤ t.h; omega, h4, h3, h5, h6⟩
structure Mir (t : Lad) (i : Nat) (s u : LSt) : Prop where
  lv : u.lv = t.h + 1 - s.lv
  ups : u.ups = s.dns
  dns : u.dns = s.ups
  as : ∀ k : Nat, k < t.h.toNat → u.as[k]? = s.as[t.h.toNat - 1 - k]?
  lost : u.lost = (i : Int) - s.lost
section
variable {t : Lad} {i : Nat} {s u : LSt}
theorem Mir.at (ht : t.Ok) (I : LInv t i s) (J : LInv (mirT t) i u) (M : Mir t i s u) : u.at_ = s.at_ ∧ t.h.toNat - 1 - (u.lv - 1).toNat = (s.lv - 1).toNat := by
  have h1 := I.get ht
  have h2 := J.get (mirT_ok ht)
  have hl := I.lv
  have hu := M.lv
  have e : t.h.toNat - 1 - (u.lv - 1).toNat = (s.lv - 1).toNat := by omega
  refine ⟨?_, e⟩
  have hk : (u.lv - 1).toNat < t.h.toNat := h2.2
  have := M.as _ hk
  rw [e, h1.1, h2.1] at this
  exact Option.some.inj this
theorem Mir.q (ht : t.Ok) (I : LInv t i s) (J : LInv (mirT t) i u) (M : Mir t i s u) (hi : (i : Int) < t.sz) : ladQ u = oppI t.h (ladQ s) := by
  obtain ⟨d1, d2⟩ := ladQ_div ht I hi
  unfold oppI
  rw [d1, d2]
  have := (M.at ht I J).1
  have := M.lv
  unfold ladQ
  omega
theorem LInv.q8 (ht : t.Ok) (I : LInv t i s) (hi : (i : Int) < t.sz) : 0 ≤ ladQ s ∧ ladQ s < 8 * t.h := by
  have he := I.ent _ _ (I.get ht).1
  have hl := I.lv
  have h5 := ht.2.2.2.2.1
  unfold ladQ
  omega
theorem Mir.step (ht : t.Ok) (I : LInv t i s) (J : LInv (mirT t) i u) (M : Mir t i s u) {a : Int} (ha : a = 0 ∨ a = 1) : Mir t (i + 1) (ladStep t s a) (ladStep (mirT t) u (1 - a)) := by
  obtain ⟨ea, el⟩ := M.at ht I J
  have hl := I.lv
  have hlv := M.lv
  have has : ∀ k : Nat, k < t.h.toNat → u.asked[k]? = s.asked[t.h.toNat - 1 - k]? := fun k hk => by
    unfold LSt.asked
    rw [ea, List.getElem?_set, List.getElem?_set]
    have hul : (u.lv - 1).toNat < u.as.length := (List.getElem?_eq_some_iff.mp (J.get (mirT_ok ht)).1).1
    have hsl : (s.lv - 1).toNat < s.as.length := (List.getElem?_eq_some_iff.mp (I.get ht).1).1
    by_cases e : (u.lv - 1).toNat = k
    · rw [if_pos e, if_pos (by omega), if_pos (by omega), if_pos (by omega)]
    · rw [if_neg e, if_neg (by omega)]
      exact M.as k hk
  have hd := M.dns
  have hu := M.ups
  have ho := M.lost
  have e1 : ∀ (t : Lad) (s : LSt), ladStep t s 1 = if s.ups + 1 = t.up then ⟨if s.lv < t.h then s.lv + 1 else s.lv, 0, 0, s.asked, s.lost⟩ else ⟨s.lv, s.ups + 1, 0, s.asked, s.lost⟩ := fun t s => if_pos rfl
  have e0 : ∀ (t : Lad) (s : LSt), ladStep t s 0 = if s.dns + 1 = t.dn then ⟨if 1 < s.lv then s.lv - 1 else s.lv, 0, 0, s.asked, s.lost + 1⟩ else ⟨s.lv, 0, s.dns + 1, s.asked, s.lost + 1⟩ := fun t s => if_neg (by decide)
  have hup : (mirT t).up = t.dn := rfl
  have hdn : (mirT t).dn = t.up := rfl
  have hh : (mirT t).h = t.h := rfl
  rcases ha with rfl | rfl
  · rw [show (1 : Int) - 0 = 1 by decide, e0, e1]
    by_cases c : s.dns + 1 = t.dn
    · rw [if_pos c, if_pos (show u.ups + 1 = (mirT t).up by rw [hu, hup]; exact c)]
      refine ⟨?_, rfl, rfl, has, ?_⟩
      · show (if u.lv < (mirT t).h then u.lv + 1 else u.lv) = t.h + 1 - (if 1 < s.lv then s.lv - 1 else s.lv)
        rw [hh]
        split <;> split <;> omega
      · show u.lost = ((i + 1 : Nat) : Int) - (s.lost + 1)
        omega
    · rw [if_neg c, if_neg (show ¬ u.ups + 1 = (mirT t).up by rw [hu, hup]; exact c)]
      exact ⟨hlv, by show u.ups + 1 = s.dns + 1; omega, rfl, has, by show u.lost = ((i + 1 : Nat) : Int) - (s.lost + 1); omega⟩
  · rw [show (1 : Int) - 1 = 0 by decide, e0, e1]
    by_cases c : s.ups + 1 = t.up
    · rw [if_pos c, if_pos (show u.dns + 1 = (mirT t).dn by rw [hd, hdn]; exact c)]
      refine ⟨?_, rfl, rfl, has, ?_⟩
      · show (if 1 < u.lv then u.lv - 1 else u.lv) = t.h + 1 - (if s.lv < t.h then s.lv + 1 else s.lv)
        split <;> split <;> omega
      · show u.lost + 1 = ((i + 1 : Nat) : Int) - s.lost
        omega
    · rw [if_neg c, if_neg (show ¬ u.dns + 1 = (mirT t).dn by rw [hd, hdn]; exact c)]
      exact ⟨hlv, rfl, by show u.dns + 1 = s.ups + 1; omega, has, by show u.lost + 1 = ((i + 1 : Nat) : Int) - s.lost; omega⟩
end
theorem mir0 {t : Lad} (ht : t.Ok) : Mir t 0 (lad0 t) (lad0 (mirT t)) := by
  refine ⟨rfl, rfl, rfl, fun k hk => ?_, rfl⟩
  have h1 := ht.1
  show ([0, 0, 0, 0, 0, 0] : List Int)[k]? = ([0, 0, 0, 0, 0, 0] : List Int)[t.h.toNat - 1 - k]?
  have e : ([0, 0, 0, 0, 0, 0] : List Int) = List.replicate 6 0 := rfl
  rw [e, List.getElem?_replicate, List.getElem?_replicate, if_pos (by omega), if_pos (by omega)]
theorem mir_all {t : Lad} (ht : t.Ok) {ans ans' : Int → Nat → Int} (hA : ∀ q i, ans q i = 0 ∨ ans q i = 1) (hA' : ∀ q i, ans' q i = 0 ∨ ans' q i = 1) (h : ∀ q i, 0 ≤ q → q < 8 * t.h → ans' (oppI t.h q) i = 1 - ans q i) : ∀ i : Nat, (i : Int) ≤ t.sz → Mir t i (ladS t ans i) (ladS (mirT t) ans' i)
  | 0, _ => mir0 ht
  | i + 1, hi => by
    have M := mir_all ht hA hA' h i (by omega)
    have I := ladS_inv ht hA i
    have J := ladS_inv (mirT_ok ht) hA' i
    have hq := M.q ht I J (by omega)
    obtain ⟨q0, q1⟩ := I.q8 ht (by omega)
    show Mir t (i + 1) (ladStep t (ladS t ans i) (ans (ladQ (ladS t ans i)) i)) (ladStep (mirT t) (ladS (mirT t) ans' i) (ans' (ladQ (ladS (mirT t) ans' i)) i))
    rw [hq, h _ _ q0 q1]
    exact M.step ht I J (hA _ _)
theorem mir_rows {t : Lad} (ht : t.Ok) {ans ans' : Int → Nat → Int} (hA : ∀ q i, ans q i = 0 ∨ ans q i = 1) (hA' : ∀ q i, ans' q i = 0 ∨ ans' q i = 1) (h : ∀ q i, 0 ≤ q → q < 8 * t.h → ans' (oppI t.h q) i = 1 - ans q i) (i : Nat) (hi : (i : Int) < t.sz) :
    ladQ (ladS (mirT t) ans' i) = oppI t.h (ladQ (ladS t ans i)) ∧ ladA (mirT t) ans' i = 1 - ladA t ans i := by
  have M := mir_all ht hA hA' h i (by omega)
  have I := ladS_inv ht hA i
  have J := ladS_inv (mirT_ok ht) hA' i
  have hq := M.q ht I J hi
  obtain ⟨q0, q1⟩ := I.q8 ht hi
  refine ⟨hq, ?_⟩
  unfold ladA
  rw [hq, h _ _ q0 q1]
/-- without a number of wrongs the run has all questions -/
theorem LadRun.full {t : Lad} {ans : Int → Nat → Int} {rows : List (List Int)} (hm : t.mo = 0) (h : LadRun t ans rows) : rows = ladL t ans t.sz.toNat := by
  obtain ⟨j, hj, _, hs, rfl⟩ := h
  rcases hs with hs | hs
  · rw [show j = t.sz.toNat by omega]
  · rw [hm] at hs
    exact absurd hs.1 (by decide)
theorem stop_full {t : Lad} {ans : Int → Nat → Int} {j : Nat} (hm : t.mo = 0) (h : ladStop t ans j) : j = t.sz.toNat := by
  rcases h with hs | hs
  · omega
  · rw [hm] at hs
    exact absurd hs.1 (by decide)
def spOppo : Sp := fun vs H Q _ => ∃ (q h : Int), vs = [.int q, .int h] ∧ 0 ≤ q ∧ q < 48 ∧ 1 ≤ h ∧ h ≤ 6 ∧ Q (.int (oppI h q)) H
end L2

namespace K14
open PySem PySem.Spec PyProof.Rows L2 Gg TL
section
variable {P : Program} {w : World} {K : PySem.W.Frag} {mg : Str → Option Value} {base : Heap} {a : Ad}
theorem noPz {σ : L2.St} {H : Hp} {Q : Option Int → Hp → Prop} (h : Q none H) : tNoPart σ H Q := h
theorem ok_l_cut (T : Txt K mg a) : FnOk P w K mg base CX0 1 a.f_l_cut a.d_l_cut P_l_cut spCut := by
  refine T.F_l_cut.ok sc_l_cut (fun vs H Q E h => ?_) (fun cdv A outer s H vs Q E hr h => ?_)
  · obtain ⟨r, as, t, ans, mo, rfl, _⟩ := h
    rfl
  · obtain ⟨r, as, t, ans, mo, rfl, hr0, z1, z6, m0, hA, hR, k⟩ := h
    refine ⟨_, (Evl.pss_cut (ps_set (i := 2) sc_l_cut.nd rfl (Or.inl rfl) pe_int)
  (Evl.pss_cut (ps_for PassesOwn.never rfl (pi_range1 (by rfl) T.z_range (pa_cons (pe_callB call_len_seq (by rfl) T.z_len (by decide +kernel) (pa_cons (pv 0) pa_nil)) pa_nil)) (pg_name (i := 3) sc_l_cut.nd rfl (Or.inl rfl))
    (Evl.pss_cut (ps_set (i := 2) sc_l_cut.nd rfl (Or.inl rfl) (pe_op op_sub (pe_op op_add (pv 2) pe_int) (pe_ix ix_tup (pe_ix ix_tup (pv 0) (pv 3) (by intro _ _; rfl)) pe_int (by intro _ _; rfl))))
  (pss_one (ps_if (PW.pt (pw_and (pt_cmpR op_gt (pv 1) pe_int (nomark _)) (pw_and1 (pt_cmpR op_eq (pv 2) (pv 1) (nomark _)))))
    (pss_one (ps_ret (pe_slice sl_tupA (pv 0) po_none (po_some (pe_op op_add (pv 3) pe_int)))))
    pss_nil))))
  (pss_one (ps_ret (pv 0))))), ?_⟩
    have hal : as.length = t.sz.toNat := by rw [hR.1, ladL_len]
    refine ⟨fun σ H1 => σ = [some (.ref r), some (.int mo), some (.int 0), none] ∧ H1 = H, ⟨rfl, rfl⟩, ?_⟩
    rintro σ H1 ⟨rfl, rfl⟩
    refine ⟨fun σ H2 => ∃ v3, σ = [some (.ref r), some (.int mo), some (.int (ladS t ans t.sz.toNat).lost), v3] ∧ H2 = H1 ∧ ∀ i, i < t.sz.toNat → ¬ ladStop (lad2 t t.sz mo) ans i, ?_, ?_⟩
    · refine ⟨_, rfl, r, _, rfl, .inr (tup_of hr0), _, rfl, by rw [List.length_map, hal]; omega, by rw [List.length_map, hal]; exact Int.lt_of_le_of_lt (b := 6) (by omega) (by decide), ?_⟩
      have hl0 : (ladS t ans 0).lost = 0 := rfl
      refine for_range (lo := 0) (n := ((((as.map V.ref).length : Nat) : Int)).toNat) (fun i σ H2 => ∃ v3, σ = [some (.ref r), some (.int mo), some (.int (ladS t ans i).lost), v3] ∧ H2 = H1 ∧ ∀ j, j < i + 1 → j < t.sz.toNat → ¬ ladStop (lad2 t t.sz mo) ans j) ⟨_, rfl, rfl, fun j hj hj2 => ?_⟩ ?_ (fun σ H2 h => ?_)
      · have : j = 0 := by omega
        subst this
        rw [stop_lad2, hl0]
        omega
      · rintro i σ H2 hi ⟨v3, rfl, rfl, hno⟩
        rw [List.length_map, hal] at hi
        have hi' : i < t.sz.toNat := by omega
        obtain ⟨b, row, hb, hrow, hbH⟩ := rows_get hR (show i < (ladL t ans t.sz.toNat).length by rw [ladL_len]; exact hi')
        rw [ladL_get hi'] at hrow
        cases hrow
        refine ⟨fun σ H3 => σ = [some (.ref r), some (.int mo), some (.int (ladS t ans (i + 1)).lost), some (.int (i : Int))] ∧ H3 = H2, ?_, ?_⟩
        · rw [Int.zero_add]
          refine ⟨_, rfl, _, _, rfl, rfl, _, rfl, _, rfl, r, _, (i : Int), _, rfl, rfl, tup_of hr0, at_tup (by rw [List.getElem?_map, hb]; rfl), b, _, 1, _, rfl, rfl, tup_of hbH, at_tup (j := 1) rfl, _, _, rfl, rfl, ?_⟩
          rw [lost_step hA]
          exact ⟨congrArg (fun z : Int => ([some (.ref r), some (.int mo), some (.int z), some (.int (i : Int))] : List (Option V))) (show (ladS t ans i).lost + 1 - ladA t ans i = (ladS t ans i).lost + (1 - ladA t ans i) by omega), rfl⟩
        rintro σ H3 ⟨rfl, rfl⟩
        have next : ¬ (0 < mo ∧ (ladS t ans (i + 1)).lost = mo) → ∃ v3, ([some (.ref r), some (.int mo), some (.int (ladS t ans (i + 1)).lost), some (.int (i : Int))] : L2.St) = [some (.ref r), some (.int mo), some (.int (ladS t ans (i + 1)).lost), v3] ∧ H3 = H3 ∧ ∀ j, j < i + 1 + 1 → j < t.sz.toNat → ¬ ladStop (lad2 t t.sz mo) ans j := fun hn => by
          refine ⟨_, rfl, rfl, fun j hj hj2 => ?_⟩
          by_cases e : j = i + 1
          · subst e
            rw [stop_lad2]
            omega
          · exact hno j (by omega) hj2
        refine ⟨_, rfl, _, _, rfl, rfl, _, rfl, ?_⟩
        by_cases h1 : 0 < mo
        · rw [decide_eq_true h1]
          refine ⟨_, rfl, _, rfl, rfl, _, rfl, ?_⟩
          by_cases h2 : (ladS t ans (i + 1)).lost = mo
          · rw [decide_eq_true (show V.int (ladS t ans (i + 1)).lost = V.int mo by rw [h2])]
            refine iteT ⟨_, rfl, noPz ⟨_, rfl, _, _, rfl, rfl, _, rfl, ?_⟩⟩
            rw [show (i : Int) + 1 = ((i + 1 : Nat) : Int) by omega]
            refine slA_toV hr0 fun H4 r1 f4 hr1 => ?_
            rw [← List.map_take] at hr1
            refine k H4 r1 _ _ f4 hr1 ((hR.take (i + 1)).same f4) ?_
            rw [ladL_take]
            have hle : i + 1 ≤ t.sz.toNat := hi'
            rw [Nat.min_eq_left hle]
            refine ⟨i + 1, by show ((i + 1 : Nat) : Int) ≤ t.sz; omega, fun j hj => hno j hj (by omega), ?_, (ladL_lad2 _ _ _ _ _).symm⟩
            rw [stop_lad2]
            exact .inr ⟨h1, h2⟩
          · rw [decide_eq_false (show ¬ V.int (ladS t ans (i + 1)).lost = V.int mo from fun z => h2 (by injection z))]
            exact iteF (next fun z => h2 z.2)
        · rw [decide_eq_false h1]
          exact iteF (next fun z => h1 z.1)
      · obtain ⟨v3, rfl, rfl, hno⟩ := h
        have e : ((((as.map V.ref).length : Nat) : Int)).toNat = t.sz.toNat := by rw [List.length_map, hal]; omega
        rw [e] at hno ⊢
        exact ⟨_, rfl, rfl, fun i hi => hno i (by omega) hi⟩
    rintro σ H2 ⟨v3, rfl, rfl, hno⟩
    refine ⟨_, rfl, k _ r as _ (Same.refl _) hr0 hR ⟨t.sz.toNat, by show ((t.sz.toNat : Nat) : Int) ≤ t.sz; omega, hno, ?_, (ladL_lad2 _ _ _ _ _).symm⟩⟩
    rw [stop_lad2]
    exact .inl (by omega)
def sp_law (K : PySem.W.Frag) : Sp := fun vs H Q _ => ∃ (x : Addr) (ns : List Int), vs = [.ref x] ∧ ScrAt K H x (ns.map V.int) ∧ ns.length ≤ 63 ∧ ∀ H', Q (.bl true) H'
theorem ok_law (T : Txt K mg a) : FnOk P w K mg base CX0 12 a.f_law a.d_law P_law (sp_law K) := by
  refine T.F_law.ok sc_law (fun vs H Q E h => ?_) (fun cdv A outer s H vs Q E hr h => ?_)
  · obtain ⟨x, ns, rfl, _⟩ := h
    rfl
  · obtain ⟨x, ns, rfl, hx, hl, k⟩ := h
    refine ⟨_, (Evl.pss_cut (ps_set (i := 1) sc_law.nd rfl (Or.inr rfl) (pe_call (ok_l_pool T) (hr.mono (by decide)) (by rfl) T.g_l_pool T.k_l_pool T.b_l_pool .nil pass0 (pa_cons (pv 0) pa_nil)))
  (Evl.pss_cut (ps_asg (pe_call (ok_l_ladder T) (hr.mono (by decide)) (by rfl) T.g_l_ladder T.k_l_ladder T.b_l_ladder .nil pass0 (pa_cons (pv 1) pa_nil)) (pg_tup rfl (pgs_cons (pg_name (i := 2) sc_law.nd rfl (Or.inl rfl)) (pgs_cons (pg_name (i := 3) sc_law.nd rfl (Or.inl rfl)) (pgs_cons (pg_name (i := 4) sc_law.nd rfl (Or.inl rfl)) (pgs_cons (pg_name (i := 5) sc_law.nd rfl (Or.inl rfl)) (pgs_cons (pg_name (i := 6) sc_law.nd rfl (Or.inl rfl)) (pgs_cons (pg_name (i := 7) sc_law.nd rfl (Or.inl rfl)) pgs_nil))))))))
  (Evl.pss_cut (ps_set (i := 6) sc_law.nd rfl (Or.inl rfl) (pe_callB (call_max2 rfl) (by rfl) T.z_max (by decide +kernel) (pa_cons pe_int (pa_cons (pe_callTy call_int1 (by rfl) T.z_int (by decide +kernel) (pa_cons (pv 6) pa_nil)) pa_nil))))
  (Evl.pss_cut (ps_set (i := 8) sc_law.nd rfl (Or.inl rfl) (pe_make T.mk_Pupil (ok_Pupil_init T) (hr.mono (by decide)) (by rfl) T.g_Pupil T.b_Pupil_init .nil pass0 (pa_cons (pe_lc (own := [("_law_question", 15)]) (g := gName 15) (tt := (tTest (tOp rEq (tCall (spDraw K) [] E0 (tCons (tVar 1) (tCons (tC (.int 2)) tNil))) (tC (.int 1))))) (te := (tVar 15)) rfl sc_law.nd (pi_range1 (by rfl) T.z_range (pa_cons pe_int pa_nil)) (blkOk_by (N := N_law) (sc := defScope s_law) (by decide +kernel)) (fun _ _ _ _ _ => pg_name (i := 15) sc_law.nd rfl (Or.inl rfl)) (fun _ _ _ _ _ => by exact (pts_one (pt_cmpR op_eq (pe_call (ok_l_draw T) (hr.mono (by decide)) (by rfl) T.g_l_draw T.k_l_draw T.b_l_draw .nil pass0 (pa_cons (pv 1) (pa_cons pe_int pa_nil))) pe_int (nomark _)))) (fun _ _ _ _ _ => by exact (pv 15))) pa_nil)))
  (Evl.pss_cut (ps_set (i := 9) sc_law.nd rfl (Or.inl rfl) (pe_call (ok_ladder_run T) (hr.mono (by decide)) (by rfl) T.g_ladder_run T.k_ladder_run T.b_ladder_run .nil pass0 (pa_cons (pe_call (ok_l_made T) (hr.mono (by decide)) (by rfl) T.g_l_made T.k_l_made T.b_l_made .nil pass0 (pa_cons (pe_tup (pa_cons (pv 2) (pa_cons (pv 3) (pa_cons (pv 4) (pa_cons (pv 5) (pa_cons (pv 6) (pa_cons pe_int pa_nil))))))) pa_nil)) (pa_cons (pv 8) pa_nil))))
  (Evl.pss_cut (ps_if (pt_cmpR op_ne (pe_callB call_len_seq (by rfl) T.z_len (by decide +kernel) (pa_cons (pv 9) pa_nil)) (pv 6) (nomark _))
    (pss_one (ps_ret pe_bl))
    pss_nil)
  (Evl.pss_cut (ps_for PassesOwn.never rfl (pi_range1 (by rfl) T.z_range (pa_cons (pe_op op_add (pv 6) pe_int) pa_nil)) (pg_name (i := 10) sc_law.nd rfl (Or.inl rfl))
    (Evl.pss_cut (ps_set (i := 11) sc_law.nd rfl (Or.inl rfl) (pe_call (ok_l_made T) (hr.mono (by decide)) (by rfl) T.g_l_made T.k_l_made T.b_l_made .nil pass0 (pa_cons (pe_tup (pa_cons (pv 2) (pa_cons (pv 3) (pa_cons (pv 4) (pa_cons (pv 5) (pa_cons (pv 6) (pa_cons (pv 10) pa_nil))))))) pa_nil)))
  (Evl.pss_cut (ps_set (i := 12) sc_law.nd rfl (Or.inl rfl) (pe_call (ok_ladder_run T) (hr.mono (by decide)) (by rfl) T.g_ladder_run T.k_ladder_run T.b_ladder_run .nil pass0 (pa_cons (pv 11) (pa_cons (pv 8) pa_nil))))
  (Evl.pss_cut (ps_if (PW.pt (pw_or (pt_cmpR (op_neD hr.units) (pv 12) (pe_call (ok_l_cut T) (hr.mono (by decide)) (by rfl) T.g_l_cut T.k_l_cut T.b_l_cut .nil pass0 (pa_cons (pv 9) (pa_cons (pv 10) pa_nil))) (nomark _)) (pw_or1 (pt_cmpR (op_neD hr.units) (pe_call (ok_run_of T) (hr.mono (by decide)) (by rfl) T.g_run_of T.k_run_of T.b_run_of .nil pass0 (pa_cons (pe_call (ok_build T) (hr.mono (by decide)) (by rfl) T.g_build T.k_build T.b_build .nil pass0 (pa_cons (pv 11) pa_nil)) (pa_cons (pv 8) pa_nil))) (pv 12) (nomark _)))))
    (pss_one (ps_ret pe_bl))
    pss_nil)
  (Evl.pss_cut (ps_if (pt_cmpR op_ne (pe_call (ok_end_of T) (hr.mono (by decide)) (by rfl) T.g_end_of T.k_end_of T.bd_end_of T.vd_end_of passL (pa_cons (pe_call (ok_build T) (hr.mono (by decide)) (by rfl) T.g_build T.k_build T.b_build .nil pass0 (pa_cons (pv 11) pa_nil)) (pa_cons (pv 8) pa_nil))) (pe_callB call_len_seq (by rfl) T.z_len (by decide +kernel) (pa_cons (pe_lc (own := [("_law_question", 15), ("_law_answer", 16)]) (g := (gTup K 2 (gCons (gName 15) (gCons (gName 16) L2.gNil)))) (tt := (tTest (tOp rEq (tVar 16) (tC (.int 1))))) (te := (tVar 16)) rfl sc_law.nd (pi_tup (pv 12)) (blkOk_by (N := N_law) (sc := defScope s_law) (by decide +kernel)) (fun _ _ _ _ _ => by exact (pg_tup rfl (pgs_cons (pg_name (i := 15) sc_law.nd rfl (Or.inl rfl)) (pgs_cons (pg_name (i := 16) sc_law.nd rfl (Or.inl rfl)) pgs_nil)))) (fun _ _ _ _ _ => by exact (pts_one (pt_cmpR op_eq (pv 16) pe_int (nomark _)))) (fun _ _ _ _ _ => by exact (pv 16))) pa_nil)) (nomark _))
    (pss_one (ps_ret pe_bl))
    pss_nil)
  (Evl.pss_cut (ps_if (pt_cmpR op_lt (pv 10) (pv 6) (nomark _))
    (pss_cons (ps_set (i := 13) sc_law.nd rfl (Or.inl rfl) (pe_call (ok_l_made T) (hr.mono (by decide)) (by rfl) T.g_l_made T.k_l_made T.b_l_made .nil pass0 (pa_cons (pe_tup (pa_cons (pv 2) (pa_cons (pv 3) (pa_cons (pv 4) (pa_cons (pv 5) (pa_cons (pe_op op_sub (pv 6) pe_int) (pa_cons (pv 10) pa_nil))))))) pa_nil)))
  (pss_one (ps_if (pt_cmpR (op_neD hr.units) (pe_call (ok_ladder_run T) (hr.mono (by decide)) (by rfl) T.g_ladder_run T.k_ladder_run T.b_ladder_run .nil pass0 (pa_cons (pv 13) (pa_cons (pv 8) pa_nil))) (pe_slice sl_tupA (pv 12) po_none (po_some (pe_op op_sub (pv 6) pe_int))) (nomark _))
    (pss_one (ps_ret pe_bl))
    pss_nil)))
    pss_nil)
  (pss_one (ps_for PassesOwn.never rfl (pi_range2 (by rfl) T.z_range (pa_cons pe_int (pa_cons (pe_callB call_len_seq (by rfl) T.z_len (by decide +kernel) (pa_cons (pv 12) pa_nil)) pa_nil))) (pg_name (i := 14) sc_law.nd rfl (Or.inl rfl))
    (pss_one (ps_if (pt_cmpR op_gt (pe_callB call_abs (by rfl) T.z_abs (by decide +kernel) (pa_cons (pe_op op_sub (pe_op op_fdivW (pe_ix ix_tup (pe_ix ix_tup (pv 12) (pv 14) (by intro _ _; rfl)) pe_int (by intro _ _; rfl)) pe_int) (pe_op op_fdivW (pe_ix ix_tup (pe_ix ix_tup (pv 12) (pe_op op_sub (pv 14) pe_int) (by intro _ _; rfl)) pe_int (by intro _ _; rfl)) pe_int)) pa_nil)) pe_int (nomark _))
    (pss_one (ps_ret pe_bl))
    pss_nil))))))))))
  (pss_one (ps_ret (pe_cmpR (op_eqD hr.units) (pv 9) (pe_call (ok_ladder_run T) (hr.mono (by decide)) (by rfl) T.g_ladder_run T.k_ladder_run T.b_ladder_run .nil pass0 (pa_cons (pe_call (ok_l_made T) (hr.mono (by decide)) (by rfl) T.g_l_made T.k_l_made T.b_l_made .nil pass0 (pa_cons (pe_tup (pa_cons (pv 2) (pa_cons (pv 3) (pa_cons (pv 4) (pa_cons (pv 5) (pa_cons (pv 6) (pa_cons pe_int pa_nil))))))) pa_nil)) (pa_cons (pv 8) pa_nil))) (nomark _))))))))))), ?_⟩
    have hlim : (1000000 : Nat) < LIM := by decide
    refine ⟨fun σ H1 => ∃ p, σ = [some (.ref x), some (.ref p), none, none, none, none, none, none, none, none, none, none, none, none, none, none, none] ∧ PoolOk K p 0 H1, ⟨_, rfl, x, ns, rfl, hx, fun p H1 np f1 p1 => ⟨p, rfl, p1⟩⟩, ?_⟩
    rintro σ H1 ⟨p, rfl, p1⟩
    refine ⟨fun σ H2 => ∃ t : Lad, σ = [some (.ref x), some (.ref p), some (.int t.h), some (.int t.f), some (.int t.up), some (.int t.dn), some (.int t.sz), some (.int t.mo), none, none, none, none, none, none, none, none, none] ∧ PoolOk K p 6 H2 ∧ t.Ok, ?_, ?_⟩
    · exact ⟨_, rfl, p, 0, rfl, p1, by omega, fun H2 y t g2 p2 hy ht => ⟨y, _, rfl, tup_of hy, rfl, _, _, rfl, _, _, rfl, _, _, rfl, _, _, rfl, _, _, rfl, _, _, rfl, rfl, t, rfl, p2, ht⟩⟩
    rintro σ H2 ⟨tt, rfl, p2, htt⟩
    refine ⟨fun σ H3 => ∃ t : Lad, σ = [some (.ref x), some (.ref p), some (.int t.h), some (.int t.f), some (.int t.up), some (.int t.dn), some (.int t.sz), some (.int tt.mo), none, none, none, none, none, none, none, none, none] ∧ H3 = H2 ∧ t.Ok ∧ 2 ≤ t.sz ∧ t.mo = 0, ?_, ?_⟩
    · obtain ⟨h1, h2, h3, h4, h5, _⟩ := htt
      refine ⟨_, rfl, .inl ⟨_, rfl, 2, tt.sz, rfl, lad2 tt (if tt.sz > 2 then tt.sz else 2) 0, rfl, rfl, ⟨h1, h2, h3, h4, ?_, Int.le_refl 0, ?_⟩, ?_, rfl⟩⟩
      · show 1 ≤ (if tt.sz > 2 then tt.sz else 2) ∧ (if tt.sz > 2 then tt.sz else 2) ≤ 6
        split <;> omega
      · show 0 ≤ (if tt.sz > 2 then tt.sz else 2)
        split <;> omega
      · show 2 ≤ (if tt.sz > 2 then tt.sz else 2)
        split <;> omega
    rintro σ H3 ⟨t, rfl, rfl, ht, ht2, hmo⟩
    generalize tt.mo = mo0
    have hh := ht.1
    have hsz := ht.2.2.2.2.1
    refine ⟨fun σ H4 => ∃ u, ∃ l : List Int, σ = [some (.ref x), some (.ref p), some (.int t.h), some (.int t.f), some (.int t.up), some (.int t.dn), some (.int t.sz), some (.int mo0), some (.ref u), none, none, none, none, none, none, none, none] ∧ PupAt a.c_Pupil H4 u l, ?_, ?_⟩
    · refine ⟨_, rfl, by decide, by decide, fun D nD => ?_⟩
      refine lc_range (lo := 0) (n := (48 : Int).toNat) (fun i H5 => ∃ l : List Int, PoolOk K p (6 + i) H5 ∧ H5 D = some (.lst (l.map V.int)) ∧ l.length ≤ i ∧ ∀ q ∈ l, 0 ≤ q ∧ q < 48) ⟨[], p2.upd nD, upd_same, Nat.le_refl _, fun z h => nomatch h⟩ (fun i H5 hi h => ?_) (fun H5 h => ?_)
      · obtain ⟨l, p5, hD, hll, hm⟩ := h
        have hi : i < 48 := hi
        refine ⟨rfl, _, rfl, p, 6 + i, 2, rfl, p5, by omega, by decide, by decide, fun H6 r g6 p6 r0 r1 => ⟨rfl, _, rfl, ?_⟩⟩
        have hD6 := g6.1 _ _ (np_ints _) hD
        refine ite2 (fun _ => ?_) (fun _ => ⟨l, p6, hD6, by omega, hm⟩)
        refine ⟨_, rfl, _, hD6, by rw [List.length_map, sizeLine_eq]; omega, l ++ [0 + (i : Int)], p6.mut hD6 (np_ints _), by rw [upd_same, List.map_append]; rfl, by rw [List.length_append]; exact Nat.succ_le_succ hll, fun q hq => ?_⟩
        rcases List.mem_append.mp hq with h | h
        · exact hm q h
        · rw [List.mem_singleton.mp h]; omega
      · obtain ⟨l, p5, hD, hll, hm⟩ := h
        have hll : l.length ≤ 48 := hll
        exact pup_make (l := l) (.inl (lst_of hD)) (by omega) hm fun u H6 nu f6 pu => ⟨u, l, rfl, pu⟩
    rintro σ H4 ⟨u, l, rfl, pu4⟩
    obtain ⟨ans, hans⟩ : ∃ ans : Int → Nat → Int, ans = fun q _ => if q ∈ norm l then 1 else 0 := ⟨_, rfl⟩
    have hA : ∀ q i, ans q i = 0 ∨ ans q i = 1 := fun q i => by rw [hans]; dsimp only; split <;> omega
    obtain ⟨n, hn⟩ : ∃ n : Nat, n = t.sz.toNat := ⟨_, rfl⟩
    have hnz : (n : Int) = t.sz := by omega
    -- the longest run
    have longest : ∀ rows, LadRun t (fun q _ => if q ∈ norm l then 1 else 0) rows → rows = ladL t ans n := fun rows hrun => by
      rw [← hans] at hrun
      have e := hrun.full hmo
      rw [← hn] at e
      exact e
    have eLad : (HO.tup [.int t.h, .int t.f, .int t.up, .int t.dn, .int t.sz, .int 0] : HO) = .tup (ladV t) := by unfold ladV; rw [hmo]
    refine ⟨fun σ H5 => ∃ r, ∃ as : List Addr, σ = [some (.ref x), some (.ref p), some (.int t.h), some (.int t.f), some (.int t.up), some (.int t.dn), some (.int t.sz), some (.int mo0), some (.ref u), some (.ref r), none, none, none, none, none, none, none] ∧ PupAt a.c_Pupil H5 u l ∧ H5 r = some (.tup (as.map V.ref)) ∧ RowsAt H5 as (ladL t ans n), ?_, ?_⟩
    · refine ⟨_, rfl, _, rfl, _, rfl, _, rfl, _, rfl, by show 6 ≤ sizeLine; decide, fun v nv => ⟨v, t, rfl, by rw [upd_same, ← eLad], ht, fun H5 m nm f5 hm => ⟨_, rfl, m, u, t, l, rfl, ht, hm, (pu4.same (same_upd nv)).same f5, fun H6 r as rows f6 hr hRr hrun => ?_⟩⟩⟩
      have e := longest rows hrun
      subst e
      exact ⟨r, as, rfl, ((pu4.same (same_upd nv)).same f5).same f6, hr, hRr⟩
    rintro σ H5 ⟨r, as, rfl, pu5, hr5, hR5⟩
    have hal : as.length = n := by rw [hR5.1, ladL_len]
    refine ⟨fun σ H6 => σ = [some (.ref x), some (.ref p), some (.int t.h), some (.int t.f), some (.int t.up), some (.int t.dn), some (.int t.sz), some (.int mo0), some (.ref u), some (.ref r), none, none, none, none, none, none, none] ∧ H6 = H5, ?_, ?_⟩
    · refine ⟨_, rfl, r, _, rfl, .inr (tup_of hr5), _, rfl, rfl, _, rfl, ?_⟩
      rw [show (!decide (V.int (((as.map V.ref).length : Nat) : Int) = V.int t.sz)) = false by rw [List.length_map, hal, hnz]; simp]
      exact iteF ⟨rfl, rfl⟩
    rintro σ H6 ⟨rfl, rfl⟩
    refine ⟨fun σ H7 => ∃ v10 v11 v12 v13 v14, σ = [some (.ref x), some (.ref p), some (.int t.h), some (.int t.f), some (.int t.up), some (.int t.dn), some (.int t.sz), some (.int mo0), some (.ref u), some (.ref r), v10, v11, v12, v13, v14, none, none] ∧ Same H6 H7, ?_, ?_⟩
    · refine ⟨_, rfl, _, _, rfl, rfl, _, rfl, by omega, Int.lt_of_le_of_lt (b := 7) (by omega) (by decide), ?_⟩
      refine for_range (lo := 0) (n := (t.sz + 1).toNat) (fun i σ H7 => ∃ v10 v11 v12 v13 v14, σ = [some (.ref x), some (.ref p), some (.int t.h), some (.int t.f), some (.int t.up), some (.int t.dn), some (.int t.sz), some (.int mo0), some (.ref u), some (.ref r), v10, v11, v12, v13, v14, none, none] ∧ Same H6 H7) ⟨_, _, _, _, _, rfl, Same.refl _⟩ ?_ (fun σ H7 h => h)
      rintro mo σ H7 hi ⟨v10, v11, v12, v13, v14, rfl, f7⟩
      rw [Int.zero_add]
      have hm' : (mo : Int) ≤ t.sz := by omega
      have htm := lad2_ok ht (sz := t.sz) (mo := (mo : Int)) hsz.1 hsz.2 (by omega) hm'
      have pu7 := pu5.same f7
      -- the ladder
      refine ⟨fun σ H8 => ∃ m, σ = [some (.ref x), some (.ref p), some (.int t.h), some (.int t.f), some (.int t.up), some (.int t.dn), some (.int t.sz), some (.int mo0), some (.ref u), some (.ref r), some (.int (mo : Int)), some (.ref m), v12, v13, v14, none, none] ∧ Same H6 H8 ∧ LadAt a.c_Ladder H8 m (lad2 t t.sz (mo : Int)), ?_, ?_⟩
      · exact ⟨_, rfl, _, rfl, _, rfl, _, rfl, _, rfl, _, rfl, by show 6 ≤ sizeLine; decide, fun v nv => ⟨v, lad2 t t.sz (mo : Int), rfl, upd_same, htm, fun H8 m nm f8 hm => ⟨m, rfl, (f7.trans (same_upd nv)).trans f8, hm⟩⟩⟩
      rintro σ H8 ⟨m, rfl, f8, hm8⟩
      -- its run
      refine ⟨fun σ H9 => ∃ q, ∃ bs : List Addr, ∃ c : Nat, σ = [some (.ref x), some (.ref p), some (.int t.h), some (.int t.f), some (.int t.up), some (.int t.dn), some (.int t.sz), some (.int mo0), some (.ref u), some (.ref r), some (.int (mo : Int)), some (.ref m), some (.ref q), v13, v14, none, none] ∧ Same H6 H9 ∧ LadAt a.c_Ladder H9 m (lad2 t t.sz (mo : Int)) ∧ H9 q = some (.tup (bs.map V.ref)) ∧ RowsAt H9 bs (ladL t ans c) ∧ (c : Int) ≤ t.sz ∧ (∀ i, i < c → ¬ ladStop (lad2 t t.sz (mo : Int)) ans i) ∧ ladStop (lad2 t t.sz (mo : Int)) ans c, ?_, ?_⟩
      · refine ⟨_, rfl, _, rfl, m, u, _, l, rfl, htm, hm8, pu5.same f8, fun H9 q bs rows f9 hq hRq hrun => ?_⟩
        rw [← hans] at hrun
        obtain ⟨c, c1, c2, c3, rfl⟩ := hrun
        rw [ladL_lad2] at hRq
        exact ⟨q, bs, c, rfl, f8.trans f9, hm8.same f9, hq, hRq, c1, c2, c3⟩
      rintro σ H9 ⟨q, bs, c, rfl, f9, hm9, hq9, hRq9, c1, c2, c3⟩
      have hrun : LadRun (lad2 t t.sz (mo : Int)) ans (ladL t ans c) := ⟨c, c1, c2, c3, (ladL_lad2 _ _ _ _ _).symm⟩
      have hbl : bs.length = c := by rw [hRq9.1, ladL_len]
      have hans2 : ∀ q i, ans q i = if q ∈ norm l then 1 else 0 := fun q i => by rw [hans]
      -- cut, and walked
      refine ⟨fun σ H10 => σ = [some (.ref x), some (.ref p), some (.int t.h), some (.int t.f), some (.int t.up), some (.int t.dn), some (.int t.sz), some (.int mo0), some (.ref u), some (.ref r), some (.int (mo : Int)), some (.ref m), some (.ref q), v13, v14, none, none] ∧ Same H9 H10, ?_, ?_⟩
      · refine ⟨_, rfl, _, rfl, _, rfl, r, as, t, ans, (mo : Int), rfl, f9 _ _ hr5, hsz.1, hsz.2, by omega, hA, by rw [← hn]; exact hR5.same f9, fun H10 r1 as1 rows1 f10 hr1 hR1 hrun1 => ?_⟩
        rw [hrun1.uniq hrun] at hR1
        refine neD_rows (f10 _ _ hq9) hr1 (hRq9.same f10) hR1 ⟨_, rfl, ?_⟩
        rw [decide_eq_true rfl]
        refine iteF ⟨_, rfl, m, lad2 t t.sz (mo : Int), rfl, htm, hm9.same f10, fun H11 y rows L ny f11 hw hW => ⟨_, rfl, y, u, rows, l, t.sz + 1, 0, rfl, hw, LadW.good (t := lad2 t t.sz (mo : Int)) htm hW, (pu5.same (f9.trans f10)).same f11, fun H12 w2 ws f12 hw2 hR2 => ⟨_, rfl, ?_⟩⟩⟩
        have f912 := (f10.trans f11).trans f12
        obtain ⟨c', d1, d2, d3, d4, _⟩ := hW.run (R := l) (ans := ans) htm hans2
        have hrun2 : LadRun (lad2 t t.sz (mo : Int)) ans ((WK rows l 0).map List.tail) := ⟨c', d1, d2, d3, d4⟩
        rw [hrun2.uniq hrun] at hR2
        refine neD_rows hw2 (f912 _ _ hq9) hR2 (hRq9.same f912) ⟨_, rfl, ?_⟩
        rw [decide_eq_true rfl]
        exact iteF ⟨rfl, f912⟩
      rintro σ H10 ⟨rfl, f10⟩
      have hq10 := f10 _ _ hq9
      have hRq10 := hRq9.same f10
      -- the end
      refine ⟨fun σ H11 => σ = [some (.ref x), some (.ref p), some (.int t.h), some (.int t.f), some (.int t.up), some (.int t.dn), some (.int t.sz), some (.int mo0), some (.ref u), some (.ref r), some (.int (mo : Int)), some (.ref m), some (.ref q), v13, v14, none, none] ∧ Same H10 H11, ?_, ?_⟩
      · refine ⟨_, rfl, m, lad2 t t.sz (mo : Int), rfl, htm, hm9.same f10, fun H11 y rows L ny f11 hw hW => ⟨_, rfl, y, u, .non, rows, l, t.sz + 1, 0, 0, rfl, hw, LadW.good (t := lad2 t t.sz (mo : Int)) htm hW, (pu5.same (f9.trans f10)).same f11, .inl ⟨rfl, rfl⟩, by unfold Bd; decide, fun _ H12 f12 => ?_, fun hn => absurd ⟨(LadW.good (t := lad2 t t.sz (mo : Int)) htm hW).o1, (LadW.good (t := lad2 t t.sz (mo : Int)) htm hW).o2⟩ hn⟩⟩
        have f1012 := f11.trans f12
        obtain ⟨c', d1, d2, d3, d4, d5⟩ := hW.run (R := l) (ans := ans) htm hans2
        have ec : c' = c := by
          rcases Nat.lt_trichotomy c' c with h | h | h
          · exact absurd d3 (c2 _ h)
          · exact h
          · exact absurd c3 (d2 _ h)
        rw [ladS_lad2, ec] at d5
        have hq12 := f1012 _ _ hq10
        refine ⟨_, rfl, q, rfl, ⟨_, tup_of hq12⟩, fun D nD => ?_⟩
        refine lc_tup (K := K) (a := q) (xs := bs.map V.ref) (fun i H13 => ∃ ys : List Int, Same H12 H13 ∧ H13 D = some (.lst (ys.map V.int)) ∧ (ys.length : Int) = (i : Int) - (ladS t ans i).lost) ⟨[], same_upd nD, upd_same, rfl⟩ (fun i H13 _ ⟨_, f, _⟩ => tup_of (f _ _ hq12)) (fun i v H13 hi h => ?_) (fun H13 h => ?_)
        · obtain ⟨ys, f13, hD, hyl⟩ := h
          obtain ⟨b, hb, rfl⟩ := get_map_ref hi
          have hil : i < c := by rw [← hbl]; exact (List.getElem?_eq_some_iff.mp hb).1
          have hbb := f13 _ _ (f1012 _ _ (hRq10.2 i b _ hb (ladL_get hil)))
          have hls := lost_step (t := t) hA i
          have hlo := (ladS_inv ht hA i).lost
          refine ⟨b, _, rfl, tup_of hbb, rfl, _, _, rfl, _, _, rfl, rfl, rfl, _, rfl, rfl, _, rfl, ?_⟩
          have h01 : ladA t ans i = 0 ∨ ladA t ans i = 1 := hA _ _
          rcases h01 with h0 | h0
          · rw [h0, decide_eq_false (show ¬ V.int 0 = V.int 1 from fun z => by cases z)]
            exact iteF ⟨ys, f13, hD, by rw [hls, h0]; omega⟩
          · rw [h0, decide_eq_true rfl]
            exact iteT ⟨_, rfl, _, hD, by rw [List.length_map, sizeLine_eq]; omega, ys ++ [1], f13.mut nD, by rw [upd_same, List.map_append]; rfl, by rw [List.length_append, List.length_singleton, hls, h0]; omega⟩
        · obtain ⟨ys, f13, hD, hyl⟩ := h
          rw [List.length_map, hbl] at hyl
          refine ⟨D, _, rfl, .inl (lst_of hD), rfl, _, rfl, ?_⟩
          rw [show (!decide (V.int (WN rows l 0) = V.int (((ys.map V.int).length : Nat) : Int))) = false by rw [List.length_map, hyl, d5]; simp]
          exact iteF ⟨rfl, f1012.trans f13⟩
      rintro σ H11 ⟨rfl, f11⟩
      have hq11 := f11 _ _ hq10
      have hRq11 := hRq10.same f11
      -- one question less
      refine ⟨fun σ H12 => ∃ v13, σ = [some (.ref x), some (.ref p), some (.int t.h), some (.int t.f), some (.int t.up), some (.int t.dn), some (.int t.sz), some (.int mo0), some (.ref u), some (.ref r), some (.int (mo : Int)), some (.ref m), some (.ref q), v13, v14, none, none] ∧ Same H11 H12, ?_, ?_⟩
      · refine ⟨_, rfl, _, rfl, _, _, rfl, rfl, _, rfl, ?_⟩
        by_cases hlt : (mo : Int) < t.sz
        · rw [decide_eq_true hlt]
          have hts := lad2_ok ht (sz := t.sz - 1) (mo := (mo : Int)) (by omega) (by omega) (by omega) (by omega)
          refine iteT ⟨_, rfl, _, rfl, _, rfl, _, rfl, _, rfl, _, _, rfl, rfl, _, rfl, by show 6 ≤ sizeLine; decide, fun v nv => ⟨v, lad2 t (t.sz - 1) (mo : Int), rfl, upd_same, hts, fun H12 mm nm f12 hm => ?_⟩⟩
          have f1112 := (same_upd nv (o := .tup [V.int t.h, .int t.f, .int t.up, .int t.dn, .int (t.sz - 1), .int (mo : Int)])).trans f12
          refine ⟨_, rfl, _, rfl, mm, u, _, l, rfl, hts, hm, (pu5.same ((f9.trans f10).trans f11)).same f1112, fun H13 r1 as1 rows1 f13 hr1 hR1 hrun1 => ?_⟩
          rw [← hans] at hrun1
          have f1113 := f1112.trans f13
          refine ⟨_, rfl, noPz ⟨_, rfl, _, _, rfl, rfl, _, rfl, ?_⟩⟩
          obtain ⟨k1, hk1⟩ := Int.eq_ofNat_of_zero_le (show 0 ≤ t.sz - 1 by omega)
          rw [hk1]
          refine slA_toV (f1113 _ _ hq11) fun H14 r2 f14 hr2 => ?_
          rw [← List.map_take] at hr2
          have hR2 := ((hRq11.same f1113).take k1).same f14
          rw [ladL_take] at hR2
          have hl1 := LadRun.less (t := t) (ans := ans) hsz.1 c2 c1 c3
          rw [show (t.sz - 1).toNat = k1 by omega] at hl1
          rw [hrun1.uniq hl1] at hR1
          refine neD_rows (f14 _ _ hr1) hr2 (hR1.same f14) hR2 ⟨_, rfl, ?_⟩
          rw [decide_eq_true rfl]
          exact iteF ⟨_, rfl, f1113.trans f14⟩
        · rw [decide_eq_false hlt]
          exact iteF ⟨_, rfl, Same.refl _⟩
      rintro σ H12 ⟨v13', rfl, f12⟩
      have hq12 := f12 _ _ hq11
      have hRq12 := hRq11.same f12
      have f612 := ((f9.trans f10).trans f11).trans f12
      -- neighbours
      refine ⟨_, rfl, q, _, rfl, .inr (tup_of hq12), _, _, rfl, ⟨by decide, by decide, by rw [List.length_map, hbl]; omega, by rw [List.length_map, hbl]; exact Int.lt_of_le_of_lt (b := 6) (by omega) (by decide)⟩, ?_⟩
      refine for_range (lo := 1) (n := ((((bs.map V.ref).length : Nat) : Int) - 1).toNat) (fun i σ H13 => ∃ v14, σ = [some (.ref x), some (.ref p), some (.int t.h), some (.int t.f), some (.int t.up), some (.int t.dn), some (.int t.sz), some (.int mo0), some (.ref u), some (.ref r), some (.int (mo : Int)), some (.ref m), some (.ref q), v13', v14, none, none] ∧ H13 = H12) ⟨_, rfl, rfl⟩ ?_ (fun σ H13 ⟨v14, e1, e2⟩ => by subst e1 e2; exact ⟨_, _, _, _, _, rfl, f612⟩)
      rintro i σ H13 hi ⟨v14', rfl, rfl⟩
      rw [List.length_map, hbl] at hi
      have hi1 : i + 1 < c := by omega
      obtain ⟨b0, row0, hb0, hr0, hH0⟩ := rows_get hRq12 (show i < (ladL t ans c).length by rw [ladL_len]; omega)
      obtain ⟨b1, row1, hb1, hr1, hH1⟩ := rows_get hRq12 (show i + 1 < (ladL t ans c).length by rw [ladL_len]; omega)
      rw [ladL_get (by omega)] at hr0 hr1
      cases hr0
      cases hr1
      have x1 : atI (bs.map V.ref) (1 + (i : Int)) = some (.ref b1) := by
        rw [show (1 : Int) + (i : Int) = ((i + 1 : Nat) : Int) by omega]
        exact at_tup (by rw [List.getElem?_map, hb1]; rfl)
      have x0 : atI (bs.map V.ref) (1 + (i : Int) - 1) = some (.ref b0) := by
        rw [show (1 : Int) + (i : Int) - 1 = ((i : Nat) : Int) by omega]
        exact at_tup (by rw [List.getElem?_map, hb0]; rfl)
      have d0 := (ladQ_div ht (ladS_inv ht hA i) (by omega)).1
      have d1 := (ladQ_div ht (ladS_inv ht hA (i + 1)) (by omega)).1
      have hlv := lv_step t (ladS t ans i) (ladA t ans i)
      have es : ladStep t (ladS t ans i) (ladA t ans i) = ladS t ans (i + 1) := rfl
      rw [es] at hlv
      refine ⟨_, rfl, _, rfl, q, _, _, _, rfl, rfl, tup_of hq12, x1, b1, _, 0, _, rfl, rfl, tup_of hH1, atI0, _, 8, rfl, rfl, ⟨by decide, by decide⟩, _, rfl, _, rfl, _, _, rfl, rfl, q, _, _, _, rfl, rfl, tup_of hq12, x0, b0, _, 0, _, rfl, rfl, tup_of hH0, atI0, _, 8, rfl, rfl, ⟨by decide, by decide⟩, _, _, rfl, rfl, _, rfl, _, _, rfl, rfl, _, rfl, ?_⟩
      rw [decide_eq_false (by rw [d0, d1]; split <;> omega)]
      exact iteF ⟨_, rfl, rfl⟩
    rintro σ H7 ⟨v10, v11, v12, v13, v14, rfl, f7⟩
    have pu7 := pu5.same f7
    refine ⟨_, rfl, _, rfl, _, rfl, _, rfl, _, rfl, _, rfl, by show 6 ≤ sizeLine; decide, fun v nv => ⟨v, t, rfl, by rw [upd_same, ← eLad], ht, fun H8 m nm f8 hm => ⟨_, rfl, m, u, t, l, rfl, ht, hm, (pu7.same (same_upd nv)).same f8, fun H9 r2 as2 rows f9 hr2 hR2 hrun => ?_⟩⟩⟩
    have f78 := (same_upd nv (o := .tup [.int t.h, .int t.f, .int t.up, .int t.dn, .int t.sz, .int 0])).trans f8
    have e := longest rows hrun
    subst e
    have f69 := (f7.trans f78).trans f9
    refine eqD_rows (f69 _ _ hr5) hr2 (hR5.same f69) hR2 ?_
    rw [decide_eq_true rfl]
    exact k _
end
end K14

namespace K14
open PySem PySem.Spec PyProof.Rows L2 Gg TL
section
variable {P : Program} {w : World} {K : PySem.W.Frag} {mg : Str → Option Value} {base : Heap} {a : Ad}
end
theorem all_mk {l : PySem.W.OpenLaw} {w : World} {K : PySem.W.Frag} {h : Heap} {mg : Str → Option Value} {fa c_TestError c_NoNode c_NoPosition c_Pupil c_Web c_Ladder f_is_question f_Web_contains f_Web_len f_Web_first f_Web_can_stand f_asked_twice f_Web_init f_NoNode_init f_NoPosition_init f_Web_getitem f_Pupil_init f_Pupil_contains f_begin f_target_of f_walk f_end_of f_run_of f_Ladder_init f_first_state f_has_ended f_question_of f_state_behind f_ladder_run f_build f_l_pool f_l_draw f_l_ladder f_l_made f_l_cut f_law : Addr} (X : K.In h) (G : h.Ns mainGlobals mg) (hfa : mg "law" = some (.ref fa))
    {t_QUESTIONS t_MOST_ENDS t_QUESTIONS_OF_A_LEVEL : Tok}
    {od_is_question an_is_question od_Web_contains an_Web_contains od_Web_len an_Web_len od_Web_first an_Web_first od_Web_can_stand an_Web_can_stand od_asked_twice an_asked_twice od_Web_init an_Web_init od_NoNode_init an_NoNode_init od_NoPosition_init an_NoPosition_init od_Web_getitem an_Web_getitem od_Pupil_init an_Pupil_init od_Pupil_contains an_Pupil_contains od_begin an_begin od_target_of an_target_of od_walk an_walk od_end_of an_end_of od_run_of an_run_of od_Ladder_init an_Ladder_init od_first_state an_first_state od_has_ended an_has_ended od_question_of an_question_of od_state_behind an_state_behind od_ladder_run an_ladder_run od_build an_build od_l_pool an_l_pool od_l_draw an_l_draw od_l_ladder an_l_ladder od_l_made an_l_made od_l_cut an_l_cut od_law an_law : Option Addr}
    {sl_is_question sl_Web_contains sl_Web_len sl_Web_first sl_Web_can_stand sl_asked_twice sl_Web_init sl_NoNode_init sl_NoPosition_init sl_Web_getitem sl_Pupil_init sl_Pupil_contains sl_begin sl_target_of sl_walk sl_end_of sl_run_of sl_Ladder_init sl_first_state sl_has_ended sl_question_of sl_state_behind sl_ladder_run sl_build sl_l_pool sl_l_draw sl_l_ladder sl_l_made sl_l_cut sl_law : Array (Option Value)}
    {kD_Web_init kD_Ladder_init : Addr}
    {kT_walk : Addr} {ot_walk : Value} {oe_walk : Option Addr} {nn_walk : Nat} {os_walk : Array (Option Value)}
    {kT_end_of : Addr} {ot_end_of : Value} {oe_end_of : Option Addr} {nn_end_of : Nat} {os_end_of : Array (Option Value)}
    {oc_is_question kV_is_question dc_is_question pm_is_question cd_is_question ct_is_question oc_Web_contains kV_Web_contains dc_Web_contains pm_Web_contains cd_Web_contains ct_Web_contains oc_Web_len kV_Web_len dc_Web_len pm_Web_len cd_Web_len ct_Web_len oc_Web_first kV_Web_first dc_Web_first pm_Web_first cd_Web_first ct_Web_first oc_Web_can_stand kV_Web_can_stand dc_Web_can_stand pm_Web_can_stand cd_Web_can_stand ct_Web_can_stand oc_asked_twice kV_asked_twice dc_asked_twice pm_asked_twice cd_asked_twice ct_asked_twice oc_Web_init dc_Web_init pm_Web_init cd_Web_init ct_Web_init oc_NoNode_init kV_NoNode_init dc_NoNode_init pm_NoNode_init cd_NoNode_init ct_NoNode_init oc_NoPosition_init kV_NoPosition_init dc_NoPosition_init pm_NoPosition_init cd_NoPosition_init ct_NoPosition_init oc_Web_getitem kV_Web_getitem dc_Web_getitem pm_Web_getitem cd_Web_getitem ct_Web_getitem oc_Pupil_init kV_Pupil_init dc_Pupil_init pm_Pupil_init cd_Pupil_init ct_Pupil_init oc_Pupil_contains kV_Pupil_contains dc_Pupil_contains pm_Pupil_contains cd_Pupil_contains ct_Pupil_contains oc_begin kV_begin dc_begin pm_begin cd_begin ct_begin oc_target_of kV_target_of dc_target_of pm_target_of cd_target_of ct_target_of oc_walk kV_walk dc_walk pm_walk cd_walk ct_walk oc_end_of kV_end_of dc_end_of pm_end_of cd_end_of ct_end_of oc_run_of kV_run_of dc_run_of pm_run_of cd_run_of ct_run_of oc_Ladder_init dc_Ladder_init pm_Ladder_init cd_Ladder_init ct_Ladder_init oc_first_state kV_first_state dc_first_state pm_first_state cd_first_state ct_first_state oc_has_ended kV_has_ended dc_has_ended pm_has_ended cd_has_ended ct_has_ended oc_question_of kV_question_of dc_question_of pm_question_of cd_question_of ct_question_of oc_state_behind kV_state_behind dc_state_behind pm_state_behind cd_state_behind ct_state_behind oc_ladder_run kV_ladder_run dc_ladder_run pm_ladder_run cd_ladder_run ct_ladder_run oc_build kV_build dc_build pm_build cd_build ct_build oc_l_pool kV_l_pool dc_l_pool pm_l_pool cd_l_pool ct_l_pool oc_l_draw kV_l_draw dc_l_draw pm_l_draw cd_l_draw ct_l_draw oc_l_ladder kV_l_ladder dc_l_ladder pm_l_ladder cd_l_ladder ct_l_ladder oc_l_made kV_l_made dc_l_made pm_l_made cd_l_made ct_l_made oc_l_cut kV_l_cut dc_l_cut pm_l_cut cd_l_cut ct_l_cut oc_law kV_law dc_law pm_law cd_law ct_law : Value}
    {nm_NoPosition qn_NoPosition : Str} {ns_NoPosition : Addr} {bs_NoPosition : List Value} {sn_NoPosition : List Str} {sub_NoPosition : List Value} {ab_NoPosition : Bool} {col_NoPosition : Option Bool} {dd_NoPosition : Option Addr} {m0_NoPosition m1_NoPosition m2_NoPosition m3_NoPosition m5_NoPosition : Option Value}
    {nm_NoNode qn_NoNode : Str} {ns_NoNode : Addr} {bs_NoNode : List Value} {sn_NoNode : List Str} {sub_NoNode : List Value} {ab_NoNode : Bool} {col_NoNode : Option Bool} {dd_NoNode : Option Addr} {m0_NoNode m1_NoNode m2_NoNode m3_NoNode m5_NoNode : Option Value}
    (h_g_TestError : PySem.W.nsIn K mainGlobals "TestError" = some (some (.ref c_TestError)))
    (h_g_NoNode : PySem.W.nsIn K mainGlobals "NoNode" = some (some (.ref c_NoNode)))
    (h_g_NoPosition : PySem.W.nsIn K mainGlobals "NoPosition" = some (some (.ref c_NoPosition)))
    (h_g_Pupil : PySem.W.nsIn K mainGlobals "Pupil" = some (some (.ref c_Pupil)))
    (h_pg_Pupil : PySem.W.plainGet K c_Pupil Str.empty = true)
    (h_hd_Pupil : PySem.W.hasDictIn K c_Pupil = true)
    (h_po_Pupil : PySem.W.plainOver K c_Pupil = true)
    (h_sa_Pupil : PySem.W.findIn K (.ref c_Pupil) "__setattr__" = some (some (.builtin "object.__setattr__")))
    (h_mkk_Pupil : PySem.W.makesIn K c_Pupil = true)
    (h_kc_Pupil : PySem.W.keepIn K (.ref c_Pupil) = true)
    (h_nA_Pupil_rights : PySem.W.findIn K (.ref c_Pupil) "rights" = some none)
    (h_g_Web : PySem.W.nsIn K mainGlobals "Web" = some (some (.ref c_Web)))
    (h_pg_Web : PySem.W.plainGet K c_Web Str.empty = true)
    (h_hd_Web : PySem.W.hasDictIn K c_Web = true)
    (h_po_Web : PySem.W.plainOver K c_Web = true)
    (h_sa_Web : PySem.W.findIn K (.ref c_Web) "__setattr__" = some (some (.builtin "object.__setattr__")))
    (h_mkk_Web : PySem.W.makesIn K c_Web = true)
    (h_kc_Web : PySem.W.keepIn K (.ref c_Web) = true)
    (h_nA_Web_nodes : PySem.W.findIn K (.ref c_Web) "nodes" = some none)
    (h_nA_Web_ends : PySem.W.findIn K (.ref c_Web) "ends" = some none)
    (h_nA_Web_start : PySem.W.findIn K (.ref c_Web) "start" = some none)
    (h_g_Ladder : PySem.W.nsIn K mainGlobals "Ladder" = some (some (.ref c_Ladder)))
    (h_pg_Ladder : PySem.W.plainGet K c_Ladder Str.empty = true)
    (h_hd_Ladder : PySem.W.hasDictIn K c_Ladder = true)
    (h_po_Ladder : PySem.W.plainOver K c_Ladder = true)
    (h_sa_Ladder : PySem.W.findIn K (.ref c_Ladder) "__setattr__" = some (some (.builtin "object.__setattr__")))
    (h_mkk_Ladder : PySem.W.makesIn K c_Ladder = true)
    (h_kc_Ladder : PySem.W.keepIn K (.ref c_Ladder) = true)
    (h_nA_Ladder_levels : PySem.W.findIn K (.ref c_Ladder) "levels" = some none)
    (h_nA_Ladder_begin : PySem.W.findIn K (.ref c_Ladder) "begin" = some none)
    (h_nA_Ladder_up : PySem.W.findIn K (.ref c_Ladder) "up" = some none)
    (h_nA_Ladder_down : PySem.W.findIn K (.ref c_Ladder) "down" = some none)
    (h_nA_Ladder_count : PySem.W.findIn K (.ref c_Ladder) "count" = some none)
    (h_nA_Ladder_most_wrongs : PySem.W.findIn K (.ref c_Ladder) "most_wrongs" = some none)
    (h_bga_TestError : PySem.W.specialIn K (.ref c_TestError) "__getattribute__" = some (some (.builtin "type.__getattribute__")))
    (h_ty_TestError : PySem.W.typeIn K (.ref c_TestError) = some (.type "type"))
    (h_brd_TestError : PySem.W.readsIn K c_TestError (.type "type") = true)
    (h_bfi_TestError : PySem.W.findCls K (.ref c_TestError) (.type "type") "__init__" = some (.val (.builtin "ValueError.__init__")))
    (h_xl_NoPosition : K.lookup c_NoPosition = some (excClassObj nm_NoPosition qn_NoPosition c_NoPosition ns_NoPosition bs_NoPosition [.ref c_TestError, .type "ValueError", .type "Exception", .type "BaseException", .type "object"] true sn_NoPosition sub_NoPosition ab_NoPosition col_NoPosition dd_NoPosition m0_NoPosition m1_NoPosition m2_NoPosition m3_NoPosition m5_NoPosition "ValueError.__new__"))
    (h_sa_NoPosition : PySem.W.findIn K (.ref c_NoPosition) "__setattr__" = some (some (.builtin "object.__setattr__")))
    (h_eb_NoPosition : PySem.W.subIn K (.ref c_NoPosition) (.type "BaseException") = some true)
    (h_ty_NoPosition : PySem.W.typeIn K (.ref c_NoPosition) = some (.type "type"))
    (h_kc_NoPosition : PySem.W.keepIn K (.ref c_NoPosition) = true)
    (h_ga_NoPosition : PySem.W.findIn K (.ref c_NoPosition) "__getattribute__" = some (some (.builtin "BaseException.__getattribute__")))
    (h_gg_NoPosition : PySem.W.findIn K (.ref c_NoPosition) "__getattr__" = some none)
    (h_hd_NoPosition : PySem.W.hasDictIn K c_NoPosition = true)
    (h_ss_NoPosition : PySem.W.subIn K (.ref c_NoPosition) (.ref c_NoPosition) = some true)
    (h_ic1_NoPosition : PySem.W.findIn K (.ref c_NoPosition) "__class__" = some (some (.builtin "object.__class__")))
    (h_eg2 : PySem.W.specialIn K (.builtin "object.__class__") "__get__" = some (some (.builtin "getset_descriptor.__get__")))
    (h_eg3 : PySem.W.takesIn K (.builtin "object.__class__") = some true)
    (h_ic4_NoPosition : PySem.W.mroIn K c_NoPosition (.type "object") = some true)
    (h_nf_NoPosition_place : PySem.W.findIn K (.ref c_NoPosition) "place" = some none)
    (h_sb_NoPosition : PySem.W.subIn K (.ref c_NoPosition) (.ref c_TestError) = some true)
    (h_icl_TestError : PySem.W.isClsIn K c_TestError = true)
    (h_xl_NoNode : K.lookup c_NoNode = some (excClassObj nm_NoNode qn_NoNode c_NoNode ns_NoNode bs_NoNode [.ref c_TestError, .type "ValueError", .type "Exception", .type "BaseException", .type "object"] true sn_NoNode sub_NoNode ab_NoNode col_NoNode dd_NoNode m0_NoNode m1_NoNode m2_NoNode m3_NoNode m5_NoNode "ValueError.__new__"))
    (h_sa_NoNode : PySem.W.findIn K (.ref c_NoNode) "__setattr__" = some (some (.builtin "object.__setattr__")))
    (h_eb_NoNode : PySem.W.subIn K (.ref c_NoNode) (.type "BaseException") = some true)
    (h_ty_NoNode : PySem.W.typeIn K (.ref c_NoNode) = some (.type "type"))
    (h_kc_NoNode : PySem.W.keepIn K (.ref c_NoNode) = true)
    (h_ga_NoNode : PySem.W.findIn K (.ref c_NoNode) "__getattribute__" = some (some (.builtin "BaseException.__getattribute__")))
    (h_gg_NoNode : PySem.W.findIn K (.ref c_NoNode) "__getattr__" = some none)
    (h_hd_NoNode : PySem.W.hasDictIn K c_NoNode = true)
    (h_ss_NoNode : PySem.W.subIn K (.ref c_NoNode) (.ref c_NoNode) = some true)
    (h_ic1_NoNode : PySem.W.findIn K (.ref c_NoNode) "__class__" = some (some (.builtin "object.__class__")))
    (h_ic4_NoNode : PySem.W.mroIn K c_NoNode (.type "object") = some true)
    (h_nf_NoNode_index : PySem.W.findIn K (.ref c_NoNode) "index" = some none)
    (h_sb_NoNode : PySem.W.subIn K (.ref c_NoNode) (.ref c_TestError) = some true)
    (h_a_is_question : PySem.W.nsIn K mainGlobals "is_question" = some (some (.ref f_is_question)))
    (h_l_is_question : K.lookup f_is_question = some ⟨oc_is_question, od_is_question, .func (PySem.W.fnOf "is_question" "is_question" (defArgs s_is_question) (defBody s_is_question) (defScope s_is_question) .none kV_is_question dc_is_question pm_is_question an_is_question cd_is_question ct_is_question), sl_is_question⟩)
    (h_c_is_question : PySem.W.codeIn K cd_is_question "is_question" = true)
    (h_k_is_question : PySem.W.keepIn K (.ref f_is_question) = true)
    (h_a_Web_contains : PySem.W.findIn K (.ref c_Web) "__contains__" = some (some (.ref f_Web_contains)))
    (h_i_Web_contains : PySem.W.isFn K (.ref f_Web_contains) = true)
    (h_l_Web_contains : K.lookup f_Web_contains = some ⟨oc_Web_contains, od_Web_contains, .func (PySem.W.fnOf "__contains__" "Web.__contains__" (defArgs s_Web_contains) (defBody s_Web_contains) (defScope s_Web_contains) .none kV_Web_contains dc_Web_contains pm_Web_contains an_Web_contains cd_Web_contains ct_Web_contains), sl_Web_contains⟩)
    (h_c_Web_contains : PySem.W.codeIn K cd_Web_contains "Web.__contains__" = true)
    (h_k_Web_contains : PySem.W.keepIn K (.ref f_Web_contains) = true)
    (h_a_Web_len : PySem.W.findIn K (.ref c_Web) "__len__" = some (some (.ref f_Web_len)))
    (h_i_Web_len : PySem.W.isFn K (.ref f_Web_len) = true)
    (h_l_Web_len : K.lookup f_Web_len = some ⟨oc_Web_len, od_Web_len, .func (PySem.W.fnOf "__len__" "Web.__len__" (defArgs s_Web_len) (defBody s_Web_len) (defScope s_Web_len) .none kV_Web_len dc_Web_len pm_Web_len an_Web_len cd_Web_len ct_Web_len), sl_Web_len⟩)
    (h_c_Web_len : PySem.W.codeIn K cd_Web_len "Web.__len__" = true)
    (h_k_Web_len : PySem.W.keepIn K (.ref f_Web_len) = true)
    (h_a_Web_first : PySem.W.findIn K (.ref c_Web) "_first" = some (some (.ref f_Web_first)))
    (h_i_Web_first : PySem.W.isFn K (.ref f_Web_first) = true)
    (h_l_Web_first : K.lookup f_Web_first = some ⟨oc_Web_first, od_Web_first, .func (PySem.W.fnOf "_first" "Web._first" (defArgs s_Web_first) (defBody s_Web_first) (defScope s_Web_first) .none kV_Web_first dc_Web_first pm_Web_first an_Web_first cd_Web_first ct_Web_first), sl_Web_first⟩)
    (h_c_Web_first : PySem.W.codeIn K cd_Web_first "Web._first" = true)
    (h_k_Web_first : PySem.W.keepIn K (.ref f_Web_first) = true)
    (h_a_Web_can_stand : PySem.W.findIn K (.ref c_Web) "_can_stand" = some (some (.ref f_Web_can_stand)))
    (h_i_Web_can_stand : PySem.W.isFn K (.ref f_Web_can_stand) = true)
    (h_l_Web_can_stand : K.lookup f_Web_can_stand = some ⟨oc_Web_can_stand, od_Web_can_stand, .func (PySem.W.fnOf "_can_stand" "Web._can_stand" (defArgs s_Web_can_stand) (defBody s_Web_can_stand) (defScope s_Web_can_stand) .none kV_Web_can_stand dc_Web_can_stand pm_Web_can_stand an_Web_can_stand cd_Web_can_stand ct_Web_can_stand), sl_Web_can_stand⟩)
    (h_c_Web_can_stand : PySem.W.codeIn K cd_Web_can_stand "Web._can_stand" = true)
    (h_k_Web_can_stand : PySem.W.keepIn K (.ref f_Web_can_stand) = true)
    (h_a_asked_twice : PySem.W.nsIn K mainGlobals "_asked_twice" = some (some (.ref f_asked_twice)))
    (h_l_asked_twice : K.lookup f_asked_twice = some ⟨oc_asked_twice, od_asked_twice, .func (PySem.W.fnOf "_asked_twice" "_asked_twice" (defArgs s_asked_twice) (defBody s_asked_twice) (defScope s_asked_twice) .none kV_asked_twice dc_asked_twice pm_asked_twice an_asked_twice cd_asked_twice ct_asked_twice), sl_asked_twice⟩)
    (h_c_asked_twice : PySem.W.codeIn K cd_asked_twice "_asked_twice" = true)
    (h_k_asked_twice : PySem.W.keepIn K (.ref f_asked_twice) = true)
    (h_a_Web_init : PySem.W.findIn K (.ref c_Web) "__init__" = some (some (.ref f_Web_init)))
    (h_i_Web_init : PySem.W.isFn K (.ref f_Web_init) = true)
    (h_l_Web_init : K.lookup f_Web_init = some ⟨oc_Web_init, od_Web_init, .func (PySem.W.fnOf "__init__" "Web.__init__" (defArgs s_Web_init) (defBody s_Web_init) (defScope s_Web_init) .none (.ref kD_Web_init) dc_Web_init pm_Web_init an_Web_init cd_Web_init ct_Web_init), sl_Web_init⟩)
    (h_c_Web_init : PySem.W.codeIn K cd_Web_init "Web.__init__" = true)
    (h_k_Web_init : PySem.W.keepIn K (.ref f_Web_init) = true)
    (h_kd_Web_init_start : PySem.W.nsIn K kD_Web_init "start" = some (some .none))
    (h_a_NoNode_init : PySem.W.findIn K (.ref c_NoNode) "__init__" = some (some (.ref f_NoNode_init)))
    (h_i_NoNode_init : PySem.W.isFn K (.ref f_NoNode_init) = true)
    (h_l_NoNode_init : K.lookup f_NoNode_init = some ⟨oc_NoNode_init, od_NoNode_init, .func (PySem.W.fnOf "__init__" "NoNode.__init__" (defArgs s_NoNode_init) (defBody s_NoNode_init) (defScope s_NoNode_init) .none kV_NoNode_init dc_NoNode_init pm_NoNode_init an_NoNode_init cd_NoNode_init ct_NoNode_init), sl_NoNode_init⟩)
    (h_c_NoNode_init : PySem.W.codeIn K cd_NoNode_init "NoNode.__init__" = true)
    (h_k_NoNode_init : PySem.W.keepIn K (.ref f_NoNode_init) = true)
    (h_a_NoPosition_init : PySem.W.findIn K (.ref c_NoPosition) "__init__" = some (some (.ref f_NoPosition_init)))
    (h_i_NoPosition_init : PySem.W.isFn K (.ref f_NoPosition_init) = true)
    (h_l_NoPosition_init : K.lookup f_NoPosition_init = some ⟨oc_NoPosition_init, od_NoPosition_init, .func (PySem.W.fnOf "__init__" "NoPosition.__init__" (defArgs s_NoPosition_init) (defBody s_NoPosition_init) (defScope s_NoPosition_init) .none kV_NoPosition_init dc_NoPosition_init pm_NoPosition_init an_NoPosition_init cd_NoPosition_init ct_NoPosition_init), sl_NoPosition_init⟩)
    (h_c_NoPosition_init : PySem.W.codeIn K cd_NoPosition_init "NoPosition.__init__" = true)
    (h_k_NoPosition_init : PySem.W.keepIn K (.ref f_NoPosition_init) = true)
    (h_a_Web_getitem : PySem.W.findIn K (.ref c_Web) "__getitem__" = some (some (.ref f_Web_getitem)))
    (h_i_Web_getitem : PySem.W.isFn K (.ref f_Web_getitem) = true)
    (h_fn_Web_getitem : PySem.W.fnIn K f_Web_getitem = true)
    (h_l_Web_getitem : K.lookup f_Web_getitem = some ⟨oc_Web_getitem, od_Web_getitem, .func (PySem.W.fnOf "__getitem__" "Web.__getitem__" (defArgs s_Web_getitem) (defBody s_Web_getitem) (defScope s_Web_getitem) .none kV_Web_getitem dc_Web_getitem pm_Web_getitem an_Web_getitem cd_Web_getitem ct_Web_getitem), sl_Web_getitem⟩)
    (h_c_Web_getitem : PySem.W.codeIn K cd_Web_getitem "Web.__getitem__" = true)
    (h_k_Web_getitem : PySem.W.keepIn K (.ref f_Web_getitem) = true)
    (h_a_Pupil_init : PySem.W.findIn K (.ref c_Pupil) "__init__" = some (some (.ref f_Pupil_init)))
    (h_i_Pupil_init : PySem.W.isFn K (.ref f_Pupil_init) = true)
    (h_l_Pupil_init : K.lookup f_Pupil_init = some ⟨oc_Pupil_init, od_Pupil_init, .func (PySem.W.fnOf "__init__" "Pupil.__init__" (defArgs s_Pupil_init) (defBody s_Pupil_init) (defScope s_Pupil_init) .none kV_Pupil_init dc_Pupil_init pm_Pupil_init an_Pupil_init cd_Pupil_init ct_Pupil_init), sl_Pupil_init⟩)
    (h_c_Pupil_init : PySem.W.codeIn K cd_Pupil_init "Pupil.__init__" = true)
    (h_k_Pupil_init : PySem.W.keepIn K (.ref f_Pupil_init) = true)
    (h_a_Pupil_contains : PySem.W.findIn K (.ref c_Pupil) "__contains__" = some (some (.ref f_Pupil_contains)))
    (h_i_Pupil_contains : PySem.W.isFn K (.ref f_Pupil_contains) = true)
    (h_l_Pupil_contains : K.lookup f_Pupil_contains = some ⟨oc_Pupil_contains, od_Pupil_contains, .func (PySem.W.fnOf "__contains__" "Pupil.__contains__" (defArgs s_Pupil_contains) (defBody s_Pupil_contains) (defScope s_Pupil_contains) .none kV_Pupil_contains dc_Pupil_contains pm_Pupil_contains an_Pupil_contains cd_Pupil_contains ct_Pupil_contains), sl_Pupil_contains⟩)
    (h_c_Pupil_contains : PySem.W.codeIn K cd_Pupil_contains "Pupil.__contains__" = true)
    (h_k_Pupil_contains : PySem.W.keepIn K (.ref f_Pupil_contains) = true)
    (h_a_begin : PySem.W.nsIn K mainGlobals "_begin" = some (some (.ref f_begin)))
    (h_l_begin : K.lookup f_begin = some ⟨oc_begin, od_begin, .func (PySem.W.fnOf "_begin" "_begin" (defArgs s_begin) (defBody s_begin) (defScope s_begin) .none kV_begin dc_begin pm_begin an_begin cd_begin ct_begin), sl_begin⟩)
    (h_c_begin : PySem.W.codeIn K cd_begin "_begin" = true)
    (h_k_begin : PySem.W.keepIn K (.ref f_begin) = true)
    (h_a_target_of : PySem.W.nsIn K mainGlobals "target_of" = some (some (.ref f_target_of)))
    (h_l_target_of : K.lookup f_target_of = some ⟨oc_target_of, od_target_of, .func (PySem.W.fnOf "target_of" "target_of" (defArgs s_target_of) (defBody s_target_of) (defScope s_target_of) .none kV_target_of dc_target_of pm_target_of an_target_of cd_target_of ct_target_of), sl_target_of⟩)
    (h_c_target_of : PySem.W.codeIn K cd_target_of "target_of" = true)
    (h_k_target_of : PySem.W.keepIn K (.ref f_target_of) = true)
    (h_a_walk : PySem.W.nsIn K mainGlobals "walk" = some (some (.ref f_walk)))
    (h_l_walk : K.lookup f_walk = some ⟨oc_walk, od_walk, .func (PySem.W.fnOf "walk" "walk" (defArgs s_walk) (defBody s_walk) (defScope s_walk) (.ref kT_walk) kV_walk dc_walk pm_walk an_walk cd_walk ct_walk), sl_walk⟩)
    (h_c_walk : PySem.W.codeIn K cd_walk "walk" = true)
    (h_k_walk : PySem.W.keepIn K (.ref f_walk) = true)
    (h_kt_walk : K.lookup kT_walk = some ⟨ot_walk, oe_walk, .seq #[.none] nn_walk, os_walk⟩)
    (h_a_end_of : PySem.W.nsIn K mainGlobals "end_of" = some (some (.ref f_end_of)))
    (h_l_end_of : K.lookup f_end_of = some ⟨oc_end_of, od_end_of, .func (PySem.W.fnOf "end_of" "end_of" (defArgs s_end_of) (defBody s_end_of) (defScope s_end_of) (.ref kT_end_of) kV_end_of dc_end_of pm_end_of an_end_of cd_end_of ct_end_of), sl_end_of⟩)
    (h_c_end_of : PySem.W.codeIn K cd_end_of "end_of" = true)
    (h_k_end_of : PySem.W.keepIn K (.ref f_end_of) = true)
    (h_kt_end_of : K.lookup kT_end_of = some ⟨ot_end_of, oe_end_of, .seq #[.none] nn_end_of, os_end_of⟩)
    (h_a_run_of : PySem.W.nsIn K mainGlobals "run_of" = some (some (.ref f_run_of)))
    (h_l_run_of : K.lookup f_run_of = some ⟨oc_run_of, od_run_of, .func (PySem.W.fnOf "run_of" "run_of" (defArgs s_run_of) (defBody s_run_of) (defScope s_run_of) .none kV_run_of dc_run_of pm_run_of an_run_of cd_run_of ct_run_of), sl_run_of⟩)
    (h_c_run_of : PySem.W.codeIn K cd_run_of "run_of" = true)
    (h_k_run_of : PySem.W.keepIn K (.ref f_run_of) = true)
    (h_a_Ladder_init : PySem.W.findIn K (.ref c_Ladder) "__init__" = some (some (.ref f_Ladder_init)))
    (h_i_Ladder_init : PySem.W.isFn K (.ref f_Ladder_init) = true)
    (h_l_Ladder_init : K.lookup f_Ladder_init = some ⟨oc_Ladder_init, od_Ladder_init, .func (PySem.W.fnOf "__init__" "Ladder.__init__" (defArgs s_Ladder_init) (defBody s_Ladder_init) (defScope s_Ladder_init) .none (.ref kD_Ladder_init) dc_Ladder_init pm_Ladder_init an_Ladder_init cd_Ladder_init ct_Ladder_init), sl_Ladder_init⟩)
    (h_c_Ladder_init : PySem.W.codeIn K cd_Ladder_init "Ladder.__init__" = true)
    (h_k_Ladder_init : PySem.W.keepIn K (.ref f_Ladder_init) = true)
    (h_a_first_state : PySem.W.nsIn K mainGlobals "_first_state" = some (some (.ref f_first_state)))
    (h_l_first_state : K.lookup f_first_state = some ⟨oc_first_state, od_first_state, .func (PySem.W.fnOf "_first_state" "_first_state" (defArgs s_first_state) (defBody s_first_state) (defScope s_first_state) .none kV_first_state dc_first_state pm_first_state an_first_state cd_first_state ct_first_state), sl_first_state⟩)
    (h_c_first_state : PySem.W.codeIn K cd_first_state "_first_state" = true)
    (h_k_first_state : PySem.W.keepIn K (.ref f_first_state) = true)
    (h_a_has_ended : PySem.W.nsIn K mainGlobals "_has_ended" = some (some (.ref f_has_ended)))
    (h_l_has_ended : K.lookup f_has_ended = some ⟨oc_has_ended, od_has_ended, .func (PySem.W.fnOf "_has_ended" "_has_ended" (defArgs s_has_ended) (defBody s_has_ended) (defScope s_has_ended) .none kV_has_ended dc_has_ended pm_has_ended an_has_ended cd_has_ended ct_has_ended), sl_has_ended⟩)
    (h_c_has_ended : PySem.W.codeIn K cd_has_ended "_has_ended" = true)
    (h_k_has_ended : PySem.W.keepIn K (.ref f_has_ended) = true)
    (h_a_question_of : PySem.W.nsIn K mainGlobals "_question_of" = some (some (.ref f_question_of)))
    (h_l_question_of : K.lookup f_question_of = some ⟨oc_question_of, od_question_of, .func (PySem.W.fnOf "_question_of" "_question_of" (defArgs s_question_of) (defBody s_question_of) (defScope s_question_of) .none kV_question_of dc_question_of pm_question_of an_question_of cd_question_of ct_question_of), sl_question_of⟩)
    (h_c_question_of : PySem.W.codeIn K cd_question_of "_question_of" = true)
    (h_k_question_of : PySem.W.keepIn K (.ref f_question_of) = true)
    (h_a_state_behind : PySem.W.nsIn K mainGlobals "_state_behind" = some (some (.ref f_state_behind)))
    (h_l_state_behind : K.lookup f_state_behind = some ⟨oc_state_behind, od_state_behind, .func (PySem.W.fnOf "_state_behind" "_state_behind" (defArgs s_state_behind) (defBody s_state_behind) (defScope s_state_behind) .none kV_state_behind dc_state_behind pm_state_behind an_state_behind cd_state_behind ct_state_behind), sl_state_behind⟩)
    (h_c_state_behind : PySem.W.codeIn K cd_state_behind "_state_behind" = true)
    (h_k_state_behind : PySem.W.keepIn K (.ref f_state_behind) = true)
    (h_a_ladder_run : PySem.W.nsIn K mainGlobals "ladder_run" = some (some (.ref f_ladder_run)))
    (h_l_ladder_run : K.lookup f_ladder_run = some ⟨oc_ladder_run, od_ladder_run, .func (PySem.W.fnOf "ladder_run" "ladder_run" (defArgs s_ladder_run) (defBody s_ladder_run) (defScope s_ladder_run) .none kV_ladder_run dc_ladder_run pm_ladder_run an_ladder_run cd_ladder_run ct_ladder_run), sl_ladder_run⟩)
    (h_c_ladder_run : PySem.W.codeIn K cd_ladder_run "ladder_run" = true)
    (h_k_ladder_run : PySem.W.keepIn K (.ref f_ladder_run) = true)
    (h_a_build : PySem.W.nsIn K mainGlobals "build" = some (some (.ref f_build)))
    (h_l_build : K.lookup f_build = some ⟨oc_build, od_build, .func (PySem.W.fnOf "build" "build" (defArgs s_build) (defBody s_build) (defScope s_build) .none kV_build dc_build pm_build an_build cd_build ct_build), sl_build⟩)
    (h_c_build : PySem.W.codeIn K cd_build "build" = true)
    (h_k_build : PySem.W.keepIn K (.ref f_build) = true)
    (h_a_l_pool : PySem.W.nsIn K mainGlobals "_law_pool" = some (some (.ref f_l_pool)))
    (h_l_l_pool : K.lookup f_l_pool = some ⟨oc_l_pool, od_l_pool, .func (PySem.W.fnOf "_law_pool" "_law_pool" (defArgs s_l_pool) (defBody s_l_pool) (defScope s_l_pool) .none kV_l_pool dc_l_pool pm_l_pool an_l_pool cd_l_pool ct_l_pool), sl_l_pool⟩)
    (h_c_l_pool : PySem.W.codeIn K cd_l_pool "_law_pool" = true)
    (h_k_l_pool : PySem.W.keepIn K (.ref f_l_pool) = true)
    (h_a_l_draw : PySem.W.nsIn K mainGlobals "_law_draw" = some (some (.ref f_l_draw)))
    (h_l_l_draw : K.lookup f_l_draw = some ⟨oc_l_draw, od_l_draw, .func (PySem.W.fnOf "_law_draw" "_law_draw" (defArgs s_l_draw) (defBody s_l_draw) (defScope s_l_draw) .none kV_l_draw dc_l_draw pm_l_draw an_l_draw cd_l_draw ct_l_draw), sl_l_draw⟩)
    (h_c_l_draw : PySem.W.codeIn K cd_l_draw "_law_draw" = true)
    (h_k_l_draw : PySem.W.keepIn K (.ref f_l_draw) = true)
    (h_a_l_ladder : PySem.W.nsIn K mainGlobals "_law_ladder" = some (some (.ref f_l_ladder)))
    (h_l_l_ladder : K.lookup f_l_ladder = some ⟨oc_l_ladder, od_l_ladder, .func (PySem.W.fnOf "_law_ladder" "_law_ladder" (defArgs s_l_ladder) (defBody s_l_ladder) (defScope s_l_ladder) .none kV_l_ladder dc_l_ladder pm_l_ladder an_l_ladder cd_l_ladder ct_l_ladder), sl_l_ladder⟩)
    (h_c_l_ladder : PySem.W.codeIn K cd_l_ladder "_law_ladder" = true)
    (h_k_l_ladder : PySem.W.keepIn K (.ref f_l_ladder) = true)
    (h_a_l_made : PySem.W.nsIn K mainGlobals "_law_made" = some (some (.ref f_l_made)))
    (h_l_l_made : K.lookup f_l_made = some ⟨oc_l_made, od_l_made, .func (PySem.W.fnOf "_law_made" "_law_made" (defArgs s_l_made) (defBody s_l_made) (defScope s_l_made) .none kV_l_made dc_l_made pm_l_made an_l_made cd_l_made ct_l_made), sl_l_made⟩)
    (h_c_l_made : PySem.W.codeIn K cd_l_made "_law_made" = true)
    (h_k_l_made : PySem.W.keepIn K (.ref f_l_made) = true)
    (h_a_l_cut : PySem.W.nsIn K mainGlobals "_law_cut" = some (some (.ref f_l_cut)))
    (h_l_l_cut : K.lookup f_l_cut = some ⟨oc_l_cut, od_l_cut, .func (PySem.W.fnOf "_law_cut" "_law_cut" (defArgs s_l_cut) (defBody s_l_cut) (defScope s_l_cut) .none kV_l_cut dc_l_cut pm_l_cut an_l_cut cd_l_cut ct_l_cut), sl_l_cut⟩)
    (h_c_l_cut : PySem.W.codeIn K cd_l_cut "_law_cut" = true)
    (h_k_l_cut : PySem.W.keepIn K (.ref f_l_cut) = true)
    (h_a_law : PySem.W.nsIn K mainGlobals "law" = some (some (.ref f_law)))
    (h_l_law : K.lookup f_law = some ⟨oc_law, od_law, .func (PySem.W.fnOf "law" "law" (defArgs s_law) (defBody s_law) (defScope s_law) .none kV_law dc_law pm_law an_law cd_law ct_law), sl_law⟩)
    (h_c_law : PySem.W.codeIn K cd_law "law" = true)
    (h_k_law : PySem.W.keepIn K (.ref f_law) = true)
    (h_ti_NoPosition : PySem.W.typeIn K (.ref f_NoPosition_init) = some (.type "function"))
    (h_ti_NoNode : PySem.W.typeIn K (.ref f_NoNode_init) = some (.type "function"))
    (h_g_QUESTIONS : PySem.W.nsIn K mainGlobals "QUESTIONS" = some (some (.int 48 t_QUESTIONS)))
    (h_g_MOST_ENDS : PySem.W.nsIn K mainGlobals "MOST_ENDS" = some (some (.int 60 t_MOST_ENDS)))
    (h_g_QUESTIONS_OF_A_LEVEL : PySem.W.nsIn K mainGlobals "QUESTIONS_OF_A_LEVEL" = some (some (.int 8 t_QUESTIONS_OF_A_LEVEL)))
    (h_z_abs : PySem.W.nsIn K mainGlobals "abs" = some none)
    (h_z_all : PySem.W.nsIn K mainGlobals "all" = some none)
    (h_z_enumerate : PySem.W.nsIn K mainGlobals "enumerate" = some none)
    (h_z_int : PySem.W.nsIn K mainGlobals "int" = some none)
    (h_z_len : PySem.W.nsIn K mainGlobals "len" = some none)
    (h_z_max : PySem.W.nsIn K mainGlobals "max" = some none)
    (h_z_range : PySem.W.nsIn K mainGlobals "range" = some none)
    (h_z_reversed : PySem.W.nsIn K mainGlobals "reversed" = some none)
    (h_z_set : PySem.W.nsIn K mainGlobals "set" = some none)
    (h_z_sorted : PySem.W.nsIn K mainGlobals "sorted" = some none)
    (h_z_sum : PySem.W.nsIn K mainGlobals "sum" = some none)
    (h_z_tuple : PySem.W.nsIn K mainGlobals "tuple" = some none) :
    ∃ fd : FuncData, (∀ (s : Shared) (v : Value), BindsTo s fd ⟨[v], []⟩ [("_law_script", v)]) ∧ ∀ base : Heap, K.In base → base.Ns mainGlobals mg → FnOk l.prog w K mg base CX0 12 fa fd ["_law_script"] (sp_law K) := by
  have e := hfa.symm.trans (PySem.W.mg_of X G h_a_law)
  cases e
  have FD_Web_init : FunD K "__init__" "Web.__init__" (defArgs s_Web_init) (defBody s_Web_init) (defScope s_Web_init) [] [("start", V.non)] f_Web_init (PySem.W.fnOf "__init__" "Web.__init__" (defArgs s_Web_init) (defBody s_Web_init) (defScope s_Web_init) .none (.ref kD_Web_init) dc_Web_init pm_Web_init an_Web_init cd_Web_init ct_Web_init) :=
    ⟨⟨_, _, _, _, _, _, _, _, _, _, rfl, h_l_Web_init, h_c_Web_init, .inl ⟨rfl, rfl⟩, .inr ⟨_, rfl, fun q hq => (by simp only [List.mem_cons, List.not_mem_nil, or_false] at hq; subst hq; exact ⟨_, h_kd_Web_init_start, rfl⟩)⟩⟩, h_k_Web_init⟩
  have KD_Web_init : ∃ ds, Vals [V.non] ds ∧ L2.Binds K _ P_Web_init ds := FD_Web_init.binds0 3 (by simp) rfl fun D doc pm an cdv ct us ks hu hk => match us, hu, ks, hk with | [_, _, _], _, [_], _ => ⟨_, _, _, _, _, _, rfl, rfl, rfl⟩
  have FD_walk : FunD K "walk" "walk" (defArgs s_walk) (defBody s_walk) (defScope s_walk) [V.non] [] f_walk (PySem.W.fnOf "walk" "walk" (defArgs s_walk) (defBody s_walk) (defScope s_walk) (.ref kT_walk) kV_walk dc_walk pm_walk an_walk cd_walk ct_walk) :=
    ⟨⟨_, _, _, _, _, _, _, _, _, _, rfl, h_l_walk, h_c_walk, .inr ⟨by simp, _, _, [.none], _, rfl, h_kt_walk, rfl, .cons rfl .nil⟩, .inl rfl⟩, h_k_walk⟩
  have KD_walk : ∃ ds, Vals [V.non] ds ∧ L2.Binds K _ P_walk ds := FD_walk.binds1 2 0 (by simp) rfl fun T kV doc pm an cdv ct us its hu hi => match us, hu, its, hi with | [_, _], _, [_], _ => ⟨_, rfl, rfl⟩
  have KA_walk : L2.Binds K _ P_walk [] := (fun ⟨ds, r, h⟩ => by cases r; exact h) (FD_walk.binds1 (ps := P_walk) 3 1 (by simp) rfl fun T kV doc pm an cdv ct us its hu hi => match us, hu, its, hi with | [_, _, _], _, [_], _ => ⟨_, rfl, rfl⟩)
  have FD_end_of : FunD K "end_of" "end_of" (defArgs s_end_of) (defBody s_end_of) (defScope s_end_of) [V.non] [] f_end_of (PySem.W.fnOf "end_of" "end_of" (defArgs s_end_of) (defBody s_end_of) (defScope s_end_of) (.ref kT_end_of) kV_end_of dc_end_of pm_end_of an_end_of cd_end_of ct_end_of) :=
    ⟨⟨_, _, _, _, _, _, _, _, _, _, rfl, h_l_end_of, h_c_end_of, .inr ⟨by simp, _, _, [.none], _, rfl, h_kt_end_of, rfl, .cons rfl .nil⟩, .inl rfl⟩, h_k_end_of⟩
  have KD_end_of : ∃ ds, Vals [V.non] ds ∧ L2.Binds K _ P_end_of ds := FD_end_of.binds1 2 0 (by simp) rfl fun T kV doc pm an cdv ct us its hu hi => match us, hu, its, hi with | [_, _], _, [_], _ => ⟨_, rfl, rfl⟩
  have KA_end_of : L2.Binds K _ P_end_of [] := (fun ⟨ds, r, h⟩ => by cases r; exact h) (FD_end_of.binds1 (ps := P_end_of) 3 1 (by simp) rfl fun T kV doc pm an cdv ct us its hu hi => match us, hu, its, hi with | [_, _, _], _, [_], _ => ⟨_, rfl, rfl⟩)
  have T : Txt K mg (Ad.mk c_TestError c_NoNode c_NoPosition c_Pupil c_Web c_Ladder f_is_question (PySem.W.fnOf "is_question" "is_question" (defArgs s_is_question) (defBody s_is_question) (defScope s_is_question) .none kV_is_question dc_is_question pm_is_question an_is_question cd_is_question ct_is_question) f_Web_contains (PySem.W.fnOf "__contains__" "Web.__contains__" (defArgs s_Web_contains) (defBody s_Web_contains) (defScope s_Web_contains) .none kV_Web_contains dc_Web_contains pm_Web_contains an_Web_contains cd_Web_contains ct_Web_contains) f_Web_len (PySem.W.fnOf "__len__" "Web.__len__" (defArgs s_Web_len) (defBody s_Web_len) (defScope s_Web_len) .none kV_Web_len dc_Web_len pm_Web_len an_Web_len cd_Web_len ct_Web_len) f_Web_first (PySem.W.fnOf "_first" "Web._first" (defArgs s_Web_first) (defBody s_Web_first) (defScope s_Web_first) .none kV_Web_first dc_Web_first pm_Web_first an_Web_first cd_Web_first ct_Web_first) f_Web_can_stand (PySem.W.fnOf "_can_stand" "Web._can_stand" (defArgs s_Web_can_stand) (defBody s_Web_can_stand) (defScope s_Web_can_stand) .none kV_Web_can_stand dc_Web_can_stand pm_Web_can_stand an_Web_can_stand cd_Web_can_stand ct_Web_can_stand) f_asked_twice (PySem.W.fnOf "_asked_twice" "_asked_twice" (defArgs s_asked_twice) (defBody s_asked_twice) (defScope s_asked_twice) .none kV_asked_twice dc_asked_twice pm_asked_twice an_asked_twice cd_asked_twice ct_asked_twice) f_Web_init (PySem.W.fnOf "__init__" "Web.__init__" (defArgs s_Web_init) (defBody s_Web_init) (defScope s_Web_init) .none (.ref kD_Web_init) dc_Web_init pm_Web_init an_Web_init cd_Web_init ct_Web_init) f_NoNode_init (PySem.W.fnOf "__init__" "NoNode.__init__" (defArgs s_NoNode_init) (defBody s_NoNode_init) (defScope s_NoNode_init) .none kV_NoNode_init dc_NoNode_init pm_NoNode_init an_NoNode_init cd_NoNode_init ct_NoNode_init) f_NoPosition_init (PySem.W.fnOf "__init__" "NoPosition.__init__" (defArgs s_NoPosition_init) (defBody s_NoPosition_init) (defScope s_NoPosition_init) .none kV_NoPosition_init dc_NoPosition_init pm_NoPosition_init an_NoPosition_init cd_NoPosition_init ct_NoPosition_init) f_Web_getitem (PySem.W.fnOf "__getitem__" "Web.__getitem__" (defArgs s_Web_getitem) (defBody s_Web_getitem) (defScope s_Web_getitem) .none kV_Web_getitem dc_Web_getitem pm_Web_getitem an_Web_getitem cd_Web_getitem ct_Web_getitem) f_Pupil_init (PySem.W.fnOf "__init__" "Pupil.__init__" (defArgs s_Pupil_init) (defBody s_Pupil_init) (defScope s_Pupil_init) .none kV_Pupil_init dc_Pupil_init pm_Pupil_init an_Pupil_init cd_Pupil_init ct_Pupil_init) f_Pupil_contains (PySem.W.fnOf "__contains__" "Pupil.__contains__" (defArgs s_Pupil_contains) (defBody s_Pupil_contains) (defScope s_Pupil_contains) .none kV_Pupil_contains dc_Pupil_contains pm_Pupil_contains an_Pupil_contains cd_Pupil_contains ct_Pupil_contains) f_begin (PySem.W.fnOf "_begin" "_begin" (defArgs s_begin) (defBody s_begin) (defScope s_begin) .none kV_begin dc_begin pm_begin an_begin cd_begin ct_begin) f_target_of (PySem.W.fnOf "target_of" "target_of" (defArgs s_target_of) (defBody s_target_of) (defScope s_target_of) .none kV_target_of dc_target_of pm_target_of an_target_of cd_target_of ct_target_of) f_walk (PySem.W.fnOf "walk" "walk" (defArgs s_walk) (defBody s_walk) (defScope s_walk) (.ref kT_walk) kV_walk dc_walk pm_walk an_walk cd_walk ct_walk) f_end_of (PySem.W.fnOf "end_of" "end_of" (defArgs s_end_of) (defBody s_end_of) (defScope s_end_of) (.ref kT_end_of) kV_end_of dc_end_of pm_end_of an_end_of cd_end_of ct_end_of) f_run_of (PySem.W.fnOf "run_of" "run_of" (defArgs s_run_of) (defBody s_run_of) (defScope s_run_of) .none kV_run_of dc_run_of pm_run_of an_run_of cd_run_of ct_run_of) f_Ladder_init (PySem.W.fnOf "__init__" "Ladder.__init__" (defArgs s_Ladder_init) (defBody s_Ladder_init) (defScope s_Ladder_init) .none (.ref kD_Ladder_init) dc_Ladder_init pm_Ladder_init an_Ladder_init cd_Ladder_init ct_Ladder_init) f_first_state (PySem.W.fnOf "_first_state" "_first_state" (defArgs s_first_state) (defBody s_first_state) (defScope s_first_state) .none kV_first_state dc_first_state pm_first_state an_first_state cd_first_state ct_first_state) f_has_ended (PySem.W.fnOf "_has_ended" "_has_ended" (defArgs s_has_ended) (defBody s_has_ended) (defScope s_has_ended) .none kV_has_ended dc_has_ended pm_has_ended an_has_ended cd_has_ended ct_has_ended) f_question_of (PySem.W.fnOf "_question_of" "_question_of" (defArgs s_question_of) (defBody s_question_of) (defScope s_question_of) .none kV_question_of dc_question_of pm_question_of an_question_of cd_question_of ct_question_of) f_state_behind (PySem.W.fnOf "_state_behind" "_state_behind" (defArgs s_state_behind) (defBody s_state_behind) (defScope s_state_behind) .none kV_state_behind dc_state_behind pm_state_behind an_state_behind cd_state_behind ct_state_behind) f_ladder_run (PySem.W.fnOf "ladder_run" "ladder_run" (defArgs s_ladder_run) (defBody s_ladder_run) (defScope s_ladder_run) .none kV_ladder_run dc_ladder_run pm_ladder_run an_ladder_run cd_ladder_run ct_ladder_run) f_build (PySem.W.fnOf "build" "build" (defArgs s_build) (defBody s_build) (defScope s_build) .none kV_build dc_build pm_build an_build cd_build ct_build) f_l_pool (PySem.W.fnOf "_law_pool" "_law_pool" (defArgs s_l_pool) (defBody s_l_pool) (defScope s_l_pool) .none kV_l_pool dc_l_pool pm_l_pool an_l_pool cd_l_pool ct_l_pool) f_l_draw (PySem.W.fnOf "_law_draw" "_law_draw" (defArgs s_l_draw) (defBody s_l_draw) (defScope s_l_draw) .none kV_l_draw dc_l_draw pm_l_draw an_l_draw cd_l_draw ct_l_draw) f_l_ladder (PySem.W.fnOf "_law_ladder" "_law_ladder" (defArgs s_l_ladder) (defBody s_l_ladder) (defScope s_l_ladder) .none kV_l_ladder dc_l_ladder pm_l_ladder an_l_ladder cd_l_ladder ct_l_ladder) f_l_made (PySem.W.fnOf "_law_made" "_law_made" (defArgs s_l_made) (defBody s_l_made) (defScope s_l_made) .none kV_l_made dc_l_made pm_l_made an_l_made cd_l_made ct_l_made) f_l_cut (PySem.W.fnOf "_law_cut" "_law_cut" (defArgs s_l_cut) (defBody s_l_cut) (defScope s_l_cut) .none kV_l_cut dc_l_cut pm_l_cut an_l_cut cd_l_cut ct_l_cut) fa (PySem.W.fnOf "law" "law" (defArgs s_law) (defBody s_law) (defScope s_law) .none kV_law dc_law pm_law an_law cd_law ct_law) KD_Web_init.choose KD_walk.choose KD_end_of.choose t_QUESTIONS t_MOST_ENDS t_QUESTIONS_OF_A_LEVEL) :=
    Txt.mk (PySem.W.mg_of X G h_g_TestError) (PySem.W.mg_of X G h_g_NoNode) (PySem.W.mg_of X G h_g_NoPosition) (PySem.W.mg_of X G h_g_Pupil) (⟨h_pg_Pupil, h_hd_Pupil, h_po_Pupil, h_sa_Pupil⟩) (⟨h_mkk_Pupil, h_a_Pupil_init, h_i_Pupil_init, h_kc_Pupil⟩) (h_nA_Pupil_rights) (PySem.W.mg_of X G h_g_Web) (⟨h_pg_Web, h_hd_Web, h_po_Web, h_sa_Web⟩) (⟨h_mkk_Web, h_a_Web_init, h_i_Web_init, h_kc_Web⟩) (h_nA_Web_nodes) (h_nA_Web_ends) (h_nA_Web_start) (PySem.W.mg_of X G h_g_Ladder) (⟨h_pg_Ladder, h_hd_Ladder, h_po_Ladder, h_sa_Ladder⟩) (⟨h_mkk_Ladder, h_a_Ladder_init, h_i_Ladder_init, h_kc_Ladder⟩) (h_nA_Ladder_levels) (h_nA_Ladder_begin) (h_nA_Ladder_up) (h_nA_Ladder_down) (h_nA_Ladder_count) (h_nA_Ladder_most_wrongs) (⟨h_bga_TestError, h_ty_TestError, h_brd_TestError, h_bfi_TestError⟩) (⟨⟨_, _, _, _, _, _, _, _, _, _, _, _, _, _, _, h_xl_NoPosition, by rfl⟩, h_sa_NoPosition, h_eb_NoPosition, h_ty_NoPosition, h_kc_NoPosition⟩) (⟨h_ga_NoPosition, h_gg_NoPosition, h_eb_NoPosition, h_hd_NoPosition⟩) (h_nf_NoPosition_place) (PySem.W.exm_ref h_eb_NoPosition h_hd_NoPosition h_ty_NoPosition h_ss_NoPosition) (⟨h_ga_NoPosition, h_gg_NoPosition, h_eb_NoPosition, h_hd_NoPosition, h_ic1_NoPosition, h_eg2, h_eg3, h_ic4_NoPosition⟩) (h_a_NoPosition_init) (h_ti_NoPosition) (kit_sub h_sb_NoPosition h_icl_TestError h_ty_TestError) (⟨⟨_, _, _, _, _, _, _, _, _, _, _, _, _, _, _, h_xl_NoNode, by rfl⟩, h_sa_NoNode, h_eb_NoNode, h_ty_NoNode, h_kc_NoNode⟩) (⟨h_ga_NoNode, h_gg_NoNode, h_eb_NoNode, h_hd_NoNode⟩) (h_nf_NoNode_index) (PySem.W.exm_ref h_eb_NoNode h_hd_NoNode h_ty_NoNode h_ss_NoNode) (⟨h_ga_NoNode, h_gg_NoNode, h_eb_NoNode, h_hd_NoNode, h_ic1_NoNode, h_eg2, h_eg3, h_ic4_NoNode⟩) (h_a_NoNode_init) (h_ti_NoNode) (kit_sub h_sb_NoNode h_icl_TestError h_ty_TestError) (fun_mk h_l_is_question h_c_is_question h_k_is_question) ((fun_mk (st := s_is_question) h_l_is_question h_c_is_question h_k_is_question).binds (ps := P_is_question) fun _ _ _ _ _ _ us hl => match us, hl with | [_], _ => rfl) (h_k_is_question) (PySem.W.mg_of X G h_a_is_question) (fun_mk h_l_Web_contains h_c_Web_contains h_k_Web_contains) ((fun_mk (st := s_Web_contains) h_l_Web_contains h_c_Web_contains h_k_Web_contains).binds (ps := P_Web_contains) fun _ _ _ _ _ _ us hl => match us, hl with | [_, _], _ => rfl) (h_k_Web_contains) (h_i_Web_contains) (h_a_Web_contains) (fun_mk h_l_Web_len h_c_Web_len h_k_Web_len) ((fun_mk (st := s_Web_len) h_l_Web_len h_c_Web_len h_k_Web_len).binds (ps := P_Web_len) fun _ _ _ _ _ _ us hl => match us, hl with | [_], _ => rfl) (h_k_Web_len) (h_i_Web_len) (h_a_Web_len) (fun_mk h_l_Web_first h_c_Web_first h_k_Web_first) ((fun_mk (st := s_Web_first) h_l_Web_first h_c_Web_first h_k_Web_first).binds (ps := P_Web_first) fun _ _ _ _ _ _ us hl => match us, hl with | [_], _ => rfl) (h_k_Web_first) (h_i_Web_first) (⟨h_a_Web_first, h_i_Web_first, h_k_Web_first⟩) (fun_mk h_l_Web_can_stand h_c_Web_can_stand h_k_Web_can_stand) ((fun_mk (st := s_Web_can_stand) h_l_Web_can_stand h_c_Web_can_stand h_k_Web_can_stand).binds (ps := P_Web_can_stand) fun _ _ _ _ _ _ us hl => match us, hl with | [_, _, _], _ => rfl) (h_k_Web_can_stand) (h_i_Web_can_stand) (⟨h_a_Web_can_stand, h_i_Web_can_stand, h_k_Web_can_stand⟩) (fun_mk h_l_asked_twice h_c_asked_twice h_k_asked_twice) ((fun_mk (st := s_asked_twice) h_l_asked_twice h_c_asked_twice h_k_asked_twice).binds (ps := P_asked_twice) fun _ _ _ _ _ _ us hl => match us, hl with | [_], _ => rfl) (h_k_asked_twice) (PySem.W.mg_of X G h_a_asked_twice) (fun_mk h_l_Web_init h_c_Web_init h_k_Web_init) (h_k_Web_init) (h_i_Web_init) (KD_Web_init.choose_spec.1) (KD_Web_init.choose_spec.2) (⟨fun s us ws _ hl hw => match us, hl, ws, hw with | [_, _, _], _, [_], _ => .of_eq rfl, fun r1 r2 => vals_app r1 r2⟩) (fun_mk h_l_NoNode_init h_c_NoNode_init h_k_NoNode_init) ((fun_mk (st := s_NoNode_init) h_l_NoNode_init h_c_NoNode_init h_k_NoNode_init).binds (ps := P_NoNode_init) fun _ _ _ _ _ _ us hl => match us, hl with | [_, _], _ => rfl) (h_k_NoNode_init) (h_i_NoNode_init) (fun_mk h_l_NoPosition_init h_c_NoPosition_init h_k_NoPosition_init) ((fun_mk (st := s_NoPosition_init) h_l_NoPosition_init h_c_NoPosition_init h_k_NoPosition_init).binds (ps := P_NoPosition_init) fun _ _ _ _ _ _ us hl => match us, hl with | [_, _], _ => rfl) (h_k_NoPosition_init) (h_i_NoPosition_init) (fun_mk h_l_Web_getitem h_c_Web_getitem h_k_Web_getitem) ((fun_mk (st := s_Web_getitem) h_l_Web_getitem h_c_Web_getitem h_k_Web_getitem).binds (ps := P_Web_getitem) fun _ _ _ _ _ _ us hl => match us, hl with | [_, _], _ => rfl) (h_k_Web_getitem) (h_i_Web_getitem) (h_a_Web_getitem) (h_fn_Web_getitem) (fun_mk h_l_Pupil_init h_c_Pupil_init h_k_Pupil_init) ((fun_mk (st := s_Pupil_init) h_l_Pupil_init h_c_Pupil_init h_k_Pupil_init).binds (ps := P_Pupil_init) fun _ _ _ _ _ _ us hl => match us, hl with | [_, _], _ => rfl) (h_k_Pupil_init) (h_i_Pupil_init) (fun_mk h_l_Pupil_contains h_c_Pupil_contains h_k_Pupil_contains) ((fun_mk (st := s_Pupil_contains) h_l_Pupil_contains h_c_Pupil_contains h_k_Pupil_contains).binds (ps := P_Pupil_contains) fun _ _ _ _ _ _ us hl => match us, hl with | [_, _], _ => rfl) (h_k_Pupil_contains) (h_i_Pupil_contains) (h_a_Pupil_contains) (fun_mk h_l_begin h_c_begin h_k_begin) ((fun_mk (st := s_begin) h_l_begin h_c_begin h_k_begin).binds (ps := P_begin) fun _ _ _ _ _ _ us hl => match us, hl with | [_, _], _ => rfl) (h_k_begin) (PySem.W.mg_of X G h_a_begin) (fun_mk h_l_target_of h_c_target_of h_k_target_of) ((fun_mk (st := s_target_of) h_l_target_of h_c_target_of h_k_target_of).binds (ps := P_target_of) fun _ _ _ _ _ _ us hl => match us, hl with | [_, _], _ => rfl) (h_k_target_of) (PySem.W.mg_of X G h_a_target_of) (FD_walk) (h_k_walk) (PySem.W.mg_of X G h_a_walk) (KD_walk.choose_spec.1) (KD_walk.choose_spec.2) (KA_walk) (FD_end_of) (h_k_end_of) (PySem.W.mg_of X G h_a_end_of) (KD_end_of.choose_spec.1) (KD_end_of.choose_spec.2) (KA_end_of) (fun_mk h_l_run_of h_c_run_of h_k_run_of) ((fun_mk (st := s_run_of) h_l_run_of h_c_run_of h_k_run_of).binds (ps := P_run_of) fun _ _ _ _ _ _ us hl => match us, hl with | [_, _], _ => rfl) (h_k_run_of) (PySem.W.mg_of X G h_a_run_of) (fun_mk h_l_Ladder_init h_c_Ladder_init h_k_Ladder_init) (h_k_Ladder_init) (h_i_Ladder_init) (⟨fun s us ws _ hl hw => match us, hl, ws, hw with | [_], _, [_, _, _, _, _, _], _ => .of_eq rfl, fun r1 r2 => vals_app r1 r2⟩) (fun_mk h_l_first_state h_c_first_state h_k_first_state) ((fun_mk (st := s_first_state) h_l_first_state h_c_first_state h_k_first_state).binds (ps := P_first_state) fun _ _ _ _ _ _ us hl => match us, hl with | [_], _ => rfl) (h_k_first_state) (PySem.W.mg_of X G h_a_first_state) (fun_mk h_l_has_ended h_c_has_ended h_k_has_ended) ((fun_mk (st := s_has_ended) h_l_has_ended h_c_has_ended h_k_has_ended).binds (ps := P_has_ended) fun _ _ _ _ _ _ us hl => match us, hl with | [_, _], _ => rfl) (h_k_has_ended) (PySem.W.mg_of X G h_a_has_ended) (fun_mk h_l_question_of h_c_question_of h_k_question_of) ((fun_mk (st := s_question_of) h_l_question_of h_c_question_of h_k_question_of).binds (ps := P_question_of) fun _ _ _ _ _ _ us hl => match us, hl with | [_], _ => rfl) (h_k_question_of) (PySem.W.mg_of X G h_a_question_of) (fun_mk h_l_state_behind h_c_state_behind h_k_state_behind) ((fun_mk (st := s_state_behind) h_l_state_behind h_c_state_behind h_k_state_behind).binds (ps := P_state_behind) fun _ _ _ _ _ _ us hl => match us, hl with | [_, _, _], _ => rfl) (h_k_state_behind) (PySem.W.mg_of X G h_a_state_behind) (fun_mk h_l_ladder_run h_c_ladder_run h_k_ladder_run) ((fun_mk (st := s_ladder_run) h_l_ladder_run h_c_ladder_run h_k_ladder_run).binds (ps := P_ladder_run) fun _ _ _ _ _ _ us hl => match us, hl with | [_, _], _ => rfl) (h_k_ladder_run) (PySem.W.mg_of X G h_a_ladder_run) (fun_mk h_l_build h_c_build h_k_build) ((fun_mk (st := s_build) h_l_build h_c_build h_k_build).binds (ps := P_build) fun _ _ _ _ _ _ us hl => match us, hl with | [_], _ => rfl) (h_k_build) (PySem.W.mg_of X G h_a_build) (fun_mk h_l_l_pool h_c_l_pool h_k_l_pool) ((fun_mk (st := s_l_pool) h_l_l_pool h_c_l_pool h_k_l_pool).binds (ps := P_l_pool) fun _ _ _ _ _ _ us hl => match us, hl with | [_], _ => rfl) (h_k_l_pool) (PySem.W.mg_of X G h_a_l_pool) (fun_mk h_l_l_draw h_c_l_draw h_k_l_draw) ((fun_mk (st := s_l_draw) h_l_l_draw h_c_l_draw h_k_l_draw).binds (ps := P_l_draw) fun _ _ _ _ _ _ us hl => match us, hl with | [_, _], _ => rfl) (h_k_l_draw) (PySem.W.mg_of X G h_a_l_draw) (fun_mk h_l_l_ladder h_c_l_ladder h_k_l_ladder) ((fun_mk (st := s_l_ladder) h_l_l_ladder h_c_l_ladder h_k_l_ladder).binds (ps := P_l_ladder) fun _ _ _ _ _ _ us hl => match us, hl with | [_], _ => rfl) (h_k_l_ladder) (PySem.W.mg_of X G h_a_l_ladder) (fun_mk h_l_l_made h_c_l_made h_k_l_made) ((fun_mk (st := s_l_made) h_l_l_made h_c_l_made h_k_l_made).binds (ps := P_l_made) fun _ _ _ _ _ _ us hl => match us, hl with | [_], _ => rfl) (h_k_l_made) (PySem.W.mg_of X G h_a_l_made) (fun_mk h_l_l_cut h_c_l_cut h_k_l_cut) ((fun_mk (st := s_l_cut) h_l_l_cut h_c_l_cut h_k_l_cut).binds (ps := P_l_cut) fun _ _ _ _ _ _ us hl => match us, hl with | [_, _], _ => rfl) (h_k_l_cut) (PySem.W.mg_of X G h_a_l_cut) (fun_mk h_l_law h_c_law h_k_law) ((fun_mk (st := s_law) h_l_law h_c_law h_k_law).binds (ps := P_law) fun _ _ _ _ _ _ us hl => match us, hl with | [_], _ => rfl) (h_k_law) (PySem.W.mg_of X G h_a_law) (PySem.W.mg_of X G h_g_QUESTIONS) (PySem.W.mg_of X G h_g_MOST_ENDS) (PySem.W.mg_of X G h_g_QUESTIONS_OF_A_LEVEL) (PySem.W.mg_none_of X G h_z_abs) (PySem.W.mg_none_of X G h_z_all) (PySem.W.mg_none_of X G h_z_enumerate) (PySem.W.mg_none_of X G h_z_int) (PySem.W.mg_none_of X G h_z_len) (PySem.W.mg_none_of X G h_z_max) (PySem.W.mg_none_of X G h_z_range) (PySem.W.mg_none_of X G h_z_reversed) (PySem.W.mg_none_of X G h_z_set) (PySem.W.mg_none_of X G h_z_sorted) (PySem.W.mg_none_of X G h_z_sum) (PySem.W.mg_none_of X G h_z_tuple)
  exact ⟨_, fun s v => .of_eq rfl, fun base _ _ => ok_law T⟩
theorem walk {l : PySem.W.OpenLaw} {q : Program} {loose : List Str} {XP : (Str → Option Value) → Heap → Prop} {YP : World → Heap → Prop} {d : DefRec} {K : Params → PySem.W.Frag} (hn : l.most = some 63) (hdf : d.params.defaults = [])
    (hY : ∀ (w : World) (h : Heap), YP w h → (K w.params).In h)
    (F : ∀ (w : World) (mg : Str → Option Value) (fa : Addr) (h : Heap), (K w.params).In h → h.Ns mainGlobals mg → mg d.name = some (.ref fa) →
      ∃ fd : FuncData, (∀ (s : Shared) (u : Value), BindsTo s fd ⟨[u], []⟩ [("_law_script", u)]) ∧ ∀ base : Heap, (K w.params).In base → base.Ns mainGlobals mg → FnOk l.prog w (K w.params) mg base CX0 12 fa fd ["_law_script"] (sp_law (K w.params))) :
    PySem.W.WalkO q loose XP YP l.row.toRowW d [] (fun f vs => PySem.call f vs) :=
  L2.walk_of (n := 63) (k := 12) (x := "_law_script") (CX := fun _ => CX0) (sp := fun w => sp_law (K w.params)) hn (by decide) hdf ⟨rfl, by decide, by decide⟩ hY F (fun _ _ a ns hl hO hS => ⟨a, ns, rfl, scr_of hO hS, hl, fun _ => rfl⟩) fun _ _ _ _ _ z => z
end K14

open PySem PySem.W PyProof.Rows in
set_option maxRecDepth 100000 in
set_option maxHeartbeats 0 in
theorem PySem.Challenge.cw_steppedtests_k14_whole_ladders_one_less_holds : PySem.Challenge.rw_steppedtests_k14_whole_ladders_one_less.Holds := by
  w_on; o_law; k_head; (case hw => w_witness2)
  k_fill
  refine K14.walk (l := PySem.Challenge.rw_steppedtests_k14_whole_ladders_one_less) rfl rfl (fun w h Y => PySem.W.kIn_of Y) ?F
  case F =>
    intro w mg fa h KX G hmg
    refine' K14.all_mk KX G hmg ?h_g_TestError ?h_g_NoNode ?h_g_NoPosition ?h_g_Pupil ?h_pg_Pupil ?h_hd_Pupil ?h_po_Pupil ?h_sa_Pupil ?h_mkk_Pupil ?h_kc_Pupil ?h_nA_Pupil_rights ?h_g_Web ?h_pg_Web ?h_hd_Web ?h_po_Web ?h_sa_Web ?h_mkk_Web ?h_kc_Web ?h_nA_Web_nodes ?h_nA_Web_ends ?h_nA_Web_start ?h_g_Ladder ?h_pg_Ladder ?h_hd_Ladder ?h_po_Ladder ?h_sa_Ladder ?h_mkk_Ladder ?h_kc_Ladder ?h_nA_Ladder_levels ?h_nA_Ladder_begin ?h_nA_Ladder_up ?h_nA_Ladder_down ?h_nA_Ladder_count ?h_nA_Ladder_most_wrongs ?h_bga_TestError ?h_ty_TestError ?h_brd_TestError ?h_bfi_TestError ?h_xl_NoPosition ?h_sa_NoPosition ?h_eb_NoPosition ?h_ty_NoPosition ?h_kc_NoPosition ?h_ga_NoPosition ?h_gg_NoPosition ?h_hd_NoPosition ?h_ss_NoPosition ?h_ic1_NoPosition ?h_eg2 ?h_eg3 ?h_ic4_NoPosition ?h_nf_NoPosition_place ?h_sb_NoPosition ?h_icl_TestError ?h_xl_NoNode ?h_sa_NoNode ?h_eb_NoNode ?h_ty_NoNode ?h_kc_NoNode ?h_ga_NoNode ?h_gg_NoNode ?h_hd_NoNode ?h_ss_NoNode ?h_ic1_NoNode ?h_ic4_NoNode ?h_nf_NoNode_index ?h_sb_NoNode ?h_a_is_question ?h_l_is_question ?h_c_is_question ?h_k_is_question ?h_a_Web_contains ?h_i_Web_contains ?h_l_Web_contains ?h_c_Web_contains ?h_k_Web_contains ?h_a_Web_len ?h_i_Web_len ?h_l_Web_len ?h_c_Web_len ?h_k_Web_len ?h_a_Web_first ?h_i_Web_first ?h_l_Web_first ?h_c_Web_first ?h_k_Web_first ?h_a_Web_can_stand ?h_i_Web_can_stand ?h_l_Web_can_stand ?h_c_Web_can_stand ?h_k_Web_can_stand ?h_a_asked_twice ?h_l_asked_twice ?h_c_asked_twice ?h_k_asked_twice ?h_a_Web_init ?h_i_Web_init ?h_l_Web_init ?h_c_Web_init ?h_k_Web_init ?h_kd_Web_init_start ?h_a_NoNode_init ?h_i_NoNode_init ?h_l_NoNode_init ?h_c_NoNode_init ?h_k_NoNode_init ?h_a_NoPosition_init ?h_i_NoPosition_init ?h_l_NoPosition_init ?h_c_NoPosition_init ?h_k_NoPosition_init ?h_a_Web_getitem ?h_i_Web_getitem ?h_fn_Web_getitem ?h_l_Web_getitem ?h_c_Web_getitem ?h_k_Web_getitem ?h_a_Pupil_init ?h_i_Pupil_init ?h_l_Pupil_init ?h_c_Pupil_init ?h_k_Pupil_init ?h_a_Pupil_contains ?h_i_Pupil_contains ?h_l_Pupil_contains ?h_c_Pupil_contains ?h_k_Pupil_contains ?h_a_begin ?h_l_begin ?h_c_begin ?h_k_begin ?h_a_target_of ?h_l_target_of ?h_c_target_of ?h_k_target_of ?h_a_walk ?h_l_walk ?h_c_walk ?h_k_walk ?h_kt_walk ?h_a_end_of ?h_l_end_of ?h_c_end_of ?h_k_end_of ?h_kt_end_of ?h_a_run_of ?h_l_run_of ?h_c_run_of ?h_k_run_of ?h_a_Ladder_init ?h_i_Ladder_init ?h_l_Ladder_init ?h_c_Ladder_init ?h_k_Ladder_init ?h_a_first_state ?h_l_first_state ?h_c_first_state ?h_k_first_state ?h_a_has_ended ?h_l_has_ended ?h_c_has_ended ?h_k_has_ended ?h_a_question_of ?h_l_question_of ?h_c_question_of ?h_k_question_of ?h_a_state_behind ?h_l_state_behind ?h_c_state_behind ?h_k_state_behind ?h_a_ladder_run ?h_l_ladder_run ?h_c_ladder_run ?h_k_ladder_run ?h_a_build ?h_l_build ?h_c_build ?h_k_build ?h_a_l_pool ?h_l_l_pool ?h_c_l_pool ?h_k_l_pool ?h_a_l_draw ?h_l_l_draw ?h_c_l_draw ?h_k_l_draw ?h_a_l_ladder ?h_l_l_ladder ?h_c_l_ladder ?h_k_l_ladder ?h_a_l_made ?h_l_l_made ?h_c_l_made ?h_k_l_made ?h_a_l_cut ?h_l_l_cut ?h_c_l_cut ?h_k_l_cut ?h_a_law ?h_l_law ?h_c_law ?h_k_law ?h_ti_NoPosition ?h_ti_NoNode ?h_g_QUESTIONS ?h_g_MOST_ENDS ?h_g_QUESTIONS_OF_A_LEVEL ?h_z_abs ?h_z_all ?h_z_enumerate ?h_z_int ?h_z_len ?h_z_max ?h_z_range ?h_z_reversed ?h_z_set ?h_z_sorted ?h_z_sum ?h_z_tuple
    (case h_g_TestError => k_is)
    (case h_g_NoNode => k_is)
    (case h_g_NoPosition => k_is)
    (case h_g_Pupil => k_is)
    (case h_pg_Pupil => k_is)
    (case h_hd_Pupil => k_is)
    (case h_po_Pupil => k_is)
    (case h_sa_Pupil => k_is)
    (case h_mkk_Pupil => k_is)
    (case h_kc_Pupil => k_is)
    (case h_nA_Pupil_rights => k_is)
    (case h_g_Web => k_is)
    (case h_pg_Web => k_is)
    (case h_hd_Web => k_is)
    (case h_po_Web => k_is)
    (case h_sa_Web => k_is)
    (case h_mkk_Web => k_is)
    (case h_kc_Web => k_is)
    (case h_nA_Web_nodes => k_is)
    (case h_nA_Web_ends => k_is)
    (case h_nA_Web_start => k_is)
    (case h_g_Ladder => k_is)
    (case h_pg_Ladder => k_is)
    (case h_hd_Ladder => k_is)
    (case h_po_Ladder => k_is)
    (case h_sa_Ladder => k_is)
    (case h_mkk_Ladder => k_is)
    (case h_kc_Ladder => k_is)
    (case h_nA_Ladder_levels => k_is)
    (case h_nA_Ladder_begin => k_is)
    (case h_nA_Ladder_up => k_is)
    (case h_nA_Ladder_down => k_is)
    (case h_nA_Ladder_count => k_is)
    (case h_nA_Ladder_most_wrongs => k_is)
    (case h_bga_TestError => k_is)
    (case h_ty_TestError => k_is)
    (case h_brd_TestError => k_is)
    (case h_bfi_TestError => k_is)
    (case h_xl_NoPosition => k_is)
    (case h_sa_NoPosition => k_is)
    (case h_eb_NoPosition => k_is)
    (case h_ty_NoPosition => k_is)
    (case h_kc_NoPosition => k_is)
    (case h_ga_NoPosition => k_is)
    (case h_gg_NoPosition => k_is)
    (case h_hd_NoPosition => k_is)
    (case h_ss_NoPosition => first | rfl | k_is)
    (case h_ic1_NoPosition => k_is)
    (case h_eg2 => k_is)
    (case h_eg3 => k_is)
    (case h_ic4_NoPosition => k_is)
    (case h_nf_NoPosition_place => k_is)
    (case h_sb_NoPosition => k_is)
    (case h_icl_TestError => k_is)
    (case h_xl_NoNode => k_is)
    (case h_sa_NoNode => k_is)
    (case h_eb_NoNode => k_is)
    (case h_ty_NoNode => k_is)
    (case h_kc_NoNode => k_is)
    (case h_ga_NoNode => k_is)
    (case h_gg_NoNode => k_is)
    (case h_hd_NoNode => k_is)
    (case h_ss_NoNode => first | rfl | k_is)
    (case h_ic1_NoNode => k_is)
    (case h_ic4_NoNode => k_is)
    (case h_nf_NoNode_index => k_is)
    (case h_sb_NoNode => k_is)
    (case h_a_is_question => k_is)
    (case h_l_is_question => k_is)
    (case h_c_is_question => k_is)
    (case h_k_is_question => k_is)
    (case h_a_Web_contains => k_is)
    (case h_i_Web_contains => k_is)
    (case h_l_Web_contains => k_is)
    (case h_c_Web_contains => k_is)
    (case h_k_Web_contains => k_is)
    (case h_a_Web_len => k_is)
    (case h_i_Web_len => k_is)
    (case h_l_Web_len => k_is)
    (case h_c_Web_len => k_is)
    (case h_k_Web_len => k_is)
    (case h_a_Web_first => k_is)
    (case h_i_Web_first => k_is)
    (case h_l_Web_first => k_is)
    (case h_c_Web_first => k_is)
    (case h_k_Web_first => k_is)
    (case h_a_Web_can_stand => k_is)
    (case h_i_Web_can_stand => k_is)
    (case h_l_Web_can_stand => k_is)
    (case h_c_Web_can_stand => k_is)
    (case h_k_Web_can_stand => k_is)
    (case h_a_asked_twice => k_is)
    (case h_l_asked_twice => k_is)
    (case h_c_asked_twice => k_is)
    (case h_k_asked_twice => k_is)
    (case h_a_Web_init => k_is)
    (case h_i_Web_init => k_is)
    (case h_l_Web_init => k_is)
    (case h_c_Web_init => k_is)
    (case h_k_Web_init => k_is)
    (case h_kd_Web_init_start => k_is)
    (case h_a_NoNode_init => k_is)
    (case h_i_NoNode_init => k_is)
    (case h_l_NoNode_init => k_is)
    (case h_c_NoNode_init => k_is)
    (case h_k_NoNode_init => k_is)
    (case h_a_NoPosition_init => k_is)
    (case h_i_NoPosition_init => k_is)
    (case h_l_NoPosition_init => k_is)
    (case h_c_NoPosition_init => k_is)
    (case h_k_NoPosition_init => k_is)
    (case h_a_Web_getitem => k_is)
    (case h_i_Web_getitem => k_is)
    (case h_fn_Web_getitem => k_is)
    (case h_l_Web_getitem => k_is)
    (case h_c_Web_getitem => k_is)
    (case h_k_Web_getitem => k_is)
    (case h_a_Pupil_init => k_is)
    (case h_i_Pupil_init => k_is)
    (case h_l_Pupil_init => k_is)
    (case h_c_Pupil_init => k_is)
    (case h_k_Pupil_init => k_is)
    (case h_a_Pupil_contains => k_is)
    (case h_i_Pupil_contains => k_is)
    (case h_l_Pupil_contains => k_is)
    (case h_c_Pupil_contains => k_is)
    (case h_k_Pupil_contains => k_is)
    (case h_a_begin => k_is)
    (case h_l_begin => k_is)
    (case h_c_begin => k_is)
    (case h_k_begin => k_is)
    (case h_a_target_of => k_is)
    (case h_l_target_of => k_is)
    (case h_c_target_of => k_is)
    (case h_k_target_of => k_is)
    (case h_a_walk => k_is)
    (case h_l_walk => k_is)
    (case h_c_walk => k_is)
    (case h_k_walk => k_is)
    (case h_kt_walk => k_is)
    (case h_a_end_of => k_is)
    (case h_l_end_of => k_is)
    (case h_c_end_of => k_is)
    (case h_k_end_of => k_is)
    (case h_kt_end_of => k_is)
    (case h_a_run_of => k_is)
    (case h_l_run_of => k_is)
    (case h_c_run_of => k_is)
    (case h_k_run_of => k_is)
    (case h_a_Ladder_init => k_is)
    (case h_i_Ladder_init => k_is)
    (case h_l_Ladder_init => k_is)
    (case h_c_Ladder_init => k_is)
    (case h_k_Ladder_init => k_is)
    (case h_a_first_state => k_is)
    (case h_l_first_state => k_is)
    (case h_c_first_state => k_is)
    (case h_k_first_state => k_is)
    (case h_a_has_ended => k_is)
    (case h_l_has_ended => k_is)
    (case h_c_has_ended => k_is)
    (case h_k_has_ended => k_is)
    (case h_a_question_of => k_is)
    (case h_l_question_of => k_is)
    (case h_c_question_of => k_is)
    (case h_k_question_of => k_is)
    (case h_a_state_behind => k_is)
    (case h_l_state_behind => k_is)
    (case h_c_state_behind => k_is)
    (case h_k_state_behind => k_is)
    (case h_a_ladder_run => k_is)
    (case h_l_ladder_run => k_is)
    (case h_c_ladder_run => k_is)
    (case h_k_ladder_run => k_is)
    (case h_a_build => k_is)
    (case h_l_build => k_is)
    (case h_c_build => k_is)
    (case h_k_build => k_is)
    (case h_a_l_pool => k_is)
    (case h_l_l_pool => k_is)
    (case h_c_l_pool => k_is)
    (case h_k_l_pool => k_is)
    (case h_a_l_draw => k_is)
    (case h_l_l_draw => k_is)
    (case h_c_l_draw => k_is)
    (case h_k_l_draw => k_is)
    (case h_a_l_ladder => k_is)
    (case h_l_l_ladder => k_is)
    (case h_c_l_ladder => k_is)
    (case h_k_l_ladder => k_is)
    (case h_a_l_made => k_is)
    (case h_l_l_made => k_is)
    (case h_c_l_made => k_is)
    (case h_k_l_made => k_is)
    (case h_a_l_cut => k_is)
    (case h_l_l_cut => k_is)
    (case h_c_l_cut => k_is)
    (case h_k_l_cut => k_is)
    (case h_a_law => k_is)
    (case h_l_law => k_is)
    (case h_c_law => k_is)
    (case h_k_law => k_is)
    (case h_ti_NoPosition => k_is)
    (case h_ti_NoNode => k_is)
    (case h_g_QUESTIONS => k_is)
    (case h_g_MOST_ENDS => k_is)
    (case h_g_QUESTIONS_OF_A_LEVEL => k_is)
    (case h_z_abs => k_is)
    (case h_z_all => k_is)
    (case h_z_enumerate => k_is)
    (case h_z_int => k_is)
    (case h_z_len => k_is)
    (case h_z_max => k_is)
    (case h_z_range => k_is)
    (case h_z_reversed => k_is)
    (case h_z_set => k_is)
    (case h_z_sorted => k_is)
    (case h_z_sum => k_is)
    (case h_z_tuple => k_is)
