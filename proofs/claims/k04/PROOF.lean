import PyProof.Rows.All
import Wide.All
import OpenK.AllK
import Wide.FinOn
import HandS.ForMost
import HandS.Wide
import HandS.Style
import HandS.Codes
import HandS.Conv
import HandS.IsInst
import HandS.Zip
import HandS.Walk
import HandS.SetFor
import HandS.Strs
import HandS.NoneIn
import PySem.Challenge.RW_bothdoors_k04_parts_by_doors_passed
set_option Elab.async false
set_option linter.all false
set_option maxRecDepth 100000
set_option maxHeartbeats 2000000
namespace Bd
open PySem PySem.Spec PyProof.Rows L2 HT
section
variable {prog : Program} {w : World} {A : Around} {E : Value → Shared → Prop} {s : Shared}
theorem sliceApplied_two {sl : Addr} {i : Int} {tk : Tok} {Q : Int × Int × Nat → Shared → Prop} (hs : s.heap.IsSliceOf sl .none .none (.int i tk)) (hi : i = 1 ∨ i = -1)
    (h : Q (if i = 1 then (0, 1, 2) else (1, -1, 2)) s) : wpAny (model prog w) A (Builtin.Slice.sliceApplied (.ref sl) (pure ((2 : Nat) : Int))) Q E s := by
  obtain ⟨os, hos, hcs, hds⟩ := id hs
  unfold Builtin.Slice.sliceApplied Builtin.Slice.sliceFields
  refine wpAny_bind (wpAny_bind (wpAny_field hos hds (x := .none) rfl (wpAny_bind (wpAny_field hos hds (x := .none) rfl (wpAny_bind (wpAny_field hos hds (x := .int i tk) rfl (wpAny_pure ?_)))))))
  refine wpAny_bind (slicePart_int ?_)
  rcases hi with rfl | rfl
  · show wpAny _ _ (if ((1 : Int) == 0) = true then _ else _) _ _ s
    rw [if_neg (by decide)]
    refine wpAny_bind (slicePart_none (wpAny_bind (slicePart_none (wpAny_bind (wpAny_pure ?_)))))
    exact wpAny_pure h
  · show wpAny _ _ (if ((-1 : Int) == 0) = true then _ else _) _ _ s
    rw [if_neg (by decide)]
    refine wpAny_bind (slicePart_none (wpAny_bind (slicePart_none (wpAny_bind (wpAny_pure ?_)))))
    exact wpAny_pure h
theorem getItem_pair_step {t sl : Addr} {x y : Value} {i : Int} {tk : Tok} {Q : Value → Shared → Prop} (ht : IsTup s.heap t #[x, y]) (hs : s.heap.IsSliceOf sl .none .none (.int i tk)) (hi : i = 1 ∨ i = -1)
    (h1 : i = 1 → Q (.ref t) s) (h2 : i = -1 → Q (.ref s.heap.objs.size) { s with heap := s.heap.push { cls := .type "tuple", data := .seq #[y, x] } }) :
    wpAny (model prog w) A (getItem (.ref t) (.ref sl)) Q E s := by
  have T : s.TypeIs (.ref sl) "slice" := let ⟨o, a, b, _⟩ := hs; ⟨o, a, b⟩
  unfold getItem; try with_reducible refine wpAny_holding ?_
  first | refine wpAny_bind (wpAny_pure ?_) | (skip; skip)
  refine wpAny_bind (wpAny_sequenceKey ht.typeIs (by decide) (wpAny_bind (wpAny_callSpecial?_slot (name := Str.ofString "__getitem__") ht.typeIs PyProof.Rows.slot_tuple_getitem (wpAny_call_entry PyProof.Rows.slot_tuple_getitem ht.typeIs entry_tuple_getitem ?_ (args_tuple_getitem _ _)))))
  show wpAny _ _ (Builtin.Tuple.tupleItemsOf (.ref t) >>= fun z => _) _ _ s
  refine wpAny_bind (tupleItemsOf_ ht (wpAny_bind (wpAny_typeOf T ?_)))
  rw [if_pos (by decide)]; refine wpAny_bind (sliceApplied_two hs hi ?_)
  rcases hi with rfl | rfl
  · rw [if_pos rfl]
    show wpAny _ _ (if (((0 : Int) == 0 && (1 : Int) == 1 && (2 : Nat) == 2)) = true then _ else _) _ _ s
    rw [if_pos (by decide)]; refine wpAny_bind ?_
    show wpAny _ _ (typeOf (.ref t) >>= fun z => pure (z == .type "tuple")) _ _ s
    refine wpAny_bind (wpAny_typeOf ht.typeIs (wpAny_pure ?_)); first | rw [if_pos (by decide)] | simp only [beq_self_eq_true, if_true]
    have h := h1 rfl
    first | exact wpAny_bind (wpAny_rule (wpAny_pure ⟨_, rfl, wpAny_pure h⟩)) | exact wpAny_bind (wpAny_rule (wpAny_bind (wpAny_pure (wpAny_pure ⟨_, rfl, wpAny_pure h⟩))))
  · rw [if_neg (by decide)]
    show wpAny _ _ (if (((1 : Int) == 0 && (-1 : Int) == 1 && (2 : Nat) == 2)) = true then _ else _) _ _ s
    rw [if_neg (by decide)]
    have e : ((List.range 2).filterMap fun (m : Nat) => (#[x, y] : Array Value)[((1 : Int) + (m : Int) * (-1)).toNat]?).toArray = #[y, x] := by rfl
    have z : sizeOk (.seq (#[y, x] : Array Value)) := by show (2 : Nat) ≤ sizeLine; decide
    rw [e]; have h := h2 rfl
    first | exact wpAny_bind (m := Builtin.Tuple.tupleExact _) (wpAny_newObj_type (wpAny_pure ⟨_, rfl, wpAny_pure h⟩) z) | exact wpAny_bind (m := Builtin.Tuple.tupleExact _) (wpAny_newObj_type (wpAny_bind (wpAny_pure (wpAny_pure ⟨_, rfl, wpAny_pure h⟩))) z) | exact wpAny_bind (wpAny_bind (m := Builtin.Tuple.tupleExact _) (wpAny_newObj_type (wpAny_pure (wpAny_pure ⟨_, rfl, wpAny_pure h⟩)) z)) | exact wpAny_bind (wpAny_bind (m := Builtin.Tuple.tupleExact _) (wpAny_newObj_type (wpAny_pure ⟨_, rfl, wpAny_pure h⟩) z))
end
section
variable {X : Cx}
/-! ### own rules -/
theorem op_powW : OpR X (binaryOp .Pow) (rI (fun i j => 0 ≤ j ∧ (Builtin.Int.intBits i : Int) * j ≤ 2 ^ 27) fun i j => .int (i ^ j.toNat)) :=
  opI fun _ _ _ _ _ _ _ hc q => pow_int hc.1 hc.2 q
/-- o[i] of a list, read for o[i] op= e -/
def rGetL (K : PySem.W.Frag) : V → V → Hp → VK → Prop := fun o i H Q => ∃ p xs k v, o = .ref p ∧ i = .int k ∧ 0 ≤ k ∧ SqL K H p xs ∧ atI xs k = some v ∧ Q v H
theorem get_list : PGet X (rGetL X.K) := by
  intro pins s σ H o i ov iv Q I ro ri h
  obtain ⟨p, xs, k, z, rfl, rfl, h0, hq, he, q⟩ := h
  cases ro
  obtain ⟨t, rfl⟩ := ri
  obtain ⟨its, r, pl, hz⟩ := I.list hq
  obtain ⟨j, h1, h2, h3, h4, h5⟩ := atI_get he
  obtain ⟨w, ew, rw'⟩ := r.get h2
  have hl := r.length
  have hn := line63
  have fin : EP X pins σ Q w s := ⟨z, H, I, rw', q⟩
  have hj : k.toNat = j := by
    rw [seqIndex_of h0 h5] at h1
    exact Option.some.inj h1
  exact wpAny_getItem_list pl.isList h0 (by omega) (by rw [hj]; simpa using ew) fin
/-- t[::e], t a pair, e 1 or -1 -/
def tStepT (K : PySem.W.Frag) (te ts : TE) : TE := fun σ H Q => te σ H fun x H1 => ts σ H1 fun y H2 => ∃ i a u v, y = .int i ∧ x = .ref a ∧ SqT K H2 a [u, v] ∧ (i = 1 ∨ i = -1) ∧ (i = 1 → Q (.ref a) H2) ∧ (i = -1 → ∀ p, H2 p = none → Q (.ref p) (upd H2 p (.tup [v, u])))
theorem pe_stepT {e st : Expr} {te ts : TE} {p3 pos : Pos} (he : PE X e te) (hst : PE X st ts) : PE X (.Subscript e (.Slice none none (some st) p3) pos) (tStepT X.K te ts) := by
  refine ⟨fun pins s σ H Q I h => ?_⟩
  refine Subscript_ (thn (he.run pins s σ H _ I h) fun v s1 ⟨x, H1, I1, r1, q⟩ => ?_)
  refine wpAny_Slice (thn (po_none.run pins s1 σ H1 (fun o H2 => o = none ∧ H2 = H1) I1 ⟨rfl, rfl⟩) fun vl s2 ⟨l, H2, I2, pl, el, e2⟩ => ?_)
  subst el e2
  refine thn (po_none.run pins s2 σ H2 (fun o H3 => o = none ∧ H3 = H2) I2 ⟨rfl, rfl⟩) fun vu s3 ⟨u, H3, I3, pu, eu, e3⟩ => ?_
  subst eu e3
  rw [evalPart_some]
  refine thn (hst.run pins s3 σ H3 _ I3 q) fun vs s4 ⟨y, H4, I4, r4, i, a, ux, vx, ey, ex, hx, hi, q1, q2⟩ => ?_
  subst ey ex
  cases r1
  obtain ⟨tk, rfl⟩ := r4
  cases pl
  cases pu
  have I5 : Inv X pins σ H4 { s4 with heap := s4.heap.push { cls := .type "slice", data := .fields #[.none, .none, .int i tk] } } := I4.kept (t' := s4.toks) fun b ob q => Heap.get?_push_of_some _ q
  obtain ⟨its, r, ht, hz⟩ := I5.tuple hx
  obtain ⟨wu, wv, rfl, ru, rv⟩ : ∃ wu wv, its = [wu, wv] ∧ RelV ux wu ∧ RelV vx wv := by
    cases r with
    | cons r1 r2 =>
      cases r2 with
      | cons r3 r4 =>
        cases r4
        exact ⟨_, _, rfl, r1, r3⟩
  show wpAny (model X.prog X.w) X.A (subscriptTail e (.Slice none none (some st) p3) (.ref a) (.ref s4.heap.objs.size)) (EP X pins σ Q) X.xe { s4 with heap := s4.heap.push { cls := .type "slice", data := .fields #[.none, .none, .int i tk] } }
  refine tail_any (ops := [.ref a, .ref s4.heap.objs.size]) ht.typeIs (PyProof.Rows.slot_tuple_getitem.lookup) ?_ (by with_unfolding_all rfl)
  refine getItem_pair_step (x := wu) (y := wv) ht (Heap.IsSliceOf.new _ _ _ _) hi (fun e1 => ?_) fun e1 => ?_
  · exact ⟨.ref _, _, I5, rfl, q1 e1⟩
  · refine ⟨.ref _, _, I5.laid (t' := s4.toks) (o := .tup [vx, ux]) (fun b ob q => Heap.get?_push_of_some _ q) (Nat.le_refl _) ?_, rfl, q2 e1 _ (I5.hok.fresh (Nat.le_refl _))⟩
    exact ⟨(by show 2 ≤ sizeLine; decide), _, .cons rv (.cons ru .nil), IsTup.new _ _⟩
end
/-! ### own calls -/
/-- a def of the module, by its promise -/
structure Ca (P : Program) (w : World) (K : PySem.W.Frag) (mg : Str → Option Value) (base : Heap) (k : Nat) (x : Str) (sp : Sp) : Prop where
  ex : ∃ (f : Addr) (fd : FuncData) (ps : List Str), FnOk P w K mg base CX0 k f fd ps sp ∧ mg x = some (.ref f) ∧ PySem.W.keepIn K (.ref f) = true ∧ Binds K fd ps []
/-- .. called by names alone -/
structure Ck (P : Program) (w : World) (K : PySem.W.Frag) (mg : Str → Option Value) (base : Heap) (k : Nat) (x : Str) (ks : List Str) (gV : List V → List V) (sp : Sp) : Prop where
  ex : ∃ (f : Addr) (fd : FuncData) (ps : List Str) (g : List Value → List Value), FnOk P w K mg base CX0 k f fd ps sp ∧ mg x = some (.ref f) ∧ PySem.W.keepIn K (.ref f) = true ∧
    (∀ (s : Shared) (ws : List Value), (g ws).length = ps.length → BindsTo s fd ⟨[], ks.zip ws⟩ (ps.zip (g ws))) ∧ ∀ {zs : List V} {ws : List Value}, Vals zs ws → Vals (gV zs) (g ws)
def tKw (sp : Sp) (gV : List V → List V) (tk : TA) : TE := fun σ H Q => tk σ H fun zs H1 => sp (gV zs) H1 Q E0
section
variable {X : Cx} {k j : Nat} {x : Str} {ks : List Str} {gV : List V → List V} {sp : Sp} {p pos : Pos} {e : Expr} {es : List Expr} {kws : List Keyword} {t tk : TA}
theorem pe_u (c : Ca X.prog X.w X.K X.mg X.base k x sp) (hr : Room j X.A) (hk : k ≤ j) (hg : Gl X x) (ha : PA X (e :: es) t)
    (hd : (x == ("__debug__" : Str)) = false := by decide) (h1 : starEach (e :: es) X.env = (false, eval e X.env) :: starEach es X.env := by rfl) (h2 : (backTo pos (starEach es X.env)).any (·.1) = false := by rfl) :
    PE X (.Call (.Name x p) (e :: es) [] pos) (tCall sp [] E0 t) := by
  obtain ⟨f, fd, ps, F, hm, kp, b⟩ := c.ex
  exact pe_call F (hr.mono hk) hg hm kp b .nil pass0 ha hd h1 h2
theorem pe_kw (c : Ck X.prog X.w X.K X.mg X.base k x ks gV sp) (hr : Room j X.A) (hk : k ≤ j) (hg : Gl X x) (ha : PK X kws tk)
    (h1 : (backToKw pos (keywordEach kws X.env)).all (·.1.isSome) = true := by rfl) (h2 : (backToKw pos (keywordEach kws X.env)).filterMap (·.1) = ks := by rfl)
    (hd : (x == ("__debug__" : Str)) = false := by decide) (h3 : ((backTo pos (starEach [] X.env)).any (·.1) || (backToKw pos (keywordEach kws X.env)).any (·.1.isNone)) = false := by rfl) :
    PE X (.Call (.Name x p) [] kws pos) (tKw sp gV tk) := by
  obtain ⟨f, fd, ps, g, F, hm, kp, b, br⟩ := c.ex
  refine ⟨fun pins s σ H Q I h => ?_⟩
  refine wpAny_Call_Name_kw (ld_glob I hg hm ?_ hd)
  refine PySem.W.callWith_KW0 (h₀ := X.base) I.ok.mod.kin kp h1 (thn (ha.run pos pins s σ H _ I h) fun ws s2 ⟨zs, H2, I2, rz, q2⟩ => ⟨I2.kIn, ?_⟩) h3
  rw [h2]
  have rg := br rz
  have hl : (g ws).length = ps.length := by rw [← rg.length]; exact F.len _ _ _ _ q2
  show wpAny _ _ (call (.ref f) [] (ks.zip ws)) _ _ _
  refine wpAny_call (codeAny_mono (F.run X.A X.stack s2 H2 ⟨[], ks.zip ws⟩ (g ws) (gV zs) Q E0 (hr.mono hk) I2.env0 (b s2 ws hl) rg q2) fun r s' hq => ?_)
  cases r with
  | error e => exact hq.elim
  | ok fl =>
    cases fl with
    | ret u => exact I2.after hq
    | next => exact hq.elim
    | brk => exact hq.elim
    | cont => exact hq.elim
end
/-- a statement, then the rest, with what holds between them -/
def tMid (t u : TS) : TS := fun D σ H => ∃ M : L2.St → Hp → Prop, t { D with nx := M } σ H ∧ ∀ σ' H', M σ' H' → u D σ' H'
theorem pss_mid {X : Cx} {st : Stmt} {rest : List Stmt} {t u : TS} (a : PS X st t) (b : PSs X rest u) : PSs X (st :: rest) (tMid t u) :=
  ⟨fun pins s σ H D I h => by
    obtain ⟨M, hm, hn⟩ := h
    refine wpAny_execs_cons (thn (a.run pins s σ H { D with nx := M } I hm) fun f s1 q => ?_)
    cases f with
    | next =>
      obtain ⟨σ1, H1, I1, q1⟩ := q
      exact b.run pins s1 σ1 H1 D I1 (hn σ1 H1 q1)
    | ret v => exact q
    | brk => exact q
    | cont => exact q⟩
/-! ### rules whose reading names the written part K alone (within comprehensions) -/
theorem opK {X : Cx} {f : Value → Value → Sem Value} (r : R2) (h : OpR X f r) : OpR X f r := h
theorem ixK {X : Cx} (r : R2) (h : IxR X r) : IxR X r := h
theorem clK {X : Cx} {f : Value} (r : List V → Hp → VK → Prop) (h : CallR X f r) : CallR X f r := h
theorem slK {X : Cx} (r : V → Option Int → Option Int → Hp → VK → Prop) (h : SlR X r) : SlR X r := h
def rLenK (K : PySem.W.Frag) : List V → Hp → VK → Prop := fun as H Q => ∃ p ys, as = [.ref p] ∧ (SqL K H p ys ∨ SqT K H p ys) ∧ Q (.int ys.length) H
def rListK (K : PySem.W.Frag) : List V → Hp → VK → Prop := fun as H Q => ∃ p ys, as = [.ref p] ∧ (SqL K H p ys ∨ SqT K H p ys) ∧ ∀ l, H l = none → Q (.ref l) (upd H l (.lst ys))
theorem teK {X : Cx} {e : Expr} (t : TE) (h : PE X e t) : PE X e t := h
end Bd
namespace Bd
open PySem PySem.Spec PyProof.Rows L2 HT
theorem ifT {c A B : Prop} [Decidable c] (hc : c) (h : A) : if c then A else B := by rw [if_pos hc]; exact h
theorem ifF {c A B : Prop} [Decidable c] (hc : ¬ c) (h : B) : if c then A else B := by rw [if_neg hc]; exact h
/-! ### heaps without some addresses -/
def hid (S : List Addr) (H : Hp) : Hp := fun b => if b ∈ S then none else H b
theorem hid_of {S : List Addr} {H : Hp} {b : Addr} {o : HO} (h : H b = some o) (n : b ∉ S) : hid S H b = some o := by
  unfold hid; rw [if_neg n]; exact h
theorem of_hid {S : List Addr} {H : Hp} {b : Addr} {o : HO} (h : hid S H b = some o) : H b = some o ∧ b ∉ S := by
  unfold hid at h
  by_cases n : b ∈ S
  · rw [if_pos n] at h; cases h
  · rw [if_neg n] at h; exact ⟨h, n⟩
theorem hid_none {S : List Addr} {H : Hp} {b : Addr} (h : H b = none) : hid S H b = none := by
  unfold hid; split <;> first | rfl | exact h
/-- kept but for the addresses of S -/
def Kp (S : List Addr) (H H' : Hp) : Prop := Same (hid S H) (hid S H')
theorem Kp.refl {S : List Addr} {H : Hp} : Kp S H H := fun _ _ h => h
theorem Kp.trans {S : List Addr} {H H1 H2 : Hp} (a : Kp S H H1) (b : Kp S H1 H2) : Kp S H H2 := fun x o h => b x o (a x o h)
theorem Kp.at {S : List Addr} {H H1 : Hp} (k : Kp S H H1) {b : Addr} {o : HO} (h : H b = some o) (n : b ∉ S) : H1 b = some o := (of_hid (k b o (hid_of h n))).1
theorem Kp.wr {S : List Addr} {H H1 : Hp} (k : Kp S H H1) {a : Addr} {o : HO} (n : a ∈ S) : Kp S H (upd H1 a o) := fun b u h => by
  obtain ⟨h1, h2⟩ := of_hid (k b u h)
  exact hid_of (by rw [upd_ne (fun (e : b = a) => h2 (by rw [e]; exact n))]; exact h1) h2
/-- something that H does not know is laid or written -/
theorem Kp.new {S : List Addr} {H H1 : Hp} (k : Kp S H H1) {p : Addr} {o : HO} (n : hid S H p = none) : Kp S H (upd H1 p o) := fun b u h => by
  obtain ⟨h1, h2⟩ := of_hid (k b u h)
  refine hid_of ?_ h2
  rw [upd_ne (fun e => by rw [e, n] at h; cases h)]
  exact h1
theorem Kp.same {S : List Addr} {H H1 : Hp} (k : Same H H1) : Kp S H H1 := fun b u h => by
  obtain ⟨h1, h2⟩ := of_hid h
  exact hid_of (k b u h1) h2
theorem Kp.sub {S S' : List Addr} {H H1 : Hp} (k : Kp S H H1) (h : ∀ b ∈ S, b ∉ S' → ∀ o, H b = some o → H1 b = some o) : Kp S' H H1 := fun b u e => by
  obtain ⟨h1, h2⟩ := of_hid e
  by_cases n : b ∈ S
  · exact hid_of (h b n h2 u h1) h2
  · exact hid_of (k.at h1 n) h2
/-- addresses that H does not know may be dropped from S -/
theorem Kp.drop {S S' : List Addr} {H H1 : Hp} (k : Kp S H H1) (h : ∀ b ∈ S, b ∉ S' → H b = none) : Kp S' H H1 :=
  k.sub fun b n n' o e => by rw [h b n n'] at e; cases e
theorem Kp.mono {S S' : List Addr} {H H1 : Hp} (k : Kp S H H1) (h : ∀ b ∈ S, b ∈ S') : Kp S' H H1 := k.sub fun b n n' => absurd (h b n) n'
theorem hid_same {S : List Addr} {H : Hp} : Same (hid S H) H := fun b o h => (of_hid h).1
theorem hid_sub {S S' : List Addr} {H : Hp} (h : ∀ b ∈ S', b ∈ S) : Same (hid S H) (hid S' H) := fun b o e => hid_of (of_hid e).1 fun n => (of_hid e).2 (h b n)
theorem same_new {H : Hp} {p : Addr} {o : HO} (h : H p = none) : Same H (upd H p o) := fun b x e => by
  rw [upd_ne (ne_of_none e h)]
  exact e
theorem ne_new {H : Hp} {a p : Addr} {o : HO} (h : H a = some o) (n : H p = none) : p ≠ a := fun e => by rw [e, h] at n; cases n
/-! ### data in a heap -/
theorem same_tup {K : PySem.W.Frag} {H H' : Hp} {a : Addr} {xs : List V} (e : Same H H') (h : SqT K H a xs) : SqT K H' a xs := by
  rcases h with (h | ⟨o, h⟩) | h
  · exact .inl (.inl (e _ _ h))
  · exact .inl (.inr ⟨o, e _ _ h⟩)
  · exact .inr h
mutual
theorem dp_same {K : PySem.W.Frag} {H H' : Hp} (k : Same H H') : ∀ {d : PyData} {v : V}, Dp K H v d → Dp K H' v d
  | .none, _, h => by cases h; exact .non
  | .bool b, _, h => by cases h; exact .bl b
  | .int i, _, h => by cases h; exact .int i
  | .str x, _, h => by cases h; exact .str x
  | .list ds, _, h => by
    cases h with
    | lst hs ha => exact .lst (k.seq hs) (dps_same k ha)
  | .tuple ds, _, h => by
    cases h with
    | tup hs ha => exact .tup (same_tup k hs) (dps_same k ha)
  | .dict _, _, h => by cases h
theorem dps_same {K : PySem.W.Frag} {H H' : Hp} (k : Same H H') : ∀ {ds : List PyData} {vs : List V}, DpAll K H vs ds → DpAll K H' vs ds
  | [], _, h => by cases h; exact .nil
  | d :: ds, _, h => by
    cases h with
    | cons h1 h2 => exact .cons (dp_same k h1) (dps_same k h2)
end
theorem dps_len {K : PySem.W.Frag} {H : Hp} : ∀ {ds : List PyData} {vs : List V}, DpAll K H vs ds → vs.length = ds.length
  | [], _, h => by cases h; rfl
  | d :: ds, _, h => by
    cases h with
    | cons h1 h2 => rw [List.length_cons, List.length_cons, dps_len h2]
theorem dps_at {K : PySem.W.Frag} {H : Hp} : ∀ {ds : List PyData} {vs : List V} {i : Nat} {d : PyData}, DpAll K H vs ds → ds[i]? = some d → ∃ v, vs[i]? = some v ∧ Dp K H v d
  | [], _, i, _, h, e => by simp at e
  | d :: ds, _, 0, _, h, e => by
    cases h with
    | cons h1 h2 =>
      cases e
      exact ⟨_, rfl, h1⟩
  | d :: ds, _, i + 1, _, h, e => by
    cases h with
    | cons h1 h2 =>
      obtain ⟨v, h3, h4⟩ := dps_at h2 (i := i) (by simpa using e)
      exact ⟨v, by simpa using h3, h4⟩
theorem dps_app {K : PySem.W.Frag} {H : Hp} : ∀ {ds es : List PyData} {vs us : List V}, DpAll K H vs ds → DpAll K H us es → DpAll K H (vs ++ us) (ds ++ es)
  | [], _, _, _, h, g => by cases h; exact g
  | d :: ds, _, _, _, h, g => by
    cases h with
    | cons h1 h2 => exact .cons h1 (dps_app h2 g)
theorem dps_ints {K : PySem.W.Frag} {H : Hp} : ∀ ns : List Int, DpAll K H (ns.map V.int) (ns.map PyData.int)
  | [] => .nil
  | n :: ns => .cons (.int n) (dps_ints ns)
theorem dps_ints_eq {K : PySem.W.Frag} {H : Hp} : ∀ {ns : List Int} {vs : List V}, DpAll K H vs (ns.map PyData.int) → vs = ns.map V.int
  | [], _, h => by cases h; rfl
  | n :: ns, _, h => by
    cases h with
    | cons h1 h2 =>
      cases h1
      rw [dps_ints_eq h2]
      rfl
theorem dp_list {K : PySem.W.Frag} {H : Hp} {v : V} {ds : List PyData} (h : Dp K H v (.list ds)) : ∃ a xs, v = .ref a ∧ SqL K H a xs ∧ DpAll K H xs ds := by
  cases h with
  | lst h1 h2 => exact ⟨_, _, rfl, h1, h2⟩
theorem dp_tup {K : PySem.W.Frag} {H : Hp} {v : V} {ds : List PyData} (h : Dp K H v (.tuple ds)) : ∃ a xs, v = .ref a ∧ SqT K H a xs ∧ DpAll K H xs ds := by
  cases h with
  | tup h1 h2 => exact ⟨_, _, rfl, h1, h2⟩
theorem dp_int {K : PySem.W.Frag} {H : Hp} {v : V} {i : Int} (h : Dp K H v (.int i)) : v = .int i := by
  cases h; rfl
theorem dp_pair {K : PySem.W.Frag} {H : Hp} {v : V} {d e : PyData} (h : Dp K H v (.tuple [d, e])) : ∃ a x y, v = .ref a ∧ SqT K H a [x, y] ∧ Dp K H x d ∧ Dp K H y e := by
  cases h with
  | tup h1 h2 =>
    cases h2 with
    | cons h3 h4 =>
      cases h4 with
      | cons h5 h6 =>
        cases h6
        exact ⟨_, _, _, rfl, h1, h3, h5⟩
theorem mk_pair {K : PySem.W.Frag} {H : Hp} {a : Addr} {x y : V} {d e : PyData} (h : H a = some (.tup [x, y])) (hx : Dp K H x d) (hy : Dp K H y e) : Dp K H (.ref a) (.tuple [d, e]) :=
  .tup (.inl (.inl h)) (.cons hx (.cons hy .nil))
theorem mk_ints {K : PySem.W.Frag} {H : Hp} {a : Addr} {ns : List Int} (h : H a = some (.lst (ns.map V.int))) : Dp K H (.ref a) (.list (ns.map .int)) :=
  .lst (.inl (.inl h)) (dps_ints ns)
theorem dp_ints {K : PySem.W.Frag} {H : Hp} {v : V} {ns : List Int} (h : Dp K H v (.list (ns.map .int))) : ∃ a, v = .ref a ∧ SqL K H a (ns.map V.int) := by
  obtain ⟨a, xs, rfl, h1, h2⟩ := dp_list h
  rw [dps_ints_eq h2] at h1
  exact ⟨a, rfl, h1⟩
/-! ### the bag -/
def bagL (c : Addr) (i s t : Int) : List V := [.ref c, .int i, .int s, .int t]
structure Bag (H : Hp) (a c : Addr) : Prop where
  ex : ∃ (ls : List Int) (i s t : Int), H a = some (.lst (bagL c i s t)) ∧ H c = some (.lst (ls.map V.int)) ∧ 0 ≤ i ∧ ls.length ≤ 1000 ∧ 0 ≤ s ∧ s < 2 ^ 63
  ne : a ≠ c
theorem Bag.keep {H H' : Hp} {a c : Addr} (b : Bag H a c) (k : Same H H') : Bag H' a c := by
  obtain ⟨⟨ls, i, s, t, h1, h2, h3⟩, h4⟩ := b
  exact ⟨⟨ls, i, s, t, k _ _ h1, k _ _ h2, h3⟩, h4⟩
theorem Bag.ha {H : Hp} {a c : Addr} (b : Bag H a c) : ∃ o, H a = some o := by
  obtain ⟨⟨ls, i, s, t, h1, h2, h3⟩, h4⟩ := b
  exact ⟨_, h1⟩
theorem Bag.hc {H : Hp} {a c : Addr} (b : Bag H a c) : ∃ o, H c = some o := by
  obtain ⟨⟨ls, i, s, t, h1, h2, h3⟩, h4⟩ := b
  exact ⟨_, h2⟩
/-- a new object is laid: the bag stays -/
theorem Bag.new {H : Hp} {a c p : Addr} {o : HO} (b : Bag H a c) (n : H p = none) : Bag (upd H p o) a c := b.keep (same_new n)
theorem Bag.out {H : Hp} {a c p : Addr} (b : Bag H a c) (n : H p = none) : p ∉ [a, c] := by
  obtain ⟨o, h1⟩ := b.ha
  obtain ⟨o2, h2⟩ := b.hc
  intro z
  rcases List.mem_cons.mp z with rfl | z
  · rw [h1] at n; cases n
  · rcases List.mem_cons.mp z with rfl | z
    · rw [h2] at n; cases n
    · cases z
/-- an object beside the bag is written -/
theorem Bag.wr {H : Hp} {a c p : Addr} {o : HO} (b : Bag H a c) (n : p ∉ [a, c]) : Bag (upd H p o) a c := by
  obtain ⟨⟨ls, i, s, t, h1, h2, h3⟩, h4⟩ := b
  refine ⟨⟨ls, i, s, t, ?_, ?_, h3⟩, h4⟩
  · rw [upd_ne (fun e => n (by simp [e]))]; exact h1
  · rw [upd_ne (fun e => n (by simp [e]))]; exact h2
/-- the promise of a draw -/
def spDraw : Sp := fun vs H Q _ => ∃ (a c : Addr) (m : Int), vs = [.ref a, .int m] ∧ Bag H a c ∧ 0 < m ∧ m < 2 ^ 1000 ∧
  ∀ r H', 0 ≤ r → r < m → Bag H' a c → Kp [a, c] H H' → Q (.int r) H'
end Bd
namespace Bd
open PySem PySem.Spec PyProof.Rows L2 HT
theorem cut_ints (ns : List Int) (lo hi : Option Int) : ∃ ms : List Int, cutV (ns.map V.int) lo hi = ms.map V.int ∧ ms.length ≤ ns.length := by
  refine ⟨(ns.drop (HT.sIx (ns.map V.int).length 0 lo)).take (HT.sIx (ns.map V.int).length (ns.map V.int).length hi - HT.sIx (ns.map V.int).length 0 lo), ?_, ?_⟩
  · unfold cutV
    rw [List.map_take, List.map_drop]
  · rw [List.length_take, List.length_drop]
    omega
theorem ints_at {ns : List Int} {i : Nat} {x : V} (h : (ns.map V.int)[i]? = some x) : ∃ n, x = V.int n ∧ ns[i]? = some n := by
  rw [List.getElem?_map] at h
  cases e : ns[i]? with
  | none => rw [e] at h; cases h
  | some n =>
    rw [e] at h
    exact ⟨n, (Option.some.inj h).symm, rfl⟩
theorem lt_of_at {α : Type} {xs : List α} {i : Nat} {x : α} (h : xs[i]? = some x) : i < xs.length := (List.getElem?_eq_some_iff.mp h).1
def spBag (K : PySem.W.Frag) : Sp := fun vs H Q _ => ∃ (a : Addr) (ns : List Int), vs = [.ref a] ∧ SqL K H a (ns.map V.int) ∧ ns.length ≤ 63 ∧
  ∀ b c H', Same H H' → H b = none → H c = none → Bag H' b c → Q (.ref b) H'
end Bd
namespace Bd
open PySem PySem.Spec PyProof.Rows L2 HT
def pairD (p : Nat × Nat) : PyData := .tuple [.int p.1, .int p.2]
def doorsD (ds : List (Nat × Nat)) : PyData := .list (ds.map pairD)
def houseD (rooms : Nat) (ds : List (Nat × Nat)) : PyData := .tuple [.int rooms, doorsD ds]
/-- doors of so many rooms -/
def Doors (rooms : Nat) (ds : List (Nat × Nat)) : Prop := ∀ d ∈ ds, d.1 < rooms ∧ d.2 < rooms ∧ d.1 ≠ d.2
theorem Kp.free {S : List Addr} {H H1 : Hp} (k : Kp S H H1) {p : Addr} (n : H1 p = none) : hid S H p = none := by
  cases e : hid S H p with
  | none => rfl
  | some o =>
    have := (of_hid (k p o e)).1
    rw [n] at this; cases this
/-- data of a shape that == takes, of depth n at most -/
def Shp (n : Nat) (d : PyData) : Prop := d.canLay0 = true ∧ d.depth ≤ n
theorem Shp.ok {n : Nat} {d : PyData} (h : Shp n d) (hn : n ≤ 64) : SeqAt.shaped d = true := by
  unfold SeqAt.shaped
  rw [h.1, Bool.true_and]
  exact decide_eq_true (Nat.le_trans h.2 hn)
theorem shp_int {n : Nat} (i : Int) : Shp n (.int i) := ⟨rfl, Nat.zero_le _⟩
theorem shp_all {n : Nat} : ∀ {xs : List PyData}, (∀ x ∈ xs, Shp n x) → PyData.canLayAll0 xs = true ∧ PyData.depthAll xs ≤ n
  | [], _ => ⟨rfl, Nat.zero_le _⟩
  | x :: xs, h => by
    obtain ⟨h1, h2⟩ := h x (List.mem_cons_self)
    obtain ⟨h3, h4⟩ := shp_all (xs := xs) fun y hy => h y (List.mem_cons_of_mem _ hy)
    exact ⟨by rw [PyData.canLayAll0, h1, h3]; rfl, by rw [PyData.depthAll]; exact Nat.max_le.mpr ⟨h2, h4⟩⟩
theorem shp_list {n : Nat} {xs : List PyData} (h : ∀ x ∈ xs, Shp n x) : Shp (n + 1) (.list xs) := by
  obtain ⟨h1, h2⟩ := shp_all h
  exact ⟨by rw [PyData.canLay0]; exact h1, by rw [PyData.depth]; omega⟩
theorem shp_tup {n : Nat} {xs : List PyData} (h : ∀ x ∈ xs, Shp n x) : Shp (n + 1) (.tuple xs) := by
  obtain ⟨h1, h2⟩ := shp_all h
  exact ⟨by rw [PyData.canLay0]; exact h1, by rw [PyData.depth]; omega⟩
theorem shp_ints {n : Nat} (ns : List Int) : Shp (n + 1) (.list (ns.map .int)) := shp_list fun x hx => by
  obtain ⟨i, _, rfl⟩ := List.mem_map.mp hx
  exact shp_int i
theorem shp_pair {n : Nat} (p : Nat × Nat) : Shp (n + 1) (pairD p) := shp_tup fun x hx => by
  rcases List.mem_cons.mp hx with rfl | hx
  · exact shp_int _
  · rcases List.mem_cons.mp hx with rfl | hx
    · exact shp_int _
    · cases hx
theorem shp_doors {n : Nat} (ds : List (Nat × Nat)) : Shp (n + 2) (doorsD ds) := shp_list fun x hx => by
  obtain ⟨p, _, rfl⟩ := List.mem_map.mp hx
  exact shp_pair p
theorem shp_house {n : Nat} (rooms : Nat) (ds : List (Nat × Nat)) : Shp (n + 3) (houseD rooms ds) := shp_tup fun x hx => by
  rcases List.mem_cons.mp hx with rfl | hx
  · exact shp_int _
  · rcases List.mem_cons.mp hx with rfl | hx
    · exact shp_doors ds
    · cases hx
theorem atI_two {x y : V} {r : Int} (h0 : 0 ≤ r) (h1 : r < 2) : ∃ v, atI [x, y] r = some v ∧ (v = x ∨ v = y) := by
  have : r = 0 ∨ r = 1 := by omega
  rcases this with rfl | rfl
  · exact ⟨x, rfl, .inl rfl⟩
  · exact ⟨y, rfl, .inr rfl⟩
def spGround (K : PySem.W.Frag) : Sp := fun vs H Q _ => ∃ (a c : Addr) (most wide : Nat), vs = [.ref a, .int most, .int wide] ∧ Bag H a c ∧ 0 < most ∧ most ≤ 10 ∧ wide ≤ 24 ∧
  ∀ hv H' rooms ds, 0 < rooms → rooms ≤ max 4 most → ds.length ≤ max 5 wide → Doors rooms ds → Bag H' a c → Kp [a, c] H H' → Dp K (hid [a, c] H') hv (houseD rooms ds) → Q hv H'
end Bd
namespace Bd
open PySem PySem.Spec PyProof.Rows L2 HT
/-! ### what rooms meet, what leaves lots -/
abbrev Dc := (Nat × Nat) × Int
def metAt (z : List Dc) (r : Nat) : Int := (z.map fun x => (if x.1.1 = r then x.2 else 0) + (if x.1.2 = r then x.2 else 0)).sum
def metL (rooms : Nat) (z : List Dc) : List Int := (List.range rooms).map (metAt z)
def lvAt (lot : List Nat) (x : Dc) : Bool := decide (x.1.1 ∈ lot) != decide (x.1.2 ∈ lot)
def leaveM (z : List Dc) (lot : List Nat) : Int := ((z.filter (lvAt lot)).map (·.2)).sum
def natsL (lot : List Nat) : List Int := lot.map fun (r : Nat) => (r : Int)
theorem natsL_len (lot : List Nat) : (natsL lot).length = lot.length := by unfold natsL; rw [List.length_map]
theorem natsL_at {lot : List Nat} {i r : Nat} (h : lot[i]? = some r) : (natsL lot)[i]? = some (r : Int) := by
  unfold natsL; rw [List.getElem?_map, h]; rfl
theorem metAt_snoc (z : List Dc) (x : Dc) (r : Nat) : metAt (z ++ [x]) r = metAt z r + ((if x.1.1 = r then x.2 else 0) + (if x.1.2 = r then x.2 else 0)) := by
  unfold metAt
  rw [List.map_append, List.sum_append]
  simp
theorem metL_len (rooms : Nat) (z : List Dc) : (metL rooms z).length = rooms := by unfold metL; rw [List.length_map, List.length_range]
theorem metL_at {rooms r : Nat} (z : List Dc) (h : r < rooms) : (metL rooms z)[r]? = some (metAt z r) := by
  unfold metL
  rw [List.getElem?_map, List.getElem?_range h]
  rfl
theorem metL_snoc {rooms : Nat} (z : List Dc) (x : Dc) (h1 : x.1.1 < rooms) (h2 : x.1.2 < rooms) (hn : x.1.1 ≠ x.1.2) :
    ((metL rooms z).set x.1.1 (metAt z x.1.1 + x.2)).set x.1.2 (metAt z x.1.2 + x.2) = metL rooms (z ++ [x]) := by
  apply List.ext_getElem?
  intro i
  by_cases hi : i < rooms
  · rw [metL_at _ hi, metAt_snoc]
    by_cases e2 : x.1.2 = i
    · subst e2
      rw [List.getElem?_set_self (by rw [List.length_set, metL_len]; exact hi), if_neg hn, if_pos rfl, Int.zero_add]
    · rw [List.getElem?_set_ne e2, if_neg e2, Int.add_zero]
      by_cases e1 : x.1.1 = i
      · subst e1
        rw [List.getElem?_set_self (by rw [metL_len]; exact hi), if_pos rfl]
      · rw [List.getElem?_set_ne e1, if_neg e1, Int.add_zero, metL_at _ hi]
  · rw [List.getElem?_eq_none (by simp only [List.length_set, metL_len]; omega), List.getElem?_eq_none (by rw [metL_len]; omega)]
theorem metL_nil (rooms : Nat) : metL rooms [] = List.replicate rooms 0 := by
  apply List.ext_getElem?
  intro i
  by_cases hi : i < rooms
  · rw [metL_at _ hi, List.getElem?_replicate, if_pos hi]
    rfl
  · rw [List.getElem?_eq_none (by rw [metL_len]; omega), List.getElem?_eq_none (by simp; omega)]
theorem zip_at {ds : List (Nat × Nat)} {cs : List Int} {i : Nat} {d : Nat × Nat} {c : Int} (h1 : ds[i]? = some d) (h2 : cs[i]? = some c) : (ds.zip cs)[i]? = some (d, c) := by
  rw [List.getElem?_zip_eq_some]
  exact ⟨h1, h2⟩
theorem take_snoc {α : Type} {xs : List α} {i : Nat} {x : α} (h : xs[i]? = some x) : xs.take (i + 1) = xs.take i ++ [x] := by
  rw [List.take_add_one, h]
  rfl
theorem inV_nats (r : Nat) (lot : List Nat) : inV (.int r) ((natsL lot).map V.int) = decide (r ∈ lot) := by
  unfold inV natsL
  rw [List.map_map, List.any_map]
  induction lot with
  | nil => rfl
  | cons x xs ih =>
    rw [List.any_cons, ih]
    show ((x : Int) == (r : Int) || decide (r ∈ xs)) = decide (r ∈ x :: xs)
    by_cases h : r = x
    · subst h
      simp
    · have h2 : ((x : Int) == (r : Int)) = false := by
        rw [beq_eq_false_iff_ne]
        omega
      rw [h2, Bool.false_or]
      simp [h]
theorem flat_ints (ns : List Int) : (ns.map V.int).all flatV = true := by
  rw [List.all_map, List.all_eq_true]
  intro x _
  rfl
theorem leave_take {z : List Dc} {lot : List Nat} {i : Nat} {x : Dc} (h : z[i]? = some x) :
    ((z.take (i + 1)).filter (lvAt lot)).map (·.2) = if lvAt lot x = true then ((z.take i).filter (lvAt lot)).map (·.2) ++ [x.2] else ((z.take i).filter (lvAt lot)).map (·.2) := by
  rw [take_snoc h, List.filter_append, List.map_append]
  by_cases e : lvAt lot x = true
  · rw [if_pos e, List.filter_cons_of_pos e]
    rfl
  · rw [if_neg e, List.filter_cons_of_neg e]
    simp
def spMet (K : PySem.W.Frag) : Sp := fun vs H Q _ => ∃ (hv cv : V) (rooms : Nat) (ds : List (Nat × Nat)) (cs : List Int), vs = [hv, cv] ∧ Dp K H hv (houseD rooms ds) ∧ Dp K H cv (.list (cs.map .int)) ∧ rooms ≤ 100 ∧ cs.length = ds.length ∧ ds.length ≤ 500 ∧ Doors rooms ds ∧
  ∀ H' p, Same H H' → H p = none → H' p = some (.lst ((metL rooms (ds.zip cs)).map V.int)) → Q (.ref p) H'
def spLeave (K : PySem.W.Frag) : Sp := fun vs H Q _ => ∃ (hv cv lv : V) (rooms : Nat) (ds : List (Nat × Nat)) (cs : List Int) (lot : List Nat), vs = [hv, cv, lv] ∧ Dp K H hv (houseD rooms ds) ∧ Dp K H cv (.list (cs.map .int)) ∧ Dp K H lv (.list ((natsL lot).map .int)) ∧
  cs.length = ds.length ∧ ds.length ≤ 500 ∧ ∀ H', Same H H' → Q (.int (leaveM (ds.zip cs) lot)) H'
/-- a house, read -/
theorem house_of {K : PySem.W.Frag} {H : Hp} {hv : V} {rooms : Nat} {ds : List (Nat × Nat)} (h : Dp K H hv (houseD rooms ds)) :
    ∃ s d vs, hv = .ref s ∧ SqT K H s [.int rooms, .ref d] ∧ SqL K H d vs ∧ DpAll K H vs (ds.map pairD) := by
  obtain ⟨s, x, y, rfl, h1, h2, h3⟩ := dp_pair h
  obtain rfl := dp_int h2
  obtain ⟨d, vs, rfl, h4, h5⟩ := dp_list h3
  exact ⟨s, d, vs, rfl, h1, h4, h5⟩
theorem pair_of {K : PySem.W.Frag} {H : Hp} {v : V} {d : Nat × Nat} (h : Dp K H v (pairD d)) : ∃ p, v = .ref p ∧ SqT K H p [.int d.1, .int d.2] := by
  obtain ⟨s, x, y, rfl, h1, h2, h3⟩ := dp_pair h
  obtain rfl := dp_int h2
  obtain rfl := dp_int h3
  exact ⟨s, rfl, h1⟩
theorem pairs_at {K : PySem.W.Frag} {H : Hp} {vs : List V} {ds : List (Nat × Nat)} {i : Nat} {v : V} (h : DpAll K H vs (ds.map pairD)) (e : vs[i]? = some v) : ∃ d p, ds[i]? = some d ∧ v = .ref p ∧ SqT K H p [.int d.1, .int d.2] := by
  have hl := dps_len h
  rw [List.length_map] at hl
  have hi : i < ds.length := by have := lt_of_at e; omega
  obtain ⟨u, e1, h1⟩ := dps_at h (i := i) (d := pairD ds[i]) (by rw [List.getElem?_map, List.getElem?_eq_getElem hi]; rfl)
  rw [e] at e1
  cases e1
  obtain ⟨p, rfl, h2⟩ := pair_of h1
  exact ⟨ds[i], p, List.getElem?_eq_getElem hi, rfl, h2⟩
end Bd
namespace Bd
open PySem PySem.Spec PyProof.Rows L2 HT
theorem ixN_nat {n j : Nat} (h : j < n) : ixN n (j : Int) = some j := by
  unfold ixN
  rw [if_pos (by omega), if_pos (by omega)]
  simp
theorem flat_rep (n : Nat) : (List.replicate n [V.int 0]).flatten = (List.replicate n (0 : Int)).map V.int := by
  induction n with
  | zero => rfl
  | succ n ih => rw [List.replicate_succ, List.flatten_cons, ih, List.replicate_succ]; rfl
end Bd
namespace Bd
open PySem PySem.Spec PyProof.Rows L2 HT
/-! ### two things that are the same data -/
/-- ints, and lists and tuples of such, at most n deep, of at most 1000 things each -/
inductive Gd : Nat → PyData → Prop
  | int (n : Nat) (i : Int) : Gd n (.int i)
  | lst {n : Nat} {ds : List PyData} (h : ∀ d ∈ ds, Gd n d) (l : ds.length ≤ 1000) : Gd (n + 1) (.list ds)
  | tup {n : Nat} {ds : List PyData} (h : ∀ d ∈ ds, Gd n d) (l : ds.length ≤ 1000) : Gd (n + 1) (.tuple ds)
theorem tyx_list {K : PySem.W.Frag} {H : Hp} {a : Addr} {xs : List V} (h : SqL K H a xs) : TyX K H (.ref a) (.type "list") := by
  rcases h with (h | ⟨o, h⟩) | ⟨o, its, n, h, c, _⟩
  · exact .base (.lst h)
  · exact .base (.frz h)
  · exact .kList h c
theorem tyx_tup {K : PySem.W.Frag} {H : Hp} {a : Addr} {xs : List V} (h : SqT K H a xs) : TyX K H (.ref a) (.type "tuple") := by
  rcases h with (h | ⟨o, h⟩) | ⟨o, its, n, h, c, _⟩
  · exact .base (.tup h)
  · exact .fTuple h
  · exact .kTuple h c
theorem tyx_same {K : PySem.W.Frag} {H H' : Hp} {v : V} {n : String} (k : Same H H') (h : (∃ a xs, v = .ref a ∧ n = "list" ∧ SqL K H a xs) ∨ (∃ a xs, v = .ref a ∧ n = "tuple" ∧ SqT K H a xs) ∨ (∃ i, v = .int i ∧ n = "int")) : TyX K H' v (.type n) := by
  rcases h with ⟨a, xs, rfl, rfl, h⟩ | ⟨a, xs, rfl, rfl, h⟩ | ⟨i, rfl, rfl⟩
  · exact tyx_list (k.seq h)
  · exact tyx_tup (same_tup k h)
  · exact .base (.int i)
theorem kit_two {K : PySem.W.Frag} {a b c : String} {v u : Bool} (h1 : kitB a b = some v) (h2 : kitB a c = some u) : PySem.W.kitAny K (.type a) [.type b, .type c] = some (v || u) := by
  refine kitAny_cons (kit_ty h1) (fun e => ?_) (fun e => by rw [e]; rfl)
  rw [e, Bool.false_or]
  refine kitAny_cons (kit_ty h2) (fun e => by rw [e]; exact kitAny_nil) (fun e => e)
def spAlike (K : PySem.W.Frag) : Nat → Sp
  | 0 => fun _ _ _ _ => False
  | n + 1 => fun vs H Q _ => ∃ (v u : V) (d : PyData), vs = [v, u] ∧ Dp K H v d ∧ Dp K H u d ∧ Gd n d ∧ ∀ H', Same H H' → Q (.bl true) H'
end Bd
namespace Bd
open PySem PySem.Spec PyProof.Rows L2 HT
theorem atI_three {x y z : V} {r : Int} (h0 : 0 ≤ r) (h1 : r < 3) : ∃ v, atI [x, y, z] r = some v ∧ (v = x ∨ v = y ∨ v = z) := by
  have : r = 0 ∨ r = 1 ∨ r = 2 := by omega
  rcases this with rfl | rfl | rfl
  · exact ⟨x, rfl, .inl rfl⟩
  · exact ⟨y, rfl, .inr (.inl rfl)⟩
  · exact ⟨z, rfl, .inr (.inr rfl)⟩
def spTallies (K : PySem.W.Frag) : Sp := fun vs H Q _ => ∃ (a c : Addr) (dv : V) (ds : List (Nat × Nat)), vs = [.ref a, dv] ∧ Bag H a c ∧ Dp K (hid [a, c] H) dv (doorsD ds) ∧ ds.length ≤ 100 ∧
  ∀ t H' (cs : List Int), cs.length = ds.length → (∀ x ∈ cs, 0 ≤ x ∧ x < 10 ^ 20) → Bag H' a c → Kp [a, c] H H' → Dp K (hid [a, c] H') (.ref t) (.list (cs.map .int)) → Q (.ref t) H'
def spLot (K : PySem.W.Frag) : Sp := fun vs H Q _ => ∃ (a c : Addr) (rooms : Nat), vs = [.ref a, .int rooms] ∧ Bag H a c ∧ rooms ≤ 100 ∧
  ∀ t H' (lot : List Nat), lot.length ≤ rooms → Bag H' a c → Kp [a, c] H H' → Dp K (hid [a, c] H') (.ref t) (.list ((natsL lot).map .int)) → Q (.ref t) H'
end Bd
namespace Bd
open PySem PySem.Spec PyProof.Rows L2 HT
theorem rgV_nats (n : Nat) : rgV 0 (n : Int) = (natsL (List.range n)).map V.int := by
  unfold rgV natsL
  rw [List.map_map, Int.sub_zero, Int.toNat_natCast]
  refine List.map_congr_left fun i _ => ?_
  show V.int (0 + (i : Int)) = V.int (i : Int)
  rw [Int.zero_add]
end Bd
namespace Bd
open PySem PySem.Spec PyProof.Rows L2 HT
theorem filt_take {z : List Dc} {p : Dc → Bool} {i : Nat} {x : Dc} (h : z[i]? = some x) :
    ((z.take (i + 1)).filter p).map (fun x => V.int x.2) = if p x = true then ((z.take i).filter p).map (fun x => V.int x.2) ++ [V.int x.2] else ((z.take i).filter p).map (fun x => V.int x.2) := by
  rw [take_snoc h, List.filter_append, List.map_append]
  by_cases e : p x = true
  · rw [if_pos e, List.filter_cons_of_pos e]
    rfl
  · rw [if_neg e, List.filter_cons_of_neg e]
    simp
/-- a door at a room -/
def atRoom (r : Nat) (x : Dc) : Bool := decide (r = x.1.1) || decide (r = x.1.2)
theorem atRoom_sum (r : Nat) : ∀ z : List Dc, (∀ x ∈ z, x.1.1 ≠ x.1.2) → ((z.filter (atRoom r)).map Prod.snd).sum = metAt z r
  | [], _ => rfl
  | x :: z, h => by
    have h1 := h x List.mem_cons_self
    have ih := atRoom_sum r z fun y hy => h y (List.mem_cons_of_mem _ hy)
    have e : metAt (x :: z) r = ((if x.1.1 = r then x.2 else 0) + (if x.1.2 = r then x.2 else 0)) + metAt z r := by
      unfold metAt
      rw [List.map_cons, List.sum_cons]
    rw [e, ← ih]
    by_cases c1 : x.1.1 = r
    · have c2 : x.1.2 ≠ r := fun q => h1 (c1.trans q.symm)
      rw [List.filter_cons_of_pos (by unfold atRoom; simp [c1]), List.map_cons, List.sum_cons, if_pos c1, if_neg c2, Int.add_zero]
    · by_cases c2 : x.1.2 = r
      · rw [List.filter_cons_of_pos (by unfold atRoom; simp [c2]), List.map_cons, List.sum_cons, if_neg c1, if_pos c2, Int.zero_add]
      · rw [List.filter_cons_of_neg (by unfold atRoom; simp; exact ⟨fun q => c1 q.symm, fun q => c2 q.symm⟩), if_neg c1, if_neg c2, Int.add_zero, Int.zero_add]
theorem inV_pair (r a b : Nat) : inV (.int r) [.int a, .int b] = (decide (r = a) || decide (r = b)) := by
  show ((a : Int) == (r : Int) || ((b : Int) == (r : Int) || false)) = _
  rw [Bool.or_false]
  congr 1
  · by_cases h : r = a
    · subst h; simp
    · rw [beq_eq_false_iff_ne.mpr (by omega), decide_eq_false h]
  · by_cases h : r = b
    · subst h; simp
    · rw [beq_eq_false_iff_ne.mpr (by omega), decide_eq_false h]
theorem zip_doors {rooms : Nat} {ds : List (Nat × Nat)} {cs : List Int} (h : Doors rooms ds) : ∀ x ∈ ds.zip cs, x.1.1 ≠ x.1.2 := fun x hx => (h x.1 (List.of_mem_zip (a := x.1) (b := x.2) hx).1).2.2
theorem gd_ints {n : Nat} {ns : List Int} (l : ns.length ≤ 1000) : Gd (n + 1) (.list (ns.map .int)) := .lst (fun d hd => by
  obtain ⟨i, _, rfl⟩ := List.mem_map.mp hd
  exact .int _ _) (by rw [List.length_map]; exact l)
def spRight (K : PySem.W.Frag) : Sp := fun vs H Q _ => ∃ (hv cv : V) (rooms : Nat) (ds : List (Nat × Nat)) (cs : List Int), vs = [hv, cv] ∧ Dp K H hv (houseD rooms ds) ∧ Dp K H cv (.list (cs.map .int)) ∧ rooms ≤ 100 ∧ cs.length = ds.length ∧ ds.length ≤ 500 ∧ Doors rooms ds ∧
  ∀ H', Same H H' → Q (.bl true) H'
def spLotRight (K : PySem.W.Frag) : Sp := fun vs H Q _ => ∃ (hv cv lv : V) (rooms : Nat) (ds : List (Nat × Nat)) (cs : List Int) (lot : List Nat), vs = [hv, cv, lv] ∧ Dp K H hv (houseD rooms ds) ∧ Dp K H cv (.list (cs.map .int)) ∧ Dp K H lv (.list ((natsL lot).map .int)) ∧
  rooms ≤ 100 ∧ lot.length ≤ 100 ∧ cs.length = ds.length ∧ ds.length ≤ 500 ∧ Doors rooms ds ∧ ∀ H', Same H H' → Q (.bl true) H'
end Bd
namespace Bd
open PySem PySem.Spec PyProof.Rows L2 HT
theorem leaveM_snoc (z : List Dc) (x : Dc) (lot : List Nat) : leaveM (z ++ [x]) lot = leaveM z lot + (if lvAt lot x = true then x.2 else 0) := by
  unfold leaveM
  rw [List.filter_append, List.map_append, List.sum_append]
  by_cases e : lvAt lot x = true
  · rw [if_pos e, List.filter_cons_of_pos e]
    simp
  · rw [if_neg e, List.filter_cons_of_neg e]
    simp
/-- rooms that are not in a lot -/
def besideL (rooms : Nat) (lot : List Nat) : List Nat := (List.range rooms).filter fun r => !decide (r ∈ lot)
theorem mem_beside {rooms r : Nat} {lot : List Nat} (h : r < rooms) : decide (r ∈ besideL rooms lot) = !decide (r ∈ lot) := by
  unfold besideL
  by_cases e : r ∈ lot
  · rw [decide_eq_true e, decide_eq_false]
    · rfl
    · intro q
      have := (List.mem_filter.mp q).2
      rw [decide_eq_true e] at this
      cases this
  · rw [decide_eq_false e, decide_eq_true]
    · rfl
    · exact List.mem_filter.mpr ⟨List.mem_range.mpr h, by rw [decide_eq_false e]; rfl⟩
theorem leave_beside {rooms : Nat} {lot : List Nat} : ∀ {z : List Dc}, (∀ x ∈ z, x.1.1 < rooms ∧ x.1.2 < rooms) → leaveM z (besideL rooms lot) = leaveM z lot := by
  intro z h
  unfold leaveM
  have e : z.filter (lvAt (besideL rooms lot)) = z.filter (lvAt lot) := by
    refine List.filter_congr fun x hx => ?_
    obtain ⟨h1, h2⟩ := h x hx
    unfold lvAt
    rw [mem_beside h1, mem_beside h2]
    cases decide (x.1.1 ∈ lot) <;> cases decide (x.1.2 ∈ lot) <;> rfl
  rw [e]
theorem zip_rooms {rooms : Nat} {ds : List (Nat × Nat)} {cs : List Int} (h : Doors rooms ds) : ∀ x ∈ ds.zip cs, x.1.1 < rooms ∧ x.1.2 < rooms := fun x hx =>
  ⟨(h x.1 (List.of_mem_zip (a := x.1) (b := x.2) hx).1).1, (h x.1 (List.of_mem_zip (a := x.1) (b := x.2) hx).1).2.1⟩
theorem nats_at {lot : List Nat} {i : Nat} {x : V} (h : ((natsL lot).map V.int)[i]? = some x) : ∃ r : Nat, x = V.int r ∧ lot[i]? = some r := by
  obtain ⟨n, rfl, e⟩ := ints_at h
  unfold natsL at e
  rw [List.getElem?_map] at e
  cases q : lot[i]? with
  | none => rw [q] at e; cases e
  | some r =>
    rw [q] at e
    exact ⟨r, by rw [← Option.some.inj e], rfl⟩
/-- what a comprehension with a test has made, a turn more -/
theorem nats_take {lot : List Nat} {p : Nat → Bool} {i r : Nat} (h : lot[i]? = some r) :
    (natsL ((lot.take (i + 1)).filter p)).map V.int = if p r = true then (natsL ((lot.take i).filter p)).map V.int ++ [V.int r] else (natsL ((lot.take i).filter p)).map V.int := by
  unfold natsL
  rw [take_snoc h, List.filter_append, List.map_append, List.map_append]
  by_cases e : p r = true
  · rw [if_pos e, List.filter_cons_of_pos e]
    rfl
  · rw [if_neg e, List.filter_cons_of_neg e]
    simp
theorem one_in (a b : Nat) (lot : List Nat) (c : Int) : (([a, b].filter fun r => decide (r ∈ lot)).length : Int) = 1 ↔ lvAt lot ((a, b), c) = true := by
  unfold lvAt
  by_cases h1 : a ∈ lot <;> by_cases h2 : b ∈ lot <;> simp [h1, h2]
end Bd
namespace Bd
open PySem PySem.Spec PyProof.Rows L2 HT
theorem shp_two {n : Nat} {d e : PyData} (h1 : Shp n d) (h2 : Shp n e) : Shp (n + 1) (.list [d, e]) := shp_list fun x hx => by
  rcases List.mem_cons.mp hx with rfl | hx
  · exact h1
  · rcases List.mem_cons.mp hx with rfl | hx
    · exact h2
    · cases hx
theorem Shp.refl {n : Nat} {d : PyData} (h : Shp n d) : PyData.eqv d d = true := SeqAt.eqv_refl d h.1
end Bd
namespace Bd
open PySem PySem.Spec PyProof.Rows L2 HT
/-! ### a def that is run where no text of an object is being made -/
structure FnG (P : Program) (w : World) (K : PySem.W.Frag) (mg : Str → Option Value) (base : Heap) (k : Nat) (f : Addr) (fd : FuncData) (ps : List Str) (sp : Sp) : Prop where
  len : ∀ vs H Q E, sp vs H Q E → vs.length = ps.length
  run : ∀ (A : Around) (outer : List Env) (s : Shared) (H : Hp) (args : Args) (us : List Value) (vs : List V) (Q : VK) (E : XK), A.guards = some [] → Room k A → Env0 P w K mg base A outer s H → BindsTo s fd args (ps.zip us) → Vals vs us → sp vs H Q E →
    codeAny (model P w) A (.call (.ref f) args) (CR CX0 outer P w H s Q E) s
section
variable {P : Program} {w : World} {K : PySem.W.Frag} {mg : Str → Option Value} {base : Heap}
theorem fnG_of {x qual : Str} {st : Stmt} {f : Addr} {fd : FuncData} {N ps : List Str} {k : Nat} {sp : Sp} (F : Fun K x qual st f fd) (S : FnScope N ps (defScope st)) (len : ∀ vs H Q E, sp vs H Q E → vs.length = ps.length)
    (body : ∀ (cdv : Value) (A : Around) (outer : List Env) (s : Shared) (H : Hp) (vs : List V) (Q : VK) (E : XK), Room k (A.deeper (envOfC qual (defScope st) s.heap.objs.size f cdv)) → (A.deeper (envOfC qual (defScope st) s.heap.objs.size f cdv)).guards = some [] → sp vs H Q E →
      ∃ t, PSs (cxOf CX0 P w K mg base N qual (defScope st) f cdv A outer s H E).nox (defBody st) t ∧ t { nx := fun _ H' => Q .non H', rt := Q } (start N vs) H) : FnG P w K mg base (k + 1) f fd ps sp where
  len := len
  run := by
    obtain ⟨oc, od, kV, doc, pm, an, cdv, ct, osl, rfl, lk, hcd⟩ := F.ex
    intro A outer s H args us vs Q E hg room env bnd vls hs
    have here : K.In s.heap := env.mod.kin.keeps fun b o h => (env.bs b o h).1
    have cells : ∀ y ∈ ps.zip us, (defScope st).names.lookup y.1 = some .local ∨ ((defScope st).names.lookup y.1 = some .cell ∧ ((cellsFrom (s.heap.objs.size + 1) (defScope st).names []).lookup y.1).isSome = true) := by
      rintro ⟨n, v⟩ hy
      cases S.par n (List.of_mem_zip hy).1 with
      | inl q => exact .inl q
      | inr q => exact .inr ⟨q, PySem.W.cellsFrom_some _ _ _ (.inl q)⟩
    refine codeAny_call_function room.depth (here _ _ lk) rfl S.co S.gen rfl (PySem.W.codeRec_of here hcd) (bnd _ _ _ _ (wpAny_newFunctionEnv_cells S.kind cells ?_))
    rintro e rfl s1 inc
    refine ⟨Heap.NoLimit.keeps (env.mod.nolimit.keeps fun b o h => (env.bs b o h).1) inc.toInCall.keep, codeAny_func ?_⟩
    obtain ⟨t, hp, ht⟩ := body cdv A outer s H vs Q E (room.deeper _) hg hs
    have I := inv_start (CX := CX0) (P := P) (w := w) (K := K) (mg := mg) (base := base) (qual := qual) (f := f) (cd := cdv) (E := E) S room.hd env (len _ _ _ _ hs) vls inc
    refine wpAny_mono (hp.nox.run [] s1 (start N vs) H _ I ht) (fun r s2 h => ?_) fun _ _ h => h
    match r, h with
    | .ret u, ⟨v, _, H2, J, rv, q⟩ => exact ⟨v, H2, J.os, J.bare, J.base, J.hok, rv, q⟩
    | .next, ⟨_, H2, J, q⟩ => exact ⟨V.non, H2, J.os, J.bare, J.base, J.hok, rfl, q⟩
    | .brk, ⟨_, _, _, q⟩ => exact q.elim
    | .cont, ⟨_, _, _, q⟩ => exact q.elim
/-- what promises more widely promises here too -/
theorem FnG.of {k : Nat} {f : Addr} {fd : FuncData} {ps : List Str} {sp : Sp} (F : FnOk P w K mg base CX0 k f fd ps sp) : FnG P w K mg base k f fd ps sp :=
  ⟨F.len, fun A outer s H args us vs Q E _ => F.run A outer s H args us vs Q E⟩
end
end Bd
namespace Bd
open PySem PySem.Spec PyProof.Rows L2 HT
/-! ### the law's own call -/
section
variable {P : Program} {w : World} {K : PySem.W.Frag} {mg mb : Str → Option Value} {k : Nat} {fa a : Addr} {fd : FuncData} {x : Str} {sp : Sp} {s₁ : Shared} {vs : List Value} {ns : List Int}
/-- from a heap in which the script alone may be tracked -/
theorem runG (KX : K.In s₁.heap) (hns : s₁.heap.Ns mainGlobals mg) (hb : s₁.heap.Ns builtinsNs mb) (hbb : ∀ x : Str, x ≠ "__name__" → mb x = bootBuiltins x) (hlim : s₁.heap.NoLimit) (hg : s₁.gens = #[])
    (ha : s₁.heap.get? a = some { cls := .type "list", data := .seq vs.toArray }) (hr : Room k callerA)
    (F : ∀ base : Heap, K.In base → base.Ns mainGlobals mg → FnG P w K mg base k fa fd [x] sp) (hbind : ∀ (s : Shared) (u : Value), BindsTo s fd ⟨[u], []⟩ [(x, u)])
    (H : Hp) (only : ∀ b u, H b = some u → b = a ∧ ∃ xs, u = .frz { cls := .type "list", data := .seq vs.toArray } (.lst xs)) (hok : HOk P w H s₁.heap) (apart : H a = none ∨ K.lookup a = none)
    (hsp : sp [.ref a] H (fun v _ => v = .bl true) fun _ _ _ => False) :
    codeAny (model P w) callerA (.call (.ref fa) ⟨[.ref a], []⟩) (fun r s' => r = .ok (.ret (.bool true)) ∧ OldK s₁.heap s'.heap ∧ s'.os = s₁.os ∧ AllBare s'.gens) s₁ := by
  have vis : ∀ {b : Addr} {o : Obj}, s₁.heap.get? b = some o → (b ≠ a ∨ H a = none) → (hidT s₁.heap H).get? b = some o := by
    intro b o e h
    refine hidT_get e ?_
    cases q : H b with
    | none => rfl
    | some u =>
      obtain ⟨rfl, _⟩ := only b u q
      rcases h with h | h
      · exact absurd rfl h
      · rw [q] at h; cases h
  have dicts : ∀ {b : Addr} {o : Obj} {es : Array DictEntry} {ep : Nat}, s₁.heap.get? b = some o → o.data = .dict es ep → (hidT s₁.heap H).get? b = some o := by
    intro b o es ep e d
    refine vis e (.inl fun z => ?_)
    rw [z, ha] at e
    cases e
    cases d
  have names : ∀ {b : Addr} {m : Str → Option Value}, s₁.heap.Ns b m → (hidT s₁.heap H).Ns b m := by
    rintro b m ⟨o, es, ep, e, d, r⟩
    exact ⟨o, es, ep, dicts e d, d, r⟩
  have KI : K.In (hidT s₁.heap H) := by
    intro b o e
    refine vis (KX b o e) ?_
    rcases apart with z | z
    · exact .inr z
    · refine .inl fun q => ?_
      rw [q, z] at e
      cases e
  have env : Env0 P w K mg (hidT s₁.heap H) callerA [] s₁ H := by
    refine ⟨rfl, ⟨KI, names hns, ⟨mb, names hb, hbb⟩, ?_⟩, fun b o e => of_hidT e, by rw [hidT_size]; exact Nat.le_refl _, trivial, fun b z => (nomatch z), hok, .of_eq hg⟩
    obtain ⟨mc, q1, q2⟩ := hlim
    exact ⟨mc, names q1, q2⟩
  refine codeAny_mono ((F _ KI (names hns)).run callerA [] s₁ H ⟨[.ref a], []⟩ [.ref a] [.ref a] _ _ rfl hr env (hbind s₁ (.ref a)) (.cons rfl .nil) hsp) ?_
  rintro r s' h
  match r, h with
  | .error e, h => exact h.elim
  | .ok (.next), h => exact h.elim
  | .ok (.brk), h => exact h.elim
  | .ok (.cont), h => exact h.elim
  | .ok (.ret u), ⟨v, H2, os, bare, un, ok2, rv, q⟩ =>
    obtain rfl : v = .bl true := q
    obtain rfl : u = Value.bool true := rv
    refine ⟨rfl, OldK.of_keep ?_, os, bare⟩
    intro b o e
    cases q : H b with
    | none => exact un.keep b o e q (fun z => nomatch z) (fun z => nomatch z)
    | some u =>
      obtain ⟨rfl, xs, rfl⟩ := only b u q
      have e1 := (hok _ _ q).1
      have e2 := (ok2 _ _ (un.frzs _ _ _ q)).1
      exact e2.trans (e1.symm.trans e)
end
theorem walkG {l : PySem.W.OpenLaw} {k : Nat} {q : Program} {loose : List Str} {XP : (Str → Option Value) → Heap → Prop} {YP : World → Heap → Prop} {d : DefRec} {K : Params → PySem.W.Frag} {sp : PySem.W.Frag → Sp} {x : Str}
    (hn : l.most = some 63) (hdf : d.params.defaults = []) (hr : Room k callerA) (hY : ∀ (w : World) (h : Heap), YP w h → (K w.params).In h)
    (F : ∀ (w : World) (mg : Str → Option Value) (fa : Addr) (h : Heap), (K w.params).In h → h.Ns mainGlobals mg → mg d.name = some (.ref fa) →
      ∃ fd : FuncData, (∀ (s : Shared) (u : Value), BindsTo s fd ⟨[u], []⟩ [(x, u)]) ∧ ∀ base : Heap, (K w.params).In base → base.Ns mainGlobals mg → FnG l.prog w (K w.params) mg base k fa fd [x] (sp (K w.params)))
    (hsp : ∀ (K : PySem.W.Frag) (H : Hp) (a : Addr) (ns : List Int), ns.length ≤ 63 → SqL K H a (ns.map V.int) → sp K [.ref a] H (fun v _ => v = .bl true) fun _ _ _ => False) :
    PySem.W.WalkO q loose XP YP l.row.toRowW d [] (fun f vs => PySem.call f vs) := by
  refine Att.attach_call hn hdf ?_
  intro w s₀ s₁ mg mb fa o pm cd doc a vs ns G Y ho hd hcd hmg hobj hints hlen hg
  have KX := hY w _ Y
  obtain ⟨fd, hbind, hF⟩ := F w mg fa _ KX G.T.g hmg
  have hz : ns.length ≤ sizeLine := Nat.le_trans hlen (by decide)
  have rv := vals_ints hints
  have lv := hints.length
  by_cases e : (K w.params).lookup a = none
  · refine runG KX G.T.g G.T.b G.T.builtins G.T.nolimit hg hobj hr hF hbind (upd (fun _ => none) a (.frz { cls := .type "list", data := .seq vs.toArray } (.lst (ns.map V.int)))) ?_ ?_ (.inr e) (hsp _ _ _ ns hlen (.inl (.inr ⟨_, upd_same⟩)))
    · intro b u z
      by_cases h : b = a
      · subst h
        rw [upd_same] at z
        cases z
        exact ⟨rfl, _, rfl⟩
      · rw [upd_ne h] at z
        cases z
    · intro b u z
      by_cases h : b = a
      · subst h
        rw [upd_same] at z
        cases z
        exact ⟨hobj, by rw [List.length_map]; exact hz, vs, _, rv, hobj⟩
      · rw [upd_ne h] at z
        cases z
  · obtain ⟨ob, e2⟩ := Option.ne_none_iff_exists'.mp e
    have e3 := KX a ob e2
    rw [hobj] at e3
    cases e3
    refine runG KX G.T.g G.T.b G.T.builtins G.T.nolimit hg hobj hr hF hbind (fun _ => none) (fun _ _ z => nomatch z) (fun _ _ z => nomatch z) (.inl rfl) (hsp _ _ _ ns hlen (.inr ⟨_, vs.toArray, _, e2, rfl, rfl, rfl, ?_, by simpa using rv⟩))
    rw [List.size_toArray, lv]
    exact hz
end Bd
namespace Bd
open PySem PySem.Spec PyProof.Rows L2 HT
/-! ### texts of data -/
/-- data that has a text of bounded size: W bounds its weight -/
structure Rp (d : PyData) (n W : Nat) : Prop where
  lay : d.canLay0 = true
  dep : d.depth ≤ n
  sho : d.showable = true
  sml : d.leavesShort 100 = true
  wei : d.weight ≤ W
theorem rp_int {i : Int} (h0 : -(2 ^ 90) < i) (h1 : i < 2 ^ 90) : Rp (.int i) 0 90 := by
  have hl : i.natAbs.log2 < 90 := PySem.Flt.log2_lt_of (by decide) (by omega)
  refine ⟨rfl, Nat.le_refl _, ?_, ?_, ?_⟩
  · show decide (i.natAbs.log2 < 1920) = true
    exact decide_eq_true (by omega)
  · show decide ((PyData.shown (.int i)).length ≤ 100) = true
    refine decide_eq_true ?_
    show (Str.ofString (toString i)).length ≤ 100
    rw [PySem.ofString_length]
    have := int_text_length_le (a := i) (k := 90) (by decide) hl
    omega
  · show (if i == 0 then 0 else i.natAbs.log2 + 1) ≤ 90
    split <;> omega
theorem rp_all {n W : Nat} : ∀ {xs : List PyData}, (∀ x ∈ xs, Rp x n W) → PyData.canLayAll0 xs = true ∧ PyData.depthAll xs ≤ n ∧ PyData.showableAll xs = true ∧ PyData.leavesShortAll 100 xs = true ∧ PyData.weightAll xs ≤ xs.length * (W + 1)
  | [], _ => ⟨rfl, Nat.zero_le _, rfl, rfl, Nat.zero_le _⟩
  | x :: xs, h => by
    obtain ⟨a1, a2, a3, a4, a5⟩ := h x List.mem_cons_self
    obtain ⟨b1, b2, b3, b4, b5⟩ := rp_all (xs := xs) fun y hy => h y (List.mem_cons_of_mem _ hy)
    refine ⟨by rw [PyData.canLayAll0, a1, b1]; rfl, by rw [PyData.depthAll]; exact Nat.max_le.mpr ⟨a2, b2⟩, by rw [PyData.showableAll, a3, b3]; rfl, by rw [PyData.leavesShortAll, a4, b4]; rfl, ?_⟩
    rw [PyData.weightAll, List.length_cons, Nat.succ_mul]
    omega
theorem rp_list {n W : Nat} {xs : List PyData} (h : ∀ x ∈ xs, Rp x n W) : Rp (.list xs) (n + 1) (xs.length * (W + 1)) := by
  obtain ⟨a1, a2, a3, a4, a5⟩ := rp_all h
  exact ⟨by rw [PyData.canLay0]; exact a1, by rw [PyData.depth]; omega, by rw [PyData.showable]; exact a3, by rw [PyData.leavesShort]; exact a4, by rw [PyData.weight]; exact a5⟩
theorem rp_tup {n W : Nat} {xs : List PyData} (h : ∀ x ∈ xs, Rp x n W) : Rp (.tuple xs) (n + 1) (xs.length * (W + 1)) := by
  obtain ⟨a1, a2, a3, a4, a5⟩ := rp_all h
  exact ⟨by rw [PyData.canLay0]; exact a1, by rw [PyData.depth]; omega, by rw [PyData.showable]; exact a3, by rw [PyData.leavesShort]; exact a4, by rw [PyData.weight]; exact a5⟩
theorem Rp.up {d : PyData} {n m W V : Nat} (h : Rp d n W) (h1 : n ≤ m) (h2 : W ≤ V) : Rp d m V := ⟨h.lay, Nat.le_trans h.dep h1, h.sho, h.sml, Nat.le_trans h.wei h2⟩
theorem Rp.fits {d : PyData} {n W : Nat} (h : Rp d n W) (hW : W ≤ 100000) : d.shown.length ≤ sizeLine := by
  have h1 := PyData.shown_le 100 (by decide) d h.sml
  have h2 := h.wei
  rw [sizeLine_eq]
  omega
section
variable {X : Cx}
/-- repr of data at any depth -/
theorem call_reprD (hg : X.A.guards = some []) (hu : X.A.units + 64 < cLine) : CallR X (.builtin "repr") (fun xs H Q => ∃ (a : Addr) (d : PyData) (n W : Nat), xs = [.ref a] ∧ Dp X.K H (.ref a) d ∧ Rp d n W ∧ n ≤ 50 ∧ W ≤ 100000 ∧ Q (.str d.shown) H) := by
  intro pins s σ H xs us Q I r h
  obtain ⟨a, d, n, W, rfl, hd, hr, hn, hW, q⟩ := h
  obtain ⟨u, rfl, rx⟩ := vals1 r
  cases (show u = Value.ref a from rx)
  obtain ⟨as, rd⟩ := Dp.reads I d (.ref a) (.ref a) hd rfl
  refine repr_of_reads' rd hr.sho (PyData.noDict_hsm (PyData.hasDict_of_canLay d hr.lay)) hg (by have := hr.dep; omega) (fun b o e => e) (fun h' u tk hk => ?_) (hr.fits hW)
  exact ⟨.str d.shown, H, I.kept hk, ⟨u, rfl⟩, q⟩
end
end Bd
namespace Bd
open PySem PySem.Spec PyProof.Rows L2 HT
theorem rp_two {d e : PyData} {n W : Nat} (h1 : Rp d n W) (h2 : Rp e n W) : Rp (.list [d, e]) (n + 1) (2 * (W + 1)) := rp_list fun x hx => by
  rcases List.mem_cons.mp hx with rfl | hx
  · exact h1
  · rcases List.mem_cons.mp hx with rfl | hx
    · exact h2
    · cases hx
theorem rp_nat {i : Nat} (h : i ≤ 100) : Rp (.int i) 0 90 := rp_int (by omega) (by omega)
theorem rp_pair {p : Nat × Nat} (h1 : p.1 ≤ 100) (h2 : p.2 ≤ 100) : Rp (pairD p) 1 182 := rp_tup (n := 0) (W := 90) (xs := [.int p.1, .int p.2]) fun x hx => by
  rcases List.mem_cons.mp hx with rfl | hx
  · exact rp_nat h1
  · rcases List.mem_cons.mp hx with rfl | hx
    · exact rp_nat h2
    · cases hx
theorem rp_house {rooms : Nat} {ds : List (Nat × Nat)} (h : Doors rooms ds) (h1 : rooms ≤ 100) (h2 : ds.length ≤ 100) : Rp (houseD rooms ds) 3 40000 := by
  have hd : Rp (doorsD ds) 2 18300 := by
    have := rp_list (n := 1) (W := 182) (xs := ds.map pairD) fun x hx => by
      obtain ⟨p, hp, rfl⟩ := List.mem_map.mp hx
      obtain ⟨q1, q2, _⟩ := h p hp
      exact rp_pair (by omega) (by omega)
    refine this.up (by decide) ?_
    rw [List.length_map]
    omega
  have := rp_tup (n := 2) (W := 18300) (xs := [.int rooms, doorsD ds]) fun x hx => by
    rcases List.mem_cons.mp hx with rfl | hx
    · exact (rp_nat h1).up (by decide) (by decide)
    · rcases List.mem_cons.mp hx with rfl | hx
      · exact hd
      · cases hx
  exact this.up (by decide) (by show 2 * (18300 + 1) ≤ 40000; decide)
theorem rp_ints {cs : List Int} (h : ∀ x ∈ cs, 0 ≤ x ∧ x < 10 ^ 20) (h2 : cs.length ≤ 100) : Rp (.list (cs.map .int)) 3 40000 := by
  have := rp_list (n := 0) (W := 90) (xs := cs.map .int) fun x hx => by
    obtain ⟨i, hi, rfl⟩ := List.mem_map.mp hx
    obtain ⟨q1, q2⟩ := h i hi
    exact rp_int (by omega) (by omega)
  refine this.up (by decide) ?_
  rw [List.length_map]
  omega
theorem leave_one (r : Nat) : ∀ z : List Dc, (∀ x ∈ z, x.1.1 ≠ x.1.2) → leaveM z [r] = metAt z r := by
  intro z h
  rw [← atRoom_sum r z h]
  unfold leaveM
  have e : z.filter (lvAt [r]) = z.filter (atRoom r) := by
    refine List.filter_congr fun x hx => ?_
    have hn := h x hx
    unfold lvAt atRoom
    by_cases c1 : x.1.1 = r
    · have c2 : ¬ x.1.2 = r := fun q => hn (c1.trans q.symm)
      simp [c1, c2]
    · by_cases c2 : x.1.2 = r
      · have c3 : ¬ r = x.1.1 := fun q => c1 q.symm
        simp [c1, c2, c3]
      · have c3 : ¬ r = x.1.1 := fun q => c1 q.symm
        have c4 : ¬ r = x.1.2 := fun q => c2 q.symm
        simp [c1, c2, c3, c4]
  rw [e]
def spLaw (K : PySem.W.Frag) : Sp := fun vs H Q _ => ∃ (a : Addr) (ns : List Int), vs = [.ref a] ∧ SqL K H a (ns.map V.int) ∧ ns.length ≤ 63 ∧ ∀ H', Q (.bl true) H'
end Bd
set_option maxHeartbeats 3200000
namespace Bd
open PySem PySem.Spec PyProof.Rows L2
section
variable {P : Program} {w : World} {A : Around} {E : Value → Shared → Prop} {s : Shared}
/-- a set as it is made -/
abbrev bare (w : World) : Obj := { cls := .type "set", dict := none, data := .set #[] 0 (.fresh 0 0 (!w.params.followText "set-order")) }
theorem call_set_ints {l : Addr} {its : Array Value} (ns : List Int) {Q : Value → Shared → Prop} (hh : A.handled = none) (hl : s.heap.IsList l its) (hit : IntsAre its.toList ns) (hb : ns.length + 1 < scanBound)
    (h : ∀ (h' : Heap) (tk c : Nat), SetR w h' s.heap.objs.size (fun j => decide (j ∈ ns)) c → c ≤ ns.length → (∀ b o, s.heap.get? b = some o → h'.get? b = some o) → Q (.ref s.heap.objs.size) { s with heap := h', toks := tk }) :
    wpAny (model P w) A (call (.type "set") [.ref l]) Q E s := by
  have size : its.size = ns.length := (Array.length_toList (xs := its)).symm.trans (IntsAre.length hit)
  obtain ⟨c, tl, mro⟩ := F.called_set.mro
  have f1 := F.called_set.made; have f2 := F.called_set.sub; have f3 := F.called_set.notType; have f4 := F.called_set.canCreate; have f5 := F.typeCall_set_1 (.ref l)
  refine wpAny_call (codeAny_of_tree (show wpAny _ _ (callAny (.type "set") _) _ _ _ from wpAny_pure ⟨Code.quiet_builtin _ (by decide +kernel), codeAny_builtin F.entry_type_call ?_⟩))
  rw [Around.under_plain (weight_type_call_type "set" [.ref l] []) rfl]; repeat (any_goals (first | assumption | wp_step))
  refine codeAny_mono (code_set_led1 (.ref l) (E := E) (Q₁ := fun obj z => obj = .ref s.heap.objs.size ∧ z = { s with heap := s.heap.push (bare w) }) ⟨rfl, rfl⟩) fun r z hr => ?_
  match r, hr with
  | .error e, hr => exact hr
  | .ok .next, hr => exact hr.elim
  | .ok .brk, hr => exact hr.elim
  | .ok .cont, hr => exact hr.elim
  | .ok (.ret obj), hr =>
    obtain ⟨rfl, rfl⟩ := hr
    have g0 : (s.heap.push (bare w)).get? s.heap.objs.size = some (bare w) := Heap.get?_push_size _ rfl
    have g1 : Shared.TypeIs { s with heap := s.heap.push (bare w) } (.ref s.heap.objs.size) "set" := ⟨_, g0, rfl⟩
    have g2 := F.called_set.init.lookup; have g3 := F.called_set.init.bind (.ref s.heap.objs.size)
    repeat (any_goals (first | assumption | wp_step))
    refine codeAny_mono (codeAny_call_builtin (R := wants (fun r z => r = .none ∧ ∃ h' tk c, z = { s with heap := h', toks := tk } ∧ SetR w h' s.heap.objs.size (fun j => decide (j ∈ ns)) c ∧ c ≤ ns.length ∧ (∀ b o, s.heap.get? b = some o → h'.get? b = some o)) E)
      F.called_set.init.plain F.entry_set_init (check_set_init_1 g1 ?_)) fun r2 z2 hr2 => ?_
    · obtain ⟨⟨ocls, odict, odata, oslots⟩, hol, hcl, nl, hdl⟩ := hl
      simp only at hcl hdl; subst hcl; subst hdl
      have q0 : (s.heap.push (bare w)).get? l = some { cls := .type "list", dict := odict, data := .seq its nl, slots := oslots } := Heap.get?_push_of_some _ hol
      have q1 := F.sub_list_set; have q2 := F.sub_list_frozenset
      have q3 : (Value.type "list" == Value.type "dict") = false := by decide
      have q4 : (s.heap.push (bare w)).IsList l its := ⟨_, q0, rfl, nl, rfl⟩
      unfold Builtin.«set.__init__» noKeywords Builtin.Frozenset.updateFrom; generalize hPI : pyIter = PI; wp_walk; subst hPI
      refine wpAny_pyIter_list q4 (wpAny_bind (wpAny_runValue ?_))
      have lS : l < s.heap.objs.size := Heap.lt_size hol
      have calm : A.in1.in1.in1.handled = none := by simp [hh]
      have sz : (s.heap.push (bare w)).objs.size = s.heap.objs.size + 1 := Heap.size_push ..
      have ne : l ≠ (s.heap.push (bare w)).objs.size := by rw [sz]; exact Nat.ne_of_lt (Nat.lt_succ_of_lt lS)
      have out : s.heap.objs.size ∉ [(s.heap.push (bare w)).objs.size, l] := by
        rw [sz]
        intro z
        rcases List.mem_cons.mp z with z | z
        · omega
        · exact absurd (List.mem_singleton.mp z) (Nat.ne_of_gt lS)
      have val : ∀ (i : Nat) (v : Value), its[i]? = some v → ∃ k t, ns[i]? = some k ∧ v = .int k t := by
        intro i v hv
        have hi : i < ns.length := by rw [← size]; exact (Array.getElem?_eq_some_iff.mp hv).1
        obtain ⟨t, e⟩ := PyProof.Rows.IntsAre.int_at hit i v (by rw [Array.getElem?_toList]; exact hv)
        exact ⟨ns[i], t, List.getElem?_eq_getElem hi, by rw [e, List.getD_eq_getElem?_getD, List.getElem?_eq_getElem hi]; rfl⟩
      refine set_update_ints ((Walks.list calm _ l ne its).toS) s.heap.objs.size out ns size hb val (its.size - 0) 0 _ (by omega) (Nat.zero_le _) ⟨⟨_, Heap.get?_push_size _ rfl, rfl, rfl⟩, (q4.push _)⟩ ⟨0, Nat.le_refl 0, setR_new_at (Heap.get?_push_of_some _ g0)⟩ ?_
      rintro ⟨h', g', d', tk', os'⟩ c' hm hc' hS'
      have eg : g' = s.gens := hm.gens; have ed : d' = s.drawn := hm.drawn; have eo : os' = s.os := hm.os
      subst eg; subst ed; subst eo
      show wpAny _ _ _ _ _ _
      refine wpAny_pure (show wpAny _ _ (ret Value.none) _ _ _ from wpAny_pure ⟨rfl, h', tk', c', rfl, hS', by omega, fun b o e => ?_⟩)
      have b0 : b < s.heap.objs.size := Heap.lt_size e
      refine hm.heap b o (fun z => ?_) (Heap.get?_push_of_some _ (Heap.get?_push_of_some _ e))
      rcases List.mem_cons.mp z with z | z
      · exact absurd z (Nat.ne_of_lt b0)
      · exact absurd ((List.mem_singleton.mp z).trans sz) (Nat.ne_of_lt (Nat.lt_succ_of_lt b0))
    · match r2, hr2 with
      | .error e, h2 => exact h2
      | .ok .next, h2 => exact h2.elim
      | .ok .brk, h2 => exact h2.elim
      | .ok .cont, h2 => exact h2.elim
      | .ok (.ret _), h2 =>
        obtain ⟨rfl, h', tk, c', rfl, hS', hc', hk'⟩ := h2
        repeat (any_goals (first | assumption | wp_step))
        exact h _ _ _ hS' hc' hk'
end
section
variable {X : Cx}
/-- set(xs), a list of ints -/
def rSetOfL (K : PySem.W.Frag) (w : World) : List V → Hp → VK → Prop := fun as H Q => ∃ (l : Addr) (ns : List Int), as = [.ref l] ∧ SqL K H l (ns.map V.int) ∧ ns.length ≤ 1000 ∧
  ∀ p c, H p = none → c ≤ ns.length → Q (.ref p) (upd H p (SetO w p (fun j => decide (j ∈ ns)) c))
theorem call_setL (hc : X.calm = true) : CallR X (.type "set") (rSetOfL X.K X.w) := by
  intro pins s σ H as us Q I r h
  obtain ⟨l, ns, rfl, hq, hn, q⟩ := h
  obtain ⟨u, rfl, rx⟩ := vals1 r
  cases (show u = Value.ref l from rx)
  obtain ⟨its, rv, hl, hz⟩ := I.list hq
  refine call_set_ints ns (I.ok.hd hc) hl.isList (by simpa using intsAre_of rv) (by unfold scanBound; omega) fun h' tk c S hc k => ?_
  have new : H s.heap.objs.size = none := I.hok.fresh (Nat.le_refl _)
  exact ⟨.ref s.heap.objs.size, upd H s.heap.objs.size (SetO X.w s.heap.objs.size (fun j => decide (j ∈ ns)) c), I.laid (t' := tk) k (Nat.le_refl _) (setO_new S), rfl, q _ _ new hc⟩
end
end Bd
namespace Bd
open PySem PySem.Spec PyProof.Rows L2 HT
/-! ### parts, by leaders -/
def relab (L : List Nat) (a b : Nat) : List Nat := L.map fun v => if v = max (L.getD a 0) (L.getD b 0) then min (L.getD a 0) (L.getD b 0) else v
def leadStep (L : List Nat) (x : Dc) : List Nat := if 0 < x.2 then relab L x.1.1 x.1.2 else L
def leadL (n : Nat) (z : List Dc) : List Nat := z.foldl leadStep (List.range n)
structure Led (n : Nat) (z : List Dc) (L : List Nat) : Prop where
  len : L.length = n
  low : ∀ r, r < n → L.getD r 0 ≤ r
  idem : ∀ r, r < n → L.getD (L.getD r 0) 0 = L.getD r 0
  eq : ∀ x ∈ z, 0 < x.2 → L.getD x.1.1 0 = L.getD x.1.2 0
  con : ∀ S : Nat → Prop, (∀ x ∈ z, 0 < x.2 → (S x.1.1 ↔ S x.1.2)) → ∀ r, r < n → (S r ↔ S (L.getD r 0))
theorem getD_map {f : Nat → Nat} {L : List Nat} {r : Nat} (h : r < L.length) : (L.map f).getD r 0 = f (L.getD r 0) := by
  rw [List.getD_eq_getElem?_getD, List.getD_eq_getElem?_getD, List.getElem?_map, List.getElem?_eq_getElem h]
  rfl
theorem led_nil (n : Nat) : Led n [] (List.range n) := by
  have e : ∀ r, r < n → (List.range n).getD r 0 = r := fun r h => by
    rw [List.getD_eq_getElem?_getD, List.getElem?_range h]
    rfl
  refine ⟨List.length_range, fun r h => by rw [e r h]; exact Nat.le_refl _, fun r h => by rw [e r h, e r h], (fun x hx => by cases hx), fun S _ r h => by rw [e r h]⟩
theorem led_step {n : Nat} {z : List Dc} {L : List Nat} {x : Dc} (h : Led n z L) (ha : x.1.1 < n) (hb : x.1.2 < n) : Led n (z ++ [x]) (leadStep L x) := by
  unfold leadStep
  by_cases c : 0 < x.2
  · rw [if_pos c]
    have hmax : max (L.getD x.1.1 0) (L.getD x.1.2 0) = L.getD x.1.1 0 ∨ max (L.getD x.1.1 0) (L.getD x.1.2 0) = L.getD x.1.2 0 := by omega
    have hmin : min (L.getD x.1.1 0) (L.getD x.1.2 0) = L.getD x.1.1 0 ∨ min (L.getD x.1.1 0) (L.getD x.1.2 0) = L.getD x.1.2 0 := by omega
    have hle : min (L.getD x.1.1 0) (L.getD x.1.2 0) ≤ max (L.getD x.1.1 0) (L.getD x.1.2 0) := by omega
    have hcov : ∀ v, v = L.getD x.1.1 0 ∨ v = L.getD x.1.2 0 → v = max (L.getD x.1.1 0) (L.getD x.1.2 0) ∨ v = min (L.getD x.1.1 0) (L.getD x.1.2 0) := by intro v hv; omega
    have il : L.getD (min (L.getD x.1.1 0) (L.getD x.1.2 0)) 0 = min (L.getD x.1.1 0) (L.getD x.1.2 0) := by
      rcases hmin with e | e
      · rw [e]; exact h.idem _ ha
      · rw [e]; exact h.idem _ hb
    have ll : min (L.getD x.1.1 0) (L.getD x.1.2 0) < n := by
      have := h.low _ ha
      omega
    generalize hlo : min (L.getD x.1.1 0) (L.getD x.1.2 0) = lo at *
    generalize hhi : max (L.getD x.1.1 0) (L.getD x.1.2 0) = hi at *
    have g : ∀ r, r < n → (relab L x.1.1 x.1.2).getD r 0 = if L.getD r 0 = hi then lo else L.getD r 0 := fun r hr => by
      unfold relab
      rw [getD_map (by rw [h.len]; exact hr), hlo, hhi]
    have lt : ∀ r, r < n → L.getD r 0 < n := fun r hr => Nat.lt_of_le_of_lt (h.low r hr) hr
    have gl : ∀ r, r < n → (relab L x.1.1 x.1.2).getD (L.getD r 0) 0 = if L.getD r 0 = hi then lo else L.getD r 0 := fun r hr => by rw [g _ (lt r hr), h.idem r hr]
    refine ⟨by unfold relab; rw [List.length_map]; exact h.len, fun r hr => ?_, fun r hr => ?_, fun y hy hp => ?_, fun S hS r hr => ?_⟩
    · rw [g r hr]
      have := h.low r hr
      split <;> omega
    · rw [g r hr]
      by_cases e : L.getD r 0 = hi
      · rw [if_pos e, g lo ll, il]
        split <;> rfl
      · rw [if_neg e, gl r hr, if_neg e]
    · rcases List.mem_append.mp hy with hy | hy
      · have hlt := h.eq y hy hp
        by_cases q1 : y.1.1 < n
        · by_cases q2 : y.1.2 < n
          · rw [g _ q1, g _ q2, hlt]
          · -- beyond the rooms both are 0 by default
            have e2 : ∀ M : List Nat, M.length = n → M.getD y.1.2 0 = 0 := fun M hM => by rw [List.getD_eq_getElem?_getD, List.getElem?_eq_none (by omega)]; rfl
            have h2 := e2 L h.len
            have h3 := e2 (relab L x.1.1 x.1.2) (by unfold relab; rw [List.length_map]; exact h.len)
            rw [h3, g _ q1, hlt, h2]
            split <;> omega
        · have e1 : ∀ M : List Nat, M.length = n → M.getD y.1.1 0 = 0 := fun M hM => by rw [List.getD_eq_getElem?_getD, List.getElem?_eq_none (by omega)]; rfl
          have h2 := e1 L h.len
          have h3 := e1 (relab L x.1.1 x.1.2) (by unfold relab; rw [List.length_map]; exact h.len)
          by_cases q2 : y.1.2 < n
          · rw [h3, g _ q2, ← hlt, h2]
            split <;> omega
          · have e2 : ∀ M : List Nat, M.length = n → M.getD y.1.2 0 = 0 := fun M hM => by rw [List.getD_eq_getElem?_getD, List.getElem?_eq_none (by omega)]; rfl
            rw [h3, e2 (relab L x.1.1 x.1.2) (by unfold relab; rw [List.length_map]; exact h.len)]
      · rw [List.mem_singleton.mp hy, g _ ha, g _ hb]
        have c1 := hcov _ (.inl rfl)
        have c2 := hcov _ (.inr rfl)
        split <;> split <;> omega
    · have base := h.con S (fun y hy => hS y (List.mem_append_left _ hy))
      have hx := hS x (List.mem_append_right _ (List.mem_singleton.mpr rfl)) c
      have sa := base _ ha
      have sb := base _ hb
      have same : S lo ↔ S hi := by
        have e1 : S (L.getD x.1.1 0) ↔ S (L.getD x.1.2 0) := sa.symm.trans (hx.trans sb)
        rcases hmin with e | e <;> rcases hmax with e' | e' <;> rw [e, e'] <;> first | exact Iff.rfl | exact e1 | exact e1.symm
      rw [g r hr]
      by_cases e : L.getD r 0 = hi
      · rw [if_pos e, same, ← e]; exact base r hr
      · rw [if_neg e]; exact base r hr
  · rw [if_neg c]
    refine ⟨h.len, h.low, h.idem, fun y hy hp => ?_, fun S hS r hr => h.con S (fun y hy => hS y (List.mem_append_left _ hy)) r hr⟩
    rcases List.mem_append.mp hy with hy | hy
    · exact h.eq y hy hp
    · rw [List.mem_singleton.mp hy] at hp
      exact absurd hp c
theorem leadL_snoc (n : Nat) (z : List Dc) (x : Dc) : leadL n (z ++ [x]) = leadStep (leadL n z) x := by
  unfold leadL
  rw [List.foldl_append]
  rfl
theorem led_all {n : Nat} : ∀ z : List Dc, (∀ x ∈ z, x.1.1 < n ∧ x.1.2 < n) → Led n z (leadL n z) := by
  intro z
  induction hz : z.length generalizing z with
  | zero =>
    intro _
    rw [List.length_eq_zero_iff.mp hz]
    exact led_nil n
  | succ m ih =>
    intro h
    obtain ⟨y, x, rfl⟩ : ∃ y x, z = y ++ [x] := ⟨z.dropLast, z.getLast (by intro e; rw [e] at hz; cases hz), (List.dropLast_concat_getLast _).symm⟩
    have hy : y.length = m := by
      rw [List.length_append] at hz
      exact Nat.succ.inj hz
    have hx := h x (by simp)
    rw [leadL_snoc]
    exact led_step (ih y hy fun w hw => h w (List.mem_append_left _ hw)) hx.1 hx.2
end Bd
namespace Bd
open PySem PySem.Spec PyProof.Rows L2 HT
/-! ### parts, by marks that run along doors -/
def markStep (M : List Nat) (x : Dc) : List Nat := if 0 < x.2 then (M.set x.1.1 (min (M.getD x.1.1 0) (M.getD x.1.2 0))).set x.1.2 (min (M.getD x.1.1 0) (M.getD x.1.2 0)) else M
def markTurn (z : List Dc) (M : List Nat) : List Nat := z.foldl markStep M
def markTurns (z : List Dc) : Nat → List Nat → List Nat
  | 0, M => M
  | k + 1, M => markTurn z (markTurns z k M)
structure Mkd (n : Nat) (L M : List Nat) : Prop where
  len : M.length = n
  low : ∀ r, r < n → M.getD r 0 ≤ r
  same : ∀ r, r < n → L.getD (M.getD r 0) 0 = L.getD r 0
theorem getD_set {M : List Nat} {a r v : Nat} (h : a < M.length) : (M.set a v).getD r 0 = if r = a then v else M.getD r 0 := by
  rw [List.getD_eq_getElem?_getD, List.getD_eq_getElem?_getD]
  by_cases e : r = a
  · subst e
    rw [List.getElem?_set_self h, if_pos rfl]
    rfl
  · rw [List.getElem?_set_ne (fun q => e q.symm), if_neg e]
theorem getD_step {n : Nat} {M : List Nat} {x : Dc} (h : M.length = n) (ha : x.1.1 < n) (hb : x.1.2 < n) (c : 0 < x.2) (r : Nat) :
    (markStep M x).getD r 0 = if r = x.1.1 ∨ r = x.1.2 then min (M.getD x.1.1 0) (M.getD x.1.2 0) else M.getD r 0 := by
  unfold markStep
  rw [if_pos c, getD_set (by rw [List.length_set, h]; exact hb), getD_set (by rw [h]; exact ha)]
  by_cases e2 : r = x.1.2
  · rw [if_pos e2, if_pos (.inr e2)]
  · by_cases e1 : r = x.1.1
    · rw [if_neg e2, if_pos e1, if_pos (.inl e1)]
    · rw [if_neg e2, if_neg e1, if_neg (fun q => q.elim e1 e2)]
section
variable {n : Nat} {z : List Dc} {L M : List Nat}
theorem Mkd.le (h : Mkd n L M) (hL : Led n z L) {r : Nat} (hr : r < n) : L.getD r 0 ≤ M.getD r 0 := by
  rw [← h.same r hr]
  exact hL.low _ (Nat.lt_of_le_of_lt (h.low r hr) hr)
theorem mkd_step {x : Dc} (h : Mkd n L M) (hL : Led n z L) (hx : x ∈ z) (ha : x.1.1 < n) (hb : x.1.2 < n) : Mkd n L (markStep M x) := by
  by_cases c : 0 < x.2
  · have e := hL.eq x hx c
    have l1 := h.low _ ha
    have l2 := h.low _ hb
    have s1 := h.same _ ha
    have s2 := h.same _ hb
    refine ⟨by unfold markStep; rw [if_pos c, List.length_set, List.length_set]; exact h.len, fun r hr => ?_, fun r hr => ?_⟩
    · rw [getD_step h.len ha hb c]
      split
      · rename_i q
        rcases q with rfl | rfl <;> omega
      · exact h.low r hr
    · rw [getD_step h.len ha hb c]
      split
      · rename_i q
        have hm : min (M.getD x.1.1 0) (M.getD x.1.2 0) = M.getD x.1.1 0 ∨ min (M.getD x.1.1 0) (M.getD x.1.2 0) = M.getD x.1.2 0 := by omega
        rcases hm with hm | hm <;> rw [hm] <;> rcases q with rfl | rfl
        · exact s1
        · rw [s1]; exact e
        · rw [s2]; exact e.symm
        · exact s2
      · exact h.same r hr
  · unfold markStep
    rw [if_neg c]
    exact h
/-- a room that has its leader keeps it -/
theorem keep_step {x : Dc} (h : Mkd n L M) (hL : Led n z L) (hx : x ∈ z) (ha : x.1.1 < n) (hb : x.1.2 < n) {r : Nat} (hr : r < n) (e : M.getD r 0 = L.getD r 0) : (markStep M x).getD r 0 = L.getD r 0 := by
  by_cases c : 0 < x.2
  · have h2 := (mkd_step h hL hx ha hb).le hL hr
    have : (markStep M x).getD r 0 ≤ M.getD r 0 := by
      rw [getD_step h.len ha hb c]
      split
      · rename_i q
        rcases q with rfl | rfl <;> omega
      · exact Nat.le_refl _
    omega
  · unfold markStep
    rw [if_neg c]
    exact e
theorem mkd_fold (hL : Led n z L) (hz : ∀ x ∈ z, x.1.1 < n ∧ x.1.2 < n) : ∀ (y : List Dc), (∀ x ∈ y, x ∈ z) → ∀ M, Mkd n L M → Mkd n L (y.foldl markStep M) ∧ ∀ r, r < n → M.getD r 0 = L.getD r 0 → (y.foldl markStep M).getD r 0 = L.getD r 0
  | [], _, M, h => ⟨h, fun _ _ e => e⟩
  | x :: y, hy, M, h => by
    have hx := hy x List.mem_cons_self
    obtain ⟨ha, hb⟩ := hz x hx
    obtain ⟨h1, h2⟩ := mkd_fold hL hz y (fun w hw => hy w (List.mem_cons_of_mem _ hw)) _ (mkd_step h hL hx ha hb)
    exact ⟨h1, fun r hr e => h2 r hr (keep_step h hL hx ha hb hr e)⟩
/-- across a passed door the leader comes over within a turn -/
theorem turn_over (hL : Led n z L) (hz : ∀ x ∈ z, x.1.1 < n ∧ x.1.2 < n) {M : List Nat} (h : Mkd n L M) {x : Dc} (hx : x ∈ z) (c : 0 < x.2) (e : M.getD x.1.1 0 = L.getD x.1.1 0 ∨ M.getD x.1.2 0 = L.getD x.1.2 0) :
    (markTurn z M).getD x.1.1 0 = L.getD x.1.1 0 ∧ (markTurn z M).getD x.1.2 0 = L.getD x.1.2 0 := by
  obtain ⟨ha, hb⟩ := hz x hx
  obtain ⟨u, v, rfl⟩ := List.append_of_mem hx
  unfold markTurn
  rw [List.foldl_append, List.foldl_cons]
  obtain ⟨h1, k1⟩ := mkd_fold hL hz u (fun w hw => List.mem_append_left _ hw) M h
  have h2 := mkd_step h1 hL hx ha hb
  obtain ⟨h3, k3⟩ := mkd_fold hL hz v (fun w hw => List.mem_append_right _ (List.mem_cons_of_mem _ hw)) _ h2
  have eL := hL.eq x hx c
  have l1 := h1.le hL ha
  have l2 := h1.le hL hb
  have e' : (u.foldl markStep M).getD x.1.1 0 = L.getD x.1.1 0 ∨ (u.foldl markStep M).getD x.1.2 0 = L.getD x.1.2 0 := e.elim (fun q => .inl (k1 _ ha q)) (fun q => .inr (k1 _ hb q))
  refine ⟨k3 _ ha ?_, k3 _ hb ?_⟩
  · rw [getD_step h1.len ha hb c, if_pos (.inl rfl)]; omega
  · rw [getD_step h1.len ha hb c, if_pos (.inr rfl)]; omega
def doneM (n : Nat) (L M : List Nat) : Nat := (List.range n).countP fun r => decide (M.getD r 0 = L.getD r 0)
theorem countP_lt {α : Type} {p q : α → Bool} : ∀ {xs : List α}, (∀ x ∈ xs, p x = true → q x = true) → (∃ x ∈ xs, q x = true ∧ p x = false) → xs.countP p < xs.countP q
  | [], _, h => by obtain ⟨x, hx, _⟩ := h; cases hx
  | x :: xs, h, ⟨y, hy, q1, q2⟩ => by
    have hm : xs.countP p ≤ xs.countP q := List.countP_mono_left fun z hz => h z (List.mem_cons_of_mem _ hz)
    rcases List.mem_cons.mp hy with rfl | hy
    · rw [List.countP_cons_of_pos q1, List.countP_cons_of_neg (by rw [q2]; decide)]
      omega
    · have ih := countP_lt (fun z hz => h z (List.mem_cons_of_mem _ hz)) ⟨y, hy, q1, q2⟩
      by_cases c : p x = true
      · rw [List.countP_cons_of_pos c, List.countP_cons_of_pos (h x List.mem_cons_self c)]
        omega
      · rw [List.countP_cons_of_neg c]
        have : xs.countP q ≤ (x :: xs).countP q := by rw [List.countP_cons]; omega
        omega
theorem turn_more (hL : Led n z L) (hz : ∀ x ∈ z, x.1.1 < n ∧ x.1.2 < n) {M : List Nat} (h : Mkd n L M) (hd : ∃ r, r < n ∧ M.getD r 0 ≠ L.getD r 0) : doneM n L M < doneM n L (markTurn z M) := by
  obtain ⟨h1, k1⟩ := mkd_fold hL hz z (fun _ hw => hw) M h
  unfold doneM
  refine countP_lt (fun r hr e => ?_) ?_
  · exact decide_eq_true (k1 r (List.mem_range.mp hr) (of_decide_eq_true e))
  · -- a passed door between one that has its leader and one that has not
    obtain ⟨r, hr, ne⟩ := hd
    have lead : M.getD (L.getD r 0) 0 = L.getD (L.getD r 0) 0 := by
      have hlt : L.getD r 0 < n := Nat.lt_of_le_of_lt (hL.low r hr) hr
      have a1 := h.low _ hlt
      have a2 := h.le hL hlt
      rw [hL.idem r hr] at a2 ⊢
      omega
    by_cases cl : ∀ x ∈ z, 0 < x.2 → (M.getD x.1.1 0 = L.getD x.1.1 0 ↔ M.getD x.1.2 0 = L.getD x.1.2 0)
    · exact absurd ((hL.con (fun q => M.getD q 0 = L.getD q 0) cl r hr).mpr lead) ne
    · obtain ⟨x, q⟩ := Classical.not_forall.mp cl
      obtain ⟨hx, q⟩ := Classical.not_forall.mp q
      obtain ⟨c, q⟩ := Classical.not_forall.mp q
      obtain ⟨ha, hb⟩ := hz x hx
      by_cases e1 : M.getD x.1.1 0 = L.getD x.1.1 0
      · have e2 : ¬ M.getD x.1.2 0 = L.getD x.1.2 0 := fun e2 => q ⟨fun _ => e2, fun _ => e1⟩
        exact ⟨x.1.2, List.mem_range.mpr hb, decide_eq_true (turn_over hL hz h hx c (.inl e1)).2, decide_eq_false e2⟩
      · by_cases e2 : M.getD x.1.2 0 = L.getD x.1.2 0
        · exact ⟨x.1.1, List.mem_range.mpr ha, decide_eq_true (turn_over hL hz h hx c (.inr e2)).1, decide_eq_false e1⟩
        · exact absurd ⟨fun z => absurd z e1, fun z => absurd z e2⟩ q
theorem turns_done (hL : Led n z L) (hz : ∀ x ∈ z, x.1.1 < n ∧ x.1.2 < n) {M : List Nat} (h : Mkd n L M) : ∀ k, Mkd n L (markTurns z k M) ∧ ((∀ r, r < n → (markTurns z k M).getD r 0 = L.getD r 0) ∨ k ≤ doneM n L (markTurns z k M))
  | 0 => ⟨h, .inr (Nat.zero_le _)⟩
  | k + 1 => by
    obtain ⟨h1, h2⟩ := turns_done hL hz h k
    obtain ⟨h3, k3⟩ := mkd_fold hL hz z (fun _ hw => hw) _ h1
    refine ⟨h3, ?_⟩
    rcases h2 with h2 | h2
    · exact .inl fun r hr => k3 r hr (h2 r hr)
    · by_cases d : ∃ r, r < n ∧ (markTurns z k M).getD r 0 ≠ L.getD r 0
      · exact .inr (Nat.lt_of_le_of_lt h2 (turn_more hL hz h1 d))
      · refine .inl fun r hr => k3 r hr ?_
        exact Classical.byContradiction fun q => d ⟨r, hr, q⟩
/-- after as many turns as rooms the marks are the leaders -/
theorem marks_end (hL : Led n z L) (hz : ∀ x ∈ z, x.1.1 < n ∧ x.1.2 < n) : markTurns z n (List.range n) = L := by
  have h0 : Mkd n L (List.range n) := by
    have e : ∀ r, r < n → (List.range n).getD r 0 = r := fun r h => by
      rw [List.getD_eq_getElem?_getD, List.getElem?_range h]
      rfl
    exact ⟨List.length_range, fun r h => by rw [e r h]; exact Nat.le_refl _, fun r h => by rw [e r h]⟩
  obtain ⟨h1, h2⟩ := turns_done hL hz h0 n
  have all : ∀ r, r < n → (markTurns z n (List.range n)).getD r 0 = L.getD r 0 := by
    rcases h2 with h2 | h2
    · exact h2
    · intro r hr
      refine Classical.byContradiction fun ne => ?_
      have : doneM n L (markTurns z n (List.range n)) < (List.range n).countP (fun _ => true) := by
        unfold doneM
        exact countP_lt (fun _ _ _ => rfl) ⟨r, List.mem_range.mpr hr, rfl, decide_eq_false ne⟩
      rw [List.countP_true, List.length_range] at this
      omega
  apply List.ext_getElem?
  intro i
  by_cases hi : i < n
  · have e := all i hi
    rw [List.getD_eq_getElem?_getD, List.getD_eq_getElem?_getD, List.getElem?_eq_getElem (by rw [h1.len]; exact hi), List.getElem?_eq_getElem (by rw [hL.len]; exact hi)] at e
    rw [List.getElem?_eq_getElem (by rw [h1.len]; exact hi), List.getElem?_eq_getElem (by rw [hL.len]; exact hi)]
    exact congrArg some e
  · rw [List.getElem?_eq_none (by rw [h1.len]; omega), List.getElem?_eq_none (by rw [hL.len]; omega)]
end
/-- the lots, by leaders -/
def lotsOf (n : Nat) (L : List Nat) : List (List Nat) := ((List.range n).filter fun m => decide (m ∈ L)).map fun m => (List.range n).filter fun r => decide (L.getD r 0 = m)
end Bd
namespace Bd
open PySem PySem.Spec PyProof.Rows L2 HT
def lotD (l : List Nat) : PyData := .list ((natsL l).map .int)
def lotsD (ls : List (List Nat)) : PyData := .list (ls.map lotD)
theorem rising_eq : ∀ {xs ys : List Int}, xs.Pairwise (· < ·) → ys.Pairwise (· < ·) → (∀ k, k ∈ xs ↔ k ∈ ys) → xs = ys
  | [], [], _, _, _ => rfl
  | [], y :: ys, _, _, h => absurd ((h y).mpr List.mem_cons_self) (fun q => by cases q)
  | x :: xs, [], _, _, h => absurd ((h x).mp List.mem_cons_self) (fun q => by cases q)
  | x :: xs, y :: ys, h1, h2, h => by
    obtain ⟨a1, a2⟩ := List.pairwise_cons.mp h1
    obtain ⟨b1, b2⟩ := List.pairwise_cons.mp h2
    have e : x = y := by
      rcases List.mem_cons.mp ((h x).mp List.mem_cons_self) with e | e
      · exact e
      · rcases List.mem_cons.mp ((h y).mpr List.mem_cons_self) with e' | e'
        · exact e'.symm
        · have := a1 y e'
          have := b1 x e
          omega
    subst e
    have := rising_eq a2 b2 fun k => by
      constructor
      · intro hk
        rcases List.mem_cons.mp ((h k).mp (List.mem_cons_of_mem _ hk)) with e | e
        · have := a1 k hk
          omega
        · exact e
      · intro hk
        rcases List.mem_cons.mp ((h k).mpr (List.mem_cons_of_mem _ hk)) with e | e
        · have := b1 k hk
          omega
        · exact e
    rw [this]
theorem sort_two {x y : Int} {zs : List Int} (p : zs.Perm [x, y]) (s : zs.Pairwise (· ≤ ·)) : zs = [min x y, max x y] := by
  have hl : zs.length = 2 := p.length_eq
  obtain ⟨a, b, rfl⟩ : ∃ a b, zs = [a, b] := by
    match zs, hl with
    | [a, b], _ => exact ⟨a, b, rfl⟩
  have hab : a ≤ b := by
    have := (List.pairwise_cons.mp s).1 b (by simp)
    exact this
  have m1 := (p.mem_iff (a := a)).mp (by simp)
  have m2 := (p.mem_iff (a := b)).mp (by simp)
  have m3 := (p.mem_iff (a := x)).mpr (by simp)
  have m4 := (p.mem_iff (a := y)).mpr (by simp)
  simp only [List.mem_cons, List.not_mem_nil, or_false] at m1 m2 m3 m4
  have e1 : a = min x y := by omega
  have e2 : b = max x y := by omega
  rw [e1, e2]
theorem range_rising (n : Nat) (p : Nat → Bool) : (natsL ((List.range n).filter p)).Pairwise (· < ·) := by
  unfold natsL
  rw [List.pairwise_map]
  refine List.Pairwise.imp (R := (· < ·)) (fun h => by omega) ?_
  exact List.Pairwise.filter _ List.pairwise_lt_range
theorem nats_mem {r : Nat} {l : List Nat} : (r : Int) ∈ natsL l ↔ r ∈ l := by
  unfold natsL
  rw [List.mem_map]
  constructor
  · rintro ⟨x, hx, e⟩
    have : x = r := by omega
    exact this ▸ hx
  · exact fun h => ⟨r, h, rfl⟩
/-- the leaders that there are, rising -/
def kindsL (n : Nat) (L : List Nat) : List Nat := (List.range n).filter fun m => decide (m ∈ L)
theorem kinds_eq {n : Nat} {L : List Nat} {ns : List Int} (hb : ∀ m ∈ L, m < n) (s : ns.Pairwise (· < ·)) (h : ∀ k : Int, k ∈ ns ↔ decide (k ∈ natsL L) = true) : ns = natsL (kindsL n L) := by
  refine rising_eq s (range_rising n _) fun k => ?_
  rw [h, decide_eq_true_iff]
  constructor
  · intro hk
    obtain ⟨r, hr, rfl⟩ := List.mem_map.mp hk
    exact nats_mem.mpr (List.mem_filter.mpr ⟨List.mem_range.mpr (hb r hr), decide_eq_true hr⟩)
  · intro hk
    obtain ⟨r, hr, rfl⟩ := List.mem_map.mp hk
    exact nats_mem.mpr (of_decide_eq_true (List.mem_filter.mp hr).2)
theorem led_mem {n : Nat} {z : List Dc} {L : List Nat} (h : Led n z L) : ∀ m ∈ L, m < n := fun m hm => by
  obtain ⟨i, hi, e⟩ := List.getElem_of_mem hm
  have hi2 : i < n := by rw [← h.len]; exact hi
  have := h.low i hi2
  rw [List.getD_eq_getElem?_getD, List.getElem?_eq_getElem hi] at this
  have e' : m ≤ i := by rw [← e]; exact this
  omega
theorem kinds_pos {n : Nat} {z : List Dc} {L : List Nat} (h : Led n z L) (hn : 0 < n) : kindsL n L ≠ [] := by
  have h0 : L.getD 0 0 = 0 := Nat.le_zero.mp (h.low 0 hn)
  have hm : 0 ∈ L := by
    have hl : 0 < L.length := by rw [h.len]; exact hn
    rw [List.getD_eq_getElem?_getD, List.getElem?_eq_getElem hl] at h0
    have e : L[0] = 0 := h0
    rw [← e]
    exact List.getElem_mem hl
  intro e
  have : 0 ∈ kindsL n L := List.mem_filter.mpr ⟨List.mem_range.mpr hn, decide_eq_true hm⟩
  rw [e] at this
  cases this
def partsL (n : Nat) (z : List Dc) : List (List Nat) := lotsOf n (leadL n z)
/-- new lists at qs: what each holds -/
def NewLots (H0 H : Hp) (p : Addr) (qs : List Addr) (ls : List (List Nat)) : Prop := Paired (fun q l => H0 q = none ∧ q ≠ p ∧ H q = some (.lst ((natsL l).map V.int))) qs ls
def spParts (K : PySem.W.Frag) : Sp := fun vs H Q _ => ∃ (hv cv : V) (rooms : Nat) (ds : List (Nat × Nat)) (cs : List Int), vs = [hv, cv] ∧ Dp K H hv (houseD rooms ds) ∧ Dp K H cv (.list (cs.map .int)) ∧ rooms ≤ 50 ∧ cs.length = ds.length ∧ ds.length ≤ 500 ∧ Doors rooms ds ∧
  ∀ H' p qs, Same H H' → H p = none → H' p = some (.lst (qs.map V.ref)) → NewLots H H' p qs (partsL rooms (ds.zip cs)) → Q (.ref p) H'
def spMeant (K : PySem.W.Frag) : Sp := fun vs H Q _ => ∃ (dv cv : V) (rooms : Nat) (ds : List (Nat × Nat)) (cs : List Int), vs = [.int rooms, dv, cv] ∧ Dp K H dv (doorsD ds) ∧ Dp K H cv (.list (cs.map .int)) ∧ rooms ≤ 50 ∧ cs.length = ds.length ∧ ds.length ≤ 500 ∧ Doors rooms ds ∧
  ∀ H' p qs, Same H H' → H p = none → H' p = some (.lst (qs.map V.ref)) → NewLots H H' p qs (partsL rooms (ds.zip cs)) → Q (.ref p) H'
theorem newlots_dp {K : PySem.W.Frag} {H0 H : Hp} {p : Addr} : ∀ {qs : List Addr} {ls : List (List Nat)}, NewLots H0 H p qs ls → DpAll K H (qs.map V.ref) (ls.map lotD)
  | _, _, .nil => .nil
  | _, _, .cons h t => .cons (mk_ints h.2.2) (newlots_dp t)
theorem newlots_imp {H0 H0' H H' : Hp} {p p' : Addr} : ∀ {qs : List Addr} {ls : List (List Nat)}, NewLots H0 H p qs ls → (∀ q l, H0 q = none ∧ q ≠ p ∧ H q = some (.lst l) → H0' q = none ∧ q ≠ p' ∧ H' q = some (.lst l)) → NewLots H0' H' p' qs ls
  | _, _, .nil, _ => .nil
  | _, _, .cons h t, f => .cons (f _ _ h) (newlots_imp t f)
theorem newlots_snoc {H0 H : Hp} {p q : Addr} {l : List Nat} : ∀ {qs : List Addr} {ls : List (List Nat)}, NewLots H0 H p qs ls → H0 q = none ∧ q ≠ p ∧ H q = some (.lst ((natsL l).map V.int)) → NewLots H0 H p (qs ++ [q]) (ls ++ [l])
  | _, _, .nil, h => .cons h .nil
  | _, _, .cons h t, h' => .cons h (newlots_snoc t h')
end Bd
namespace Bd
open PySem PySem.Spec PyProof.Rows L2 HT
def topS (i : Nat) : Stmt := PySem.Challenge.pw_bothdoors_k04_parts_by_doors_passed.main.body.getD i (.Pass ⟨0, 0, 0, 0⟩)
abbrev sLawDraw : Stmt := topS 4
theorem scLawDraw : FnScope ["bag", "many", "left"] ["bag", "many"] (defScope sLawDraw) := ⟨rfl, rfl, rfl, by decide +kernel, rfl, by decide +kernel, by decide +kernel⟩
section
variable {P : Program} {w : World} {K : PySem.W.Frag} {mg : Str → Option Value} {base : Heap}
theorem ok_draw {f : Addr} {fd : FuncData} (F : Fun K "_law_draw" "_law_draw" sLawDraw f fd) (m_len : mg "len" = none) : FnOk P w K mg base CX0 1 f fd ["bag", "many"] spDraw := by
  have sc := scLawDraw
  refine F.ok scLawDraw (fun vs H Q E h => ?_) (fun cdv A outer s H vs Q E hr h => ?_)
  · obtain ⟨a, c, m, rfl, _⟩ := h
    rfl
  · obtain ⟨a, c, m, rfl, hB, hm0, hm1, q⟩ := h
    have hu := hu_of hr
    refine ⟨_, (pss_cons (ps_while PassesOwn.never (PW.pt (pw_and (pt_cmpR op_lt (pe_ix ix_list (pv 0) pe_int (fun _ _ => rfl)) (pe_callB call_len_seq (by rfl) m_len PySem.boot_len (pa_cons (pe_ix ix_list (pv 0) pe_int (fun _ _ => rfl)) pa_nil)) (nomark _)) (pw_and1 (pt_cmpR op_eq (pe_ix ix_list (pe_ix ix_list (pv 0) pe_int (fun _ _ => rfl)) (pe_ix ix_list (pv 0) pe_int (fun _ _ => rfl)) (fun _ _ => rfl)) pe_int (nomark _)))))
    (pss_one (ps_asg (pe_op op_add (pe_ix ix_list (pv 0) pe_int (fun _ _ => rfl)) pe_int) (pg_sub (pv 0) pe_int set_list))))
  (pss_cons (ps_if (pt_cmpR op_lt (pe_ix ix_list (pv 0) pe_int (fun _ _ => rfl)) (pe_callB call_len_seq (by rfl) m_len PySem.boot_len (pa_cons (pe_ix ix_list (pv 0) pe_int (fun _ _ => rfl)) pa_nil)) (nomark _))
    (pss_cons (ps_set (i := 2) sc.nd rfl (.inl rfl) (pe_ix ix_list (pe_ix ix_list (pv 0) pe_int (fun _ _ => rfl)) (pe_ix ix_list (pv 0) pe_int (fun _ _ => rfl)) (fun _ _ => rfl)))
  (pss_cons (ps_asg (pe_op op_fdivW (pv 2) (pv 1)) (pg_sub (pe_ix ix_list (pv 0) pe_int (fun _ _ => rfl)) (pe_ix ix_list (pv 0) pe_int (fun _ _ => rfl)) set_list))
  (pss_one (ps_ret (pe_op op_mod (pv 2) (pv 1))))))
    pss_nil)
  (pss_cons (ps_asg (pe_op op_add (pe_ix ix_list (pv 0) pe_int (fun _ _ => rfl)) pe_int) (pg_sub (pv 0) pe_int set_list))
  (pss_cons (ps_asg (pe_op op_mod (pe_op op_add (pe_op op_add (pe_op op_add (pe_op op_pow (pe_ix ix_list (pv 0) pe_int (fun _ _ => rfl)) pe_int) (pe_op op_mul pe_int (pe_ix ix_list (pv 0) pe_int (fun _ _ => rfl)))) (pe_op op_mul pe_int (pe_ix ix_list (pv 0) pe_int (fun _ _ => rfl)))) pe_int) (pe_op op_sub (pe_op op_pow pe_int pe_int) pe_int)) (pg_sub (pv 0) pe_int set_list))
  (pss_one (ps_ret (pe_op op_mod (pe_op op_fdiv (pe_ix ix_list (pv 0) pe_int (fun _ _ => rfl)) pe_int) (pv 1)))))))), ?_⟩
    obtain ⟨⟨ls, i0, s0, t0, hA, hC, hi0, hls, hs0, hs1⟩, hne⟩ := hB
    refine ⟨fun n σ H' => ∃ i : Int, σ = [some (.ref a), some (.int m), none] ∧ n = (ls.length - i).toNat ∧ 0 ≤ i ∧ H' a = some (.lst (bagL c i s0 t0)) ∧ H' c = some (.lst (ls.map V.int)) ∧ Kp [a, c] H H',
      ⟨_, i0, rfl, rfl, hi0, hA, hC, Kp.refl⟩, ?_⟩
    rintro n σ H1 ⟨i, rfl, rfl, hi, hA, hC, k1⟩
    -- bag[1] < len(bag[0])
    have sA : SqL K H1 a (bagL c i s0 t0) := .inl (.inl hA)
    have sC : SqL K H1 c (ls.map V.int) := .inl (.inl hC)
    refine ⟨_, rfl, _, _, _, _, rfl, rfl, sA, rfl, _, rfl, _, _, _, _, rfl, rfl, sA, rfl, _, _, rfl, .inl sC, _, _, rfl, rfl, _, rfl, ite2 (fun e => ?_) (fun e => ?_)⟩
    · -- bag[0][bag[1]] == 0
      rw [List.length_map] at e
      have hi2 : i < ls.length := of_decide_eq_true e
      have hj : i.toNat < ls.length := by omega
      obtain ⟨j, rfl⟩ : ∃ j : Nat, i = (j : Int) := ⟨i.toNat, by omega⟩
      have hj : j < ls.length := by omega
      have g : (ls.map V.int)[j]? = some (.int ls[j]) := by rw [List.getElem?_map, List.getElem?_eq_getElem hj]; rfl
      refine ⟨_, rfl, _, _, _, _, rfl, rfl, sA, rfl, _, rfl, _, _, _, _, rfl, rfl, sA, rfl, _, _, _, _, rfl, rfl, sC, atI_nat g, rfl, _, rfl, ite2 (fun e2 => ?_) (fun e2 => ?_)⟩
      · -- bag[1] = bag[1] + 1
        refine ⟨fun σ' H' => ∃ i : Int, σ' = [some (.ref a), some (.int m), none] ∧ (ls.length - i).toNat < (ls.length - (j : Int)).toNat ∧ 0 ≤ i ∧ H' a = some (.lst (bagL c i s0 t0)) ∧ H' c = some (.lst (ls.map V.int)) ∧ Kp [a, c] H H', fun σ' H' hN => ?_, ?_⟩
        · obtain ⟨i, h1, h2, h3⟩ := hN
          exact ⟨_, h2, i, h1, rfl, h3⟩
        · refine ⟨_, rfl, _, _, _, _, rfl, rfl, sA, rfl, _, _, rfl, rfl, _, rfl, _, _, _, 1, rfl, rfl, hA, rfl, ?_⟩
          exact ⟨_, rfl, by omega, by omega, upd_same, by rw [upd_ne (Ne.symm hne)]; exact hC, k1.wr (by simp)⟩
      · -- behind the loop, an item there
        refine ⟨_, rfl, _, _, _, _, rfl, rfl, sA, rfl, _, rfl, _, _, _, _, rfl, rfl, sA, rfl, _, _, rfl, .inl sC, _, _, rfl, rfl, _, rfl, ifT (by rw [List.length_map]; exact e) ?_⟩
        refine ⟨_, rfl, _, _, _, _, rfl, rfl, sA, rfl, _, rfl, _, _, _, _, rfl, rfl, sA, rfl, _, _, _, _, rfl, rfl, sC, atI_nat g, ?_⟩
        refine ⟨_, rfl, _, rfl, _, _, rfl, rfl, wide_div hm0 (b := 1000) (by omega) (by decide) (by decide), ?_⟩
        refine ⟨_, rfl, _, _, _, _, rfl, rfl, sA, rfl, _, rfl, _, _, _, _, rfl, rfl, sA, rfl, _, _, _, j, rfl, rfl, hC, ?_, ?_⟩
        · unfold ixN
          rw [List.length_map, if_pos (by omega), if_pos (by omega)]
          simp
        · refine ⟨_, rfl, _, rfl, _, _, rfl, rfl, hm0, ?_⟩
          refine q _ _ (Int.emod_nonneg _ (by omega)) (Int.emod_lt_of_pos _ hm0) ⟨⟨ls.set j (ls[j] / m), _, s0, t0, ?_, ?_, hi, ?_, hs0, hs1⟩, hne⟩ (k1.wr (by simp))
          · rw [upd_ne hne]; exact hA
          · rw [upd_same, List.map_set]
          · rw [List.length_set]; exact hls
    · -- behind the loop, none left
      refine ⟨_, rfl, _, _, _, _, rfl, rfl, sA, rfl, _, rfl, _, _, _, _, rfl, rfl, sA, rfl, _, _, rfl, .inl sC, _, _, rfl, rfl, _, rfl, ifF e ?_⟩
      -- bag[3] = bag[3] + 1
      refine ⟨_, rfl, _, _, _, _, rfl, rfl, sA, rfl, _, _, rfl, rfl, _, rfl, _, _, _, 3, rfl, rfl, hA, rfl, ?_⟩
      have sA2 : SqL K (upd H1 a (.lst (bagL c i s0 (t0 + 1)))) a (bagL c i s0 (t0 + 1)) := .inl (.inl upd_same)
      -- bag[2] = (bag[2] ** 3 + 48271 * bag[2] + 2039 * bag[3] + 7) % (2 ** 61 - 1)
      refine ⟨_, rfl, _, _, _, _, rfl, rfl, sA2, rfl, _, _, rfl, rfl, ⟨by decide, by decide, by omega⟩, _, rfl, _, _, _, _, rfl, rfl, sA2, rfl, _, _, rfl, rfl, .inl ⟨by decide, by decide⟩, _, _, rfl, rfl, _, rfl, _, _, _, _, rfl, rfl, sA2, rfl, _, _, rfl, rfl, .inl ⟨by decide, by decide⟩, _, _, rfl, rfl, _, _, rfl, rfl,
        _, _, rfl, rfl, ⟨by decide, by decide, by decide⟩, _, _, rfl, rfl, _, _, rfl, rfl, (by show (0 : Int) < 2 ^ 61 - 1; decide), _, rfl, _, _, _, 2, rfl, rfl, upd_same, rfl, ?_⟩
      rw [upd_upd]
      have hz0 : 0 ≤ ((s0 ^ Int.toNat 3 + 48271 * s0 + 2039 * (t0 + 1) + 7) % (2 ^ Int.toNat 61 - 1)) := Int.emod_nonneg _ (by decide)
      have hz1 : ((s0 ^ Int.toNat 3 + 48271 * s0 + 2039 * (t0 + 1) + 7) % (2 ^ Int.toNat 61 - 1)) < 2 ^ 63 := Int.lt_of_lt_of_le (Int.emod_lt_of_pos _ (by decide)) (by decide)
      have sA3 : SqL K (upd H1 a (.lst (bagL c i ((s0 ^ Int.toNat 3 + 48271 * s0 + 2039 * (t0 + 1) + 7) % (2 ^ Int.toNat 61 - 1)) (t0 + 1)))) a (bagL c i ((s0 ^ Int.toNat 3 + 48271 * s0 + 2039 * (t0 + 1) + 7) % (2 ^ Int.toNat 61 - 1)) (t0 + 1)) := .inl (.inl upd_same)
      refine ⟨_, rfl, _, _, _, _, rfl, rfl, sA3, rfl, _, _, rfl, rfl, ⟨by decide, by decide⟩, _, rfl, _, _, rfl, rfl, hm0, ?_⟩
      refine q _ _ (Int.emod_nonneg _ (by omega)) (Int.emod_lt_of_pos _ hm0) ⟨⟨ls, i, ((s0 ^ Int.toNat 3 + 48271 * s0 + 2039 * (t0 + 1) + 7) % (2 ^ Int.toNat 61 - 1)), t0 + 1, upd_same, ?_, hi, hls, hz0, hz1⟩, hne⟩ (k1.wr (by simp))
      rw [upd_ne (Ne.symm hne)]; exact hC
end
end Bd
namespace Bd
open PySem PySem.Spec PyProof.Rows L2 HT
abbrev sLawBag : Stmt := topS 3
theorem scLawBag : FnScope ["script", "seed", "cell"] ["script"] (defScope sLawBag) := ⟨rfl, rfl, rfl, by decide +kernel, rfl, by decide +kernel, by decide +kernel⟩
section
variable {P : Program} {w : World} {K : PySem.W.Frag} {mg : Str → Option Value} {base : Heap}
theorem ok_bag {f : Addr} {fd : FuncData} (F : Fun K "_law_bag" "_law_bag" sLawBag f fd) (m_abs : mg "abs" = none) : FnOk P w K mg base CX0 1 f fd ["script"] (spBag K) := by
  have sc := scLawBag
  refine F.ok scLawBag (fun vs H Q E h => ?_) (fun cdv A outer s H vs Q E hr h => ?_)
  · obtain ⟨a, ns, rfl, _⟩ := h
    rfl
  · obtain ⟨a, ns, rfl, hS, hlen, q⟩ := h
    have hu := hu_of hr
    refine ⟨_, (pss_cons (ps_set (i := 1) sc.nd rfl (.inl rfl) pe_int)
  (pss_cons (ps_for PassesOwn.never rfl (pi_list (pe_slice sl_list (pv 0) po_none (po_some pe_int))) (pg_name (i := 2) sc.nd rfl (.inl rfl))
    (pss_one (ps_set (i := 1) sc.nd rfl (.inl rfl) (pe_op op_mod (pe_op op_add (pe_op op_add (pe_op op_mul (pv 1) pe_int) (pe_op op_mod (pv 2) pe_int)) pe_int) (pe_op op_sub (pe_op op_pow pe_int pe_int) pe_int)))))
  (pss_one (ps_ret (pe_lst (pa_cons (pe_lc (own := [("cell", 2)]) (g := gName 2) (tt := tYes) (by rfl) sc.nd  (pi_list (pe_slice sl_list (pv 0) po_none (po_some pe_int))) (blkOk_by (own := [("cell", 2)]) (N := ["script", "seed", "cell"]) (sc := defScope sLawBag) (by decide +kernel)) (fun _ _ _ _ _ => (pg_name (i := 2) sc.nd rfl (.inl rfl))) (fun _ _ _ _ _ => pts_nil) (fun _ _ _ _ _ => (pe_op op_mod (pe_callB call_abs (by rfl) m_abs (by decide +kernel) (pa_cons (pv 2) pa_nil)) (pe_op op_powW (pe_op op_pow pe_int pe_int) pe_int)))) (pa_cons pe_int (pa_cons (pv 1) (pa_cons pe_int pa_nil))))))))), ?_⟩
    refine ⟨_, rfl, 60, rfl, a, ns.map V.int, rfl, hS, fun D nD => ?_⟩
    obtain ⟨ms, em, lm⟩ := cut_ints ns none (some 60)
    rw [em]
    have k0 : Same H (upd H D (.lst (ms.map V.int))) := same_new nD
    refine ⟨D, rfl, ⟨_, .inl (.inl upd_same)⟩, for_list (K := K) (a := D) (xs := ms.map V.int) (fun i σ H2 => ∃ (s0 : Int) (v : Option V), σ = [some (.ref a), some (.int s0), v] ∧ 0 ≤ s0 ∧ s0 < 2 ^ 63 ∧ H2 = upd H D (.lst (ms.map V.int)))
      ⟨29, none, rfl, by decide, by decide, rfl⟩ (fun i σ H2 _ ⟨_, _, _, _, _, e⟩ => by rw [e]; exact .inl (.inl upd_same)) ?_ ?_⟩
    · rintro i x σ H2 hx ⟨s0, v, rfl, h0, h1, rfl⟩
      obtain ⟨z, rfl, hz⟩ := ints_at hx
      refine ⟨_, rfl, _, _, rfl, rfl, .inl ⟨by omega, by omega⟩, _, rfl, _, _, rfl, rfl, (by show (0 : Int) < 2305843009213693921; decide), _, _, rfl, rfl, _, _, rfl, rfl, _, _, rfl, rfl, ⟨by decide, by decide, by decide⟩, _, _, rfl, rfl, _, _, rfl, rfl, (by show (0 : Int) < 2 ^ 61 - 1; decide), ?_⟩
      exact ⟨_, _, rfl, Int.emod_nonneg _ (by decide), Int.lt_of_lt_of_le (Int.emod_lt_of_pos _ (by decide)) (by decide), rfl⟩
    · rintro σ H2 ⟨s0, v, rfl, h0, h1, rfl⟩
      refine ⟨_, rfl, 60, rfl, a, ns.map V.int, rfl, k0.seq hS, fun D2 nD2 => ?_⟩
      rw [em]
      refine ⟨D2, rfl, ⟨_, .inl (.inl upd_same)⟩, fun L nL => ?_⟩
      refine lc_list (K := K) (a := D2) (xs := ms.map V.int) (fun i H3 => ∃ ys : List Int, ys.length = i ∧ H3 = upd (upd (upd H D (.lst (ms.map V.int))) D2 (.lst (ms.map V.int))) L (.lst (ys.map V.int))) ⟨[], rfl, rfl⟩ ?_ ?_ ?_
      · rintro i H3 _ ⟨ys, _, rfl⟩
        exact (same_new nL).seq (.inl (.inl upd_same))
      · rintro i x H3 hx ⟨ys, ly, rfl⟩
        obtain ⟨z, rfl, hz⟩ := ints_at hx
        have hi := lt_of_at hz
        refine ⟨rfl, _, rfl, _, rfl, _, _, rfl, rfl, ⟨by decide, by decide, by decide⟩, _, _, rfl, rfl, ⟨by decide, (by show (Builtin.Int.intBits (10 ^ Int.toNat 60) : Int) * 10 ≤ 2 ^ 27; decide +kernel)⟩, _, _, rfl, rfl, (by show (0 : Int) < (10 ^ Int.toNat 60) ^ Int.toNat 10; decide +kernel), ys.map V.int, upd_same, ?_, ?_⟩
        · rw [List.length_map]
          exact small1000 (by omega)
        · refine ⟨ys ++ [(if z < 0 then -z else z) % (10 ^ Int.toNat 60) ^ Int.toNat 10], by rw [List.length_append, ly]; rfl, ?_⟩
          rw [upd_upd, List.map_append]
          rfl
      · rintro H3 ⟨ys, ly, rfl⟩
        rw [List.length_map] at ly
        refine ⟨_, rfl, (by show 4 ≤ sizeLine; decide), fun p np => ?_⟩
        have hpL : p ≠ L := fun e => by rw [e, upd_same] at np; cases np
        have k3 : Same H (upd (upd (upd H D (.lst (ms.map V.int))) D2 (.lst (ms.map V.int))) L (.lst (ys.map V.int))) := (k0.trans (same_new nD2)).trans (same_new nL)
        refine q p L _ (k3.trans (same_new np)) (k3.free np) ((k0.trans (same_new nD2)).free nL) ⟨⟨ys, 0, s0, 0, upd_same, by rw [upd_ne hpL.symm, upd_same], by decide, by omega, h0, h1⟩, hpL⟩
end
end Bd
namespace Bd
open PySem PySem.Spec PyProof.Rows L2 HT
abbrev sLawGround : Stmt := topS 5
theorem scLawGround : FnScope ["bag", "most", "wide", "rooms", "doors", "k", "one", "pair"] ["bag", "most", "wide"] (defScope sLawGround) := ⟨rfl, rfl, rfl, by decide +kernel, rfl, by decide +kernel, by decide +kernel⟩
section
variable {P : Program} {w : World} {K : PySem.W.Frag} {mg : Str → Option Value} {base : Heap}
theorem ok_ground {f : Addr} {fd : FuncData} (F : Fun K "_law_ground" "_law_ground" sLawGround f fd) (cal_law_draw : Ca P w K mg base 1 "_law_draw" spDraw) (m_len : mg "len" = none) (m_range : mg "range" = none) (m_int : mg "int" = none) :
    FnOk P w K mg base CX0 2 f fd ["bag", "most", "wide"] (spGround K) := by
  have sc := scLawGround
  refine F.ok scLawGround (fun vs H Q E h => ?_) (fun cdv A outer s H vs Q E hr h => ?_)
  · obtain ⟨a, c, m, w, rfl, _⟩ := h
    rfl
  · obtain ⟨a, c, most, wide, rfl, hB, hm0, hm1, hw1, q⟩ := h
    have hu := hu_of hr
    refine ⟨_, (pss_cons (ps_set (i := 3) sc.nd rfl (.inl rfl) (pe_op op_add pe_int (pe_u cal_law_draw hr (by first | decide | exact Nat.le_refl _ | omega) (by rfl) (pa_cons (pv 0) (pa_cons (pe_ix ix_list (pe_lst (pa_cons pe_int (pa_cons (pv 1) pa_nil))) (pe_u cal_law_draw hr (by first | decide | exact Nat.le_refl _ | omega) (by rfl) (pa_cons (pv 0) (pa_cons pe_int pa_nil))) (fun _ _ => rfl)) pa_nil)))))
  (pss_cons (ps_set (i := 4) sc.nd rfl (.inl rfl) (pe_lst pa_nil))
  (pss_cons (ps_for PassesOwn.never rfl (pi_range1 (by rfl) m_range (pa_cons (pe_op op_mul (pe_ix ix_list (pe_lst (pa_cons (pe_u cal_law_draw hr (by first | decide | exact Nat.le_refl _ | omega) (by rfl) (pa_cons (pv 0) (pa_cons pe_int pa_nil))) (pa_cons (pe_u cal_law_draw hr (by first | decide | exact Nat.le_refl _ | omega) (by rfl) (pa_cons (pv 0) (pa_cons (pe_op op_add (pv 2) pe_int) pa_nil))) pa_nil))) (pe_u cal_law_draw hr (by first | decide | exact Nat.le_refl _ | omega) (by rfl) (pa_cons (pv 0) (pa_cons pe_int pa_nil))) (fun _ _ => rfl)) (pe_callTy call_int1 (by rfl) m_int (by decide +kernel) (pa_cons (pe_cmpR op_gt (pv 3) pe_int (nomark _)) pa_nil))) pa_nil)) (pg_name (i := 5) sc.nd rfl (.inl rfl))
    (pss_cons (ps_set (i := 6) sc.nd rfl (.inl rfl) (pe_u cal_law_draw hr (by first | decide | exact Nat.le_refl _ | omega) (by rfl) (pa_cons (pv 0) (pa_cons (pv 3) pa_nil))))
  (pss_cons (ps_set (i := 7) sc.nd rfl (.inl rfl) (pe_tup (pa_cons (pv 6) (pa_cons (pe_op op_mod (pe_op op_add (pe_op op_add (pv 6) pe_int) (pe_u cal_law_draw hr (by first | decide | exact Nat.le_refl _ | omega) (by rfl) (pa_cons (pv 0) (pa_cons (pe_op op_sub (pv 3) pe_int) pa_nil)))) (pv 3)) pa_nil))))
  (pss_mid (ps_if (PW.pt (pw_and (pt_cmpR (op_neD hr.units) (pv 4) (pe_lst pa_nil) (nomark _)) (pw_and1 (pt_cmpR op_eq (pe_u cal_law_draw hr (by first | decide | exact Nat.le_refl _ | omega) (by rfl) (pa_cons (pv 0) (pa_cons pe_int pa_nil))) pe_int (nomark _)))))
    (pss_one (ps_set (i := 7) sc.nd rfl (.inl rfl) (pe_stepT (pe_ix ix_list (pv 4) (pe_u cal_law_draw hr (by first | decide | exact Nat.le_refl _ | omega) (by rfl) (pa_cons (pv 0) (pa_cons (pe_callB call_len_seq (by rfl) m_len PySem.boot_len (pa_cons (pv 4) pa_nil)) pa_nil))) (fun _ _ => rfl)) (pe_un un_neg pe_int))))
    pss_nil)
  (pss_one (ps_expr (pe_bm PySem.F.plainAttrs_list PySem.F.slot_list_append PySem.F.type_list_append mt_append (pv 4) (pa_cons (pv 7) pa_nil))))))))
  (pss_one (ps_ret (pe_tup (pa_cons (pv 3) (pa_cons (pv 4) pa_nil)))))))), ?_⟩
    -- rooms = 1 + draw(bag, [4, most][draw(bag, 2)])
    refine ⟨_, rfl, _, rfl, (by show 2 ≤ sizeLine; decide), fun p1 n1 => ?_⟩
    refine ⟨_, rfl, a, c, 2, rfl, hB.new n1, by decide, by decide, fun r1 H1 h1a h1b B1 k1 => ?_⟩
    obtain ⟨v1, e1, f1⟩ := atI_two (x := V.int 4) (y := V.int most) h1a h1b
    obtain ⟨m1, rfl, m1a, m1b, m1c⟩ : ∃ m : Nat, v1 = .int (m : Int) ∧ 0 < m ∧ m ≤ max 4 most ∧ m ≤ 10 := by
      rcases f1 with rfl | rfl
      · exact ⟨4, rfl, by omega, by omega, by omega⟩
      · exact ⟨most, rfl, by omega, by omega, by omega⟩
    have s1 : SqL K H1 p1 [V.int 4, V.int most] := .inl (.inl (k1.at upd_same (hB.out n1)))
    refine ⟨_, _, _, _, rfl, rfl, s1, e1, ?_⟩
    refine ⟨a, c, _, rfl, B1, by omega, by omega, fun r2 H2 h2a h2b B2 k2 => ?_⟩
    refine ⟨_, _, rfl, rfl, ?_⟩
    obtain ⟨rooms, er, r0, r1'⟩ : ∃ rooms : Nat, 1 + r2 = (rooms : Int) ∧ 0 < rooms ∧ rooms ≤ m1 := ⟨(1 + r2).toNat, by omega, by omega, by omega⟩
    show gName 3 (V.int (1 + r2)) _ _ _
    rw [er]
    -- doors = []
    refine ⟨Nat.zero_le _, fun D nD => ?_⟩
    have oD := B2.out nD
    have k02 : Kp [a, c] H H2 := ((Kp.refl.new (hid_none n1)).trans k1).trans k2
    have k03 : Kp [a, c] H (upd H2 D (.lst [])) := k02.new (k02.free nD)
    -- range([draw(bag, 6), draw(bag, wide + 1)][draw(bag, 2)] * int(rooms > 1))
    refine ⟨_, rfl, a, c, 6, rfl, B2.new nD, by decide, by decide, fun r3 H3 h3a h3b B3 k3 => ?_⟩
    refine ⟨_, rfl, _, rfl, _, _, rfl, rfl, a, c, _, rfl, B3, by omega, by omega, fun r4 H4 h4a h4b B4 k4 => ?_⟩
    refine ⟨(by show 2 ≤ sizeLine; decide), fun p2 n2 => ?_⟩
    refine ⟨_, rfl, a, c, 2, rfl, B4.new n2, by decide, by decide, fun r5 H5 h5a h5b B5 k5 => ?_⟩
    obtain ⟨v5, e5, f5⟩ := atI_two (x := V.int r3) (y := V.int r4) h5a h5b
    obtain ⟨m5, rfl, m5b⟩ : ∃ m : Nat, v5 = .int (m : Int) ∧ m ≤ max 5 wide := by
      rcases f5 with rfl | rfl
      · exact ⟨r3.toNat, by rw [Int.toNat_of_nonneg h3a], by omega⟩
      · exact ⟨r4.toNat, by rw [Int.toNat_of_nonneg h4a], by omega⟩
    have s5 : SqL K H5 p2 [V.int r3, V.int r4] := .inl (.inl (k5.at upd_same (B4.out n2)))
    have m5c : m5 ≤ 24 := by omega
    refine ⟨_, _, _, _, rfl, rfl, s5, e5, ?_⟩
    refine ⟨_, rfl, _, _, rfl, rfl, .inr ⟨_, rfl, ?_⟩⟩
    have D5 : H5 D = some (.lst []) := k5.at (by rw [upd_ne (ne_new (k4.at (k3.at upd_same oD) oD) n2).symm]; exact k4.at (k3.at upd_same oD) oD) oD
    have k05 : Kp [a, c] H H5 := (((k03.trans k3).trans k4).new (((k03.trans k3).trans k4).free n2)).trans k5
    have nDH : hid [a, c] H D = none := k02.free nD
    -- the number of turns
    obtain ⟨n, en, hn1, hn2⟩ : ∃ n : Nat, (m5 : Int) * (if decide ((1 : Int) < (rooms : Int)) = true then 1 else 0) = (n : Int) ∧ n ≤ m5 ∧ (0 < n → 1 < rooms) := by
      by_cases h : (1 : Int) < (rooms : Int)
      · exact ⟨m5, by rw [if_pos (decide_eq_true h), Int.mul_one], Nat.le_refl _, fun _ => by omega⟩
      · exact ⟨0, by rw [if_neg (by rw [decide_eq_false h]; decide), Int.mul_zero]; rfl, Nat.zero_le _, fun h => absurd h (by decide)⟩
    refine ⟨_, _, rfl, rfl, .inl ⟨by omega, by omega⟩, ?_⟩
    refine ⟨(n : Int), congrArg (fun z => [V.int z]) en, by omega, by omega, for_range (lo := 0) (n := n) (fun i σ H6 => ∃ (ds : List (Nat × Nat)) (vs : List V) (x y z : Option V), σ = [some (.ref a), some (.int most), some (.int wide), some (.int rooms), some (.ref D), x, y, z] ∧ H6 D = some (.lst vs) ∧ DpAll K (hid [a, c, D] H6) vs (ds.map pairD) ∧ ds.length = i ∧ Doors rooms ds ∧ Bag H6 a c ∧ Kp [a, c] H H6)
      ⟨[], [], none, none, none, rfl, D5, .nil, rfl, (fun d hd => by cases hd), B5, k05⟩ ?_ ?_⟩
    · rintro i σ H6 hi ⟨ds, vs, x, y, z, rfl, hD, hds, hlen, hok, B6, k6⟩
      have r1 : 1 < rooms := hn2 (by omega)
      have sub : ∀ b ∈ [a, c], b ∈ [a, c, D] := fun b hb => by simp only [List.mem_cons, List.not_mem_nil, or_false] at hb ⊢; rcases hb with z | z <;> simp [z]
      have d6 : Dp K (hid [a, c] H6) (.ref D) (doorsD ds) := .lst (.inl (.inl (hid_of hD oD))) (dps_same (hid_sub sub) hds)
      -- one = draw(bag, rooms)
      refine ⟨_, rfl, _, rfl, a, c, _, rfl, B6, by omega, by omega, fun r7 H7 h7a h7b B7 k7 => ?_⟩
      -- pair = (one, (one + 1 + draw(bag, rooms - 1)) % rooms)
      refine ⟨_, rfl, _, rfl, _, _, rfl, rfl, _, rfl, _, rfl, _, _, rfl, rfl, a, c, _, rfl, B7, by omega, by omega, fun r8 H8 h8a h8b B8 k8 => ?_⟩
      refine ⟨_, _, rfl, rfl, _, rfl, _, _, rfl, rfl, (by show (0 : Int) < rooms; omega), (by show 2 ≤ sizeLine; decide), fun p3 n3 => ?_⟩
      obtain ⟨x1, rfl⟩ : ∃ x : Nat, r7 = (x : Int) := ⟨r7.toNat, by omega⟩
      obtain ⟨x8, rfl⟩ : ∃ x : Nat, r8 = (x : Int) := ⟨r8.toNat, by omega⟩
      have ex : ((x1 : Int) + 1 + (x8 : Int)) % (rooms : Int) = (((x1 + 1 + x8) % rooms : Nat) : Int) := rfl
      have ok1 : x1 < rooms ∧ (x1 + 1 + x8) % rooms < rooms ∧ x1 ≠ (x1 + 1 + x8) % rooms := by
        refine ⟨by omega, Nat.mod_lt _ (by omega), fun z => ?_⟩
        by_cases hs : x1 + 1 + x8 < rooms
        · rw [Nat.mod_eq_of_lt hs] at z; omega
        · rw [Nat.mod_eq_sub_mod (by omega), Nat.mod_eq_of_lt (by omega)] at z; omega
      have k68 : Kp [a, c] H6 H8 := k7.trans k8
      have D8 : H8 D = some (.lst vs) := k68.at hD oD
      have o3 : p3 ≠ D := ne_new D8 n3
      have k9 : Kp [a, c] H6 (upd H8 p3 (.tup [.int (x1 : Int), .int (((x1 : Int) + 1 + (x8 : Int)) % (rooms : Int))])) := k68.new (k68.free n3)
      have hds9 := dps_same (k9.mono sub) hds
      have D9 : (upd H8 p3 (.tup [.int (x1 : Int), .int (((x1 : Int) + 1 + (x8 : Int)) % (rooms : Int))])) D = some (.lst vs) := by rw [upd_ne o3.symm]; exact D8
      have B9 := B8.new (o := .tup [.int (x1 : Int), .int (((x1 : Int) + 1 + (x8 : Int)) % (rooms : Int))]) n3
      have p9 : Dp K (hid [a, c, D] (upd H8 p3 (.tup [.int (x1 : Int), .int (((x1 : Int) + 1 + (x8 : Int)) % (rooms : Int))]))) (.ref p3) (pairD (x1, (x1 + 1 + x8) % rooms)) := by
        refine mk_pair (hid_of upd_same ?_) (.int _) ?_
        · intro z
          simp only [List.mem_cons, List.not_mem_nil, or_false] at z
          have := B8.out n3
          rcases z with z | z | z
          · exact this (by simp [z])
          · exact this (by simp [z])
          · exact o3 z
        · rw [ex]; exact .int _
      have k69 : Kp [a, c] H (upd H8 p3 (.tup [.int (x1 : Int), .int (((x1 : Int) + 1 + (x8 : Int)) % (rooms : Int))])) := k6.trans k9
      generalize hG : upd H8 p3 (.tup [.int (x1 : Int), .int (((x1 : Int) + 1 + (x8 : Int)) % (rooms : Int))]) = H9 at hds9 D9 B9 p9 k69 k9
      refine ⟨fun σ' H' => ∃ (p : Addr) (d : Nat × Nat), σ' = [some (.ref a), some (.int most), some (.int wide), some (.int rooms), some (.ref D), some (.int (0 + (i : Int))), some (.int (x1 : Int)), some (.ref p)] ∧ H' D = some (.lst vs) ∧
        DpAll K (hid [a, c, D] H') vs (ds.map pairD) ∧ Dp K (hid [a, c, D] H') (.ref p) (pairD d) ∧ (d.1 < rooms ∧ d.2 < rooms ∧ d.1 ≠ d.2) ∧ Bag H' a c ∧ Kp [a, c] H H', ?_, ?_⟩
      · -- if doors != [] and draw(bag, 5) == 0
        have s9 : Dp K H9 (.ref D) (doorsD ds) := .lst (.inl (.inl D9)) (dps_same hid_same hds9)
        refine ⟨_, rfl, Nat.zero_le _, fun q1 nq1 => ⟨doorsD ds, .list [], dp_same (same_new nq1) s9, .lst (.inl (.inl upd_same)) .nil, (shp_doors (n := 0) ds).ok (by decide), rfl, _, rfl, ite2 (fun e => ?_) (fun e => ?_)⟩⟩
        · have hne : ds ≠ [] := fun z => by
            rw [z] at e
            exact absurd e (by decide)
          have hpos : 0 < ds.length := List.length_pos_iff.mpr hne
          have hvl : vs.length = ds.length := by rw [dps_len hds, List.length_map]
          have nDq : D ≠ q1 := (ne_new D9 nq1).symm
          refine ⟨_, rfl, a, c, 5, rfl, B9.new nq1, by decide, by decide, fun r10 H10 h10a h10b B10 k10 => ⟨rfl, _, rfl, ite2 (fun e2 => ?_) (fun e2 => ?_)⟩⟩
          all_goals
            have k11 : Kp [a, c] H9 H10 := (Kp.refl.new (hid_none nq1)).trans k10
            have D10 : H10 D = some (.lst vs) := k11.at D9 oD
            have hds10 := dps_same (k11.mono sub) hds9
          · refine ⟨_, rfl, _, rfl, _, rfl, _, _, rfl, .inl (.inl (.inl D10)), a, c, _, rfl, B10, by omega, by omega, fun r11 H11 h11a h11b B11 k12 => ?_⟩
            obtain ⟨j, rfl⟩ : ∃ j : Nat, r11 = (j : Int) := ⟨r11.toNat, by omega⟩
            have hj : j < ds.length := by omega
            have D11 : H11 D = some (.lst vs) := k12.at D10 oD
            have hds11 := dps_same (k12.mono sub) hds10
            obtain ⟨v, ev, dv⟩ := dps_at hds11 (i := j) (d := pairD ds[j]) (by rw [List.getElem?_map, List.getElem?_eq_getElem hj]; rfl)
            obtain ⟨pa, xa, ya, rfl, sp, dx, dy⟩ := dp_pair dv
            obtain rfl := dp_int dx
            obtain rfl := dp_int dy
            have okj := hok ds[j] (List.getElem_mem hj)
            refine ⟨_, _, _, _, rfl, rfl, .inl (.inl D11), atI_nat ev, _, rfl, _, _, _, _, rfl, rfl, same_tup hid_same sp, .inr rfl, (fun z => absurd z (by decide)), fun _ p np => ?_⟩
            have ep : p ≠ D := ne_new D11 np
            have k13 : Kp [a, c] H9 (upd H11 p (.tup [.int (ds[j].2 : Int), .int (ds[j].1 : Int)])) := (k11.trans k12).new ((k11.trans k12).free np)
            refine ⟨p, (ds[j].2, ds[j].1), rfl, by rw [upd_ne ep.symm]; exact D11, dps_same (k13.mono sub) hds9, mk_pair (hid_of upd_same ?_) (.int _) (.int _), ⟨okj.2.1, okj.1, okj.2.2.symm⟩, B11.new np, k69.trans k13⟩
            intro z
            simp only [List.mem_cons, List.not_mem_nil, or_false] at z
            have := B11.out np
            rcases z with z | z | z
            · exact this (by simp [z])
            · exact this (by simp [z])
            · exact ep z
          · exact ⟨p3, _, rfl, D10, hds10, dp_same (k11.mono sub) p9, ok1, B10, k69.trans k11⟩
        · refine ifF (by decide) ?_
          have k11 : Kp [a, c] H9 (upd H9 q1 (.lst [])) := Kp.refl.new (hid_none nq1)
          exact ⟨p3, _, rfl, k11.at D9 oD, dps_same (k11.mono sub) hds9, dp_same (k11.mono sub) p9, ok1, B9.new nq1, k69.trans k11⟩
      · rintro σ' H' ⟨p, d, rfl, hD', hds', hp', hok', B', k'⟩
        have hvl : vs.length = ds.length := by rw [dps_len hds, List.length_map]
        refine ⟨_, rfl, .inl ⟨rfl, _, .inl (.inl hD')⟩, _, rfl, _, _, _, rfl, rfl, hD', small1000 (by omega), ?_⟩
        refine ⟨ds ++ [d], vs ++ [.ref p], _, _, _, rfl, upd_same, ?_, by rw [List.length_append, hlen]; rfl, ?_, B'.wr oD, k'.new nDH⟩
        · rw [List.map_append]
          have kk : Same (hid [a, c, D] H') (hid [a, c, D] (upd H' D (.lst (vs ++ [.ref p])))) := Kp.refl.wr (by simp)
          exact dps_app (dps_same kk hds') (.cons (dp_same kk hp') .nil)
        · intro x hx
          rcases List.mem_append.mp hx with hx | hx
          · exact hok x hx
          · rw [List.mem_singleton.mp hx]; exact hok'
    · rintro σ H6 ⟨ds, vs, x, y, z, rfl, hD, hds, hlen, hok, B6, k6⟩
      refine ⟨_, rfl, _, rfl, (by show 2 ≤ sizeLine; decide), fun p np => ?_⟩
      refine q _ _ rooms ds r0 (by omega) (by omega) hok (B6.new np) (k6.new (k6.free np)) (mk_pair (hid_of upd_same (B6.out np)) (.int _) ?_)
      refine .lst (.inl (.inl (hid_of (by rw [upd_ne (ne_new hD np).symm]; exact hD) oD))) (dps_same (fun b o e => ?_) hds)
      obtain ⟨e1, e2⟩ := of_hid e
      refine hid_of ?_ (fun z => e2 (by simp only [List.mem_cons, List.not_mem_nil, or_false] at z ⊢; rcases z with z | z <;> simp [z]))
      rw [upd_ne (ne_of_none e1 np)]
      exact e1
end
end Bd
namespace Bd
open PySem PySem.Spec PyProof.Rows L2 HT
abbrev sParts : Stmt := topS 1
theorem scParts : FnScope ["house", "counts", "rooms", "doors", "leaders", "a", "b", "count", "low", "high", "leader", "first", "room"] ["house", "counts"] (defScope sParts) := ⟨rfl, rfl, rfl, by decide +kernel, rfl, by decide +kernel, by decide +kernel⟩
section
variable {P : Program} {w : World} {K : PySem.W.Frag} {mg : Str → Option Value} {base : Heap}
theorem ok_parts {f : Addr} {fd : FuncData} (F : Fun K "parts" "parts" sParts f fd) (m_list : mg "list" = none) (m_range : mg "range" = none) (m_zip : mg "zip" = none) (m_sorted : mg "sorted" = none) (m_set : mg "set" = none) :
    FnOk P w K mg base CX0 1 f fd ["house", "counts"] (spParts K) := by
  have sc := scParts
  refine F.ok scParts (fun vs H Q E h => ?_) (fun cdv A outer s H vs Q E hr h => ?_)
  · obtain ⟨hv, cv, rooms, ds, cs, rfl, _⟩ := h
    rfl
  · obtain ⟨hv, cv, rooms, ds, cs, rfl, hh, hc, hro, hlc, hld, hok, q⟩ := h
    refine ⟨_, (pss_cons (ps_asg (pv 0) (pg_tup (by rfl) (pgs_cons (pg_name (i := 2) sc.nd rfl (.inr rfl)) (pgs_cons (pg_name (i := 3) sc.nd rfl (.inl rfl)) pgs_nil))))
  (pss_cons (ps_set (i := 4) sc.nd rfl (.inr rfl) (pe_listRg (by rfl) (by rfl) m_list (prg_1 (by rfl) m_range (pv 2))))
  (pss_cons (ps_for PassesOwn.never rfl (pi_zip (by rfl) m_zip (pa_cons (pv 3) (pa_cons (pv 1) pa_nil))) (pg_tup (by rfl) (pgs_cons (pg_tup (by rfl) (pgs_cons (pg_name (i := 5) sc.nd rfl (.inl rfl)) (pgs_cons (pg_name (i := 6) sc.nd rfl (.inl rfl)) pgs_nil))) (pgs_cons (pg_name (i := 7) sc.nd rfl (.inl rfl)) pgs_nil)))
    (pss_one (ps_if (pt_cmpR op_gt (pv 7) pe_int (nomark _))
    (pss_cons (ps_asg (pe_callB cr_sorted (by rfl) m_sorted (by decide +kernel) (pa_cons (pe_lst (pa_cons (pe_ix ix_list (pv 4) (pv 5) (fun _ _ => rfl)) (pa_cons (pe_ix ix_list (pv 4) (pv 6) (fun _ _ => rfl)) pa_nil))) pa_nil)) (pg_unl (by rfl) (pgs_cons (pg_name (i := 8) sc.nd rfl (.inr rfl)) (pgs_cons (pg_name (i := 9) sc.nd rfl (.inr rfl)) pgs_nil))))
  (pss_one (ps_set (i := 4) sc.nd rfl (.inr rfl) (pe_lc (own := [("leader", 10)]) (g := gName 10) (tt := tYes) (by rfl) sc.nd  (pi_list (pv 4)) (blkOk_by (own := [("leader", 10)]) (N := ["house", "counts", "rooms", "doors", "leaders", "a", "b", "count", "low", "high", "leader", "first", "room"]) (sc := defScope sParts) (by decide +kernel)) (fun _ _ _ _ _ => (pg_name (i := 10) sc.nd rfl (.inl rfl))) (fun _ _ _ _ _ => pts_nil) (fun _ _ _ _ _ => (pe_ifExp (pt_cmpR op_eq (pv 10) (pv 9) (nomark _)) (pv 8) (pv 10)))))))
    pss_nil)))
  (pss_one (ps_ret (pe_lc (own := [("first", 11)]) (g := gName 11) (tt := tYes) (by rfl) sc.nd  (pi_list (pe_callB (cr_sortedSet rfl) (by rfl) m_sorted (by decide +kernel) (pa_cons (pe_callTy (call_setL rfl) (by rfl) m_set (by decide +kernel) (pa_cons (pv 4) pa_nil)) pa_nil))) (blkOk_by (own := [("first", 11)]) (N := ["house", "counts", "rooms", "doors", "leaders", "a", "b", "count", "low", "high", "leader", "first", "room"]) (sc := defScope sParts) (by decide +kernel)) (fun _ _ _ _ _ => (pg_name (i := 11) sc.nd rfl (.inr rfl))) (fun _ _ _ _ _ => pts_nil) (fun _ _ _ _ _ => (pe_lc (own := [("room", 12)]) (g := gName 12)  (by rfl) sc.nd  (pi_range1 (by rfl) m_range (pa_cons (pv 2) pa_nil)) (blkOk_by (own := [("room", 12)]) (N := ["house", "counts", "rooms", "doors", "leaders", "a", "b", "count", "low", "high", "leader", "first", "room"]) (sc := { kind := PySem.ScopeKind.function, names := [ (PySem.Str.ofString ".0", PySem.NameKind.local), (PySem.Str.ofString "first", PySem.NameKind.cell), (PySem.Str.ofString "range", PySem.NameKind.globalImplicit), (PySem.Str.ofString "leaders", PySem.NameKind.cell), (PySem.Str.ofString "rooms", PySem.NameKind.cell)], isGenerator := false, isCoroutine := false, more := [] : PySem.Scope }) (by decide +kernel)) (fun _ _ _ _ _ => (pg_name (i := 12) sc.nd rfl (.inl rfl))) (fun _ _ _ _ _ => (pts_one (pt_cmpR op_eq (pe_ix (ixK (rIxL K) ix_list) (pv 4) (pv 12) (fun _ _ => rfl)) (pv 11) (nomark _)))) (fun _ _ _ _ _ => (pv 12)))))))))), ?_⟩
    obtain ⟨ah, ad, vs, rfl, t1, l1, a1⟩ := house_of hh
    obtain ⟨ac, rfl, lc⟩ := dp_ints hc
    have hvl : vs.length = ds.length := by rw [dps_len a1, List.length_map]
    have hzr := zip_rooms (cs := cs) hok
    -- rooms, doors = house; leaders = list(range(rooms))
    refine ⟨_, rfl, ah, _, rfl, t1, rfl, _, _, rfl, _, _, rfl, rfl, ?_⟩
    refine ⟨_, rfl, _, rfl, RgOk.of_le (by omega) (by omega) (by omega) (by omega), fun p0 np0 => ?_⟩
    rw [rgV_nats]
    have k0 : Same H (upd H p0 (.lst ((natsL (List.range rooms)).map V.int))) := same_new np0
    -- the leaders
    refine ⟨_, rfl, _, rfl, ad, ac, vs, cs.map V.int, rfl, k0.seq l1, k0.seq lc, RZ.for_zipL (K := K) (xs := vs) (ys := cs.map V.int) (by rw [List.length_map]; omega)
      (fun i σ H1 => ∃ l x1 x2 x3 x4 x5 x6 x7 x8, σ = [some (.ref ah), some (.ref ac), some (.int rooms), some (.ref ad), some (.ref l), x1, x2, x3, x4, x5, x6, x7, x8] ∧ Same H H1 ∧ H1 l = some (.lst ((natsL (leadL rooms ((ds.zip cs).take i))).map V.int)))
      ⟨p0, _, _, _, _, _, _, _, _, rfl, k0, by rw [upd_same, List.take_zero]; rfl⟩ (fun i σ H1 ⟨_, _, _, _, _, _, _, _, _, _, k, _⟩ => ⟨k.seq l1, k.seq lc⟩) ?_ ?_⟩
    · rintro i x y T σ H1 hx hy ⟨l, x1, x2, x3, x4, x5, x6, x7, x8, rfl, k1, hl⟩ nT
      obtain ⟨d, pp, ed, rfl, tp⟩ := pairs_at a1 hx
      obtain ⟨c, rfl, ec⟩ := ints_at hy
      obtain ⟨ok1, ok2, ok3⟩ := hok d (List.mem_of_getElem? ed)
      have hz := zip_at ed ec
      have k2 : Same H (upd H1 T (.tup [.ref pp, .int c])) := k1.trans (same_new nT)
      have hl2 : (upd H1 T (.tup [.ref pp, .int c])) l = some (.lst ((natsL (leadL rooms ((ds.zip cs).take i))).map V.int)) := (same_new nT) _ _ hl
      have hL : Led rooms ((ds.zip cs).take i) (leadL rooms ((ds.zip cs).take i)) := led_all _ fun x hx => hzr x (List.mem_of_mem_take hx)
      refine ⟨T, _, rfl, .inl (.inl upd_same), rfl, _, _, rfl, pp, _, rfl, same_tup k2 tp, rfl, _, _, rfl, _, _, rfl, rfl, _, _, rfl, rfl, ?_⟩
      generalize (upd H1 T (.tup [.ref pp, .int c])) = H2 at k2 hl2 ⊢
      have nx : leadL rooms ((ds.zip cs).take (i + 1)) = leadStep (leadL rooms ((ds.zip cs).take i)) (d, c) := by rw [take_snoc hz, leadL_snoc]
      rw [nx]
      generalize leadL rooms ((ds.zip cs).take i) = L at hL hl2 ⊢
      have la : d.1 < L.length := by rw [hL.len]; exact ok1
      have lb : d.2 < L.length := by rw [hL.len]; exact ok2
      have ga : ((natsL L).map V.int)[d.1]? = some (.int (L.getD d.1 0 : Nat)) := by
        rw [List.getElem?_map, natsL_at (r := L.getD d.1 0) (by rw [List.getD_eq_getElem?_getD, List.getElem?_eq_getElem la]; rfl)]; rfl
      have gb : ((natsL L).map V.int)[d.2]? = some (.int (L.getD d.2 0 : Nat)) := by
        rw [List.getElem?_map, natsL_at (r := L.getD d.2 0) (by rw [List.getD_eq_getElem?_getD, List.getElem?_eq_getElem lb]; rfl)]; rfl
      -- if count > 0
      refine ⟨_, rfl, _, _, rfl, rfl, _, rfl, ite2 (fun e => ?_) (fun e => ?_)⟩
      · have hc : 0 < c := of_decide_eq_true e
        refine ⟨_, rfl, _, rfl, _, _, _, _, rfl, rfl, .inl (.inl hl2), atI_nat ga, _, rfl, _, rfl, _, _, _, _, rfl, rfl, .inl (.inl hl2), atI_nat gb, (by show 2 ≤ sizeLine; decide), fun q1 nq1 => ?_⟩
        refine ⟨q1, [(L.getD d.1 0 : Nat), (L.getD d.2 0 : Nat)], rfl, .inl (.inl upd_same), (by show 2 < 64; decide), fun zs p2 pm pw np2 => ?_⟩
        have k3 := (k2.trans (same_new (o := .lst [V.int (L.getD d.1 0 : Nat), V.int (L.getD d.2 0 : Nat)]) nq1)).trans (same_new (o := .lst (zs.map V.int)) np2)
        have hl3 := (same_new (o := .lst (zs.map V.int)) np2) _ _ ((same_new (o := .lst [V.int (L.getD d.1 0 : Nat), V.int (L.getD d.2 0 : Nat)]) nq1) _ _ hl2)
        have e2 := sort_two pm pw
        refine ⟨p2, _, rfl, .inl (.inl upd_same), by rw [e2]; rfl, ?_⟩
        rw [e2]
        refine ⟨_, _, rfl, _, _, rfl, rfl, ?_⟩
        rw [← e2]
        generalize upd _ p2 (.lst (zs.map V.int)) = H3 at k3 hl3 ⊢
        -- leaders = [low if leader == high else leader for leader in leaders]
        refine ⟨_, rfl, l, rfl, ⟨_, .inl (.inl hl3)⟩, fun D nD => ?_⟩
        refine lc_list (K := K) (a := l) (xs := (natsL L).map V.int) (fun j H4 => Same H3 H4 ∧ H4 D = some (.lst ((natsL ((relab L d.1 d.2).take j)).map V.int))) ⟨same_new nD, upd_same⟩ (fun j H4 _ ⟨k4, _⟩ => .inl (.inl (k4 _ _ hl3))) ?_ ?_
        · rintro j v H4 hv ⟨k4, hD⟩
          obtain ⟨r, rfl, er⟩ := nats_at hv
          have hj := lt_of_at er
          have en : (relab L d.1 d.2)[j]? = some (if r = max (L.getD d.1 0) (L.getD d.2 0) then min (L.getD d.1 0) (L.getD d.2 0) else r) := by
            unfold relab
            rw [List.getElem?_map, er]
            rfl
          refine ⟨rfl, _, rfl, _, rfl, rfl, _, rfl, ?_⟩
          have fin : ∀ v : Nat, v = (if r = max (L.getD d.1 0) (L.getD d.2 0) then min (L.getD d.1 0) (L.getD d.2 0) else r) → ∃ acc, H4 D = some (.lst acc) ∧ acc.length < sizeLine ∧ (Same H3 (upd H4 D (.lst (acc ++ [V.int (v : Int)]))) ∧ (upd H4 D (.lst (acc ++ [V.int (v : Int)]))) D = some (.lst ((natsL ((relab L d.1 d.2).take (j + 1))).map V.int))) := by
            intro v ev
            refine ⟨_, hD, ?_, fun b o z => ?_, ?_⟩
            · rw [List.length_map, natsL_len, List.length_take]
              exact small1000 (by rw [hL.len] at hj; omega)
            · rw [upd_ne (ne_of_none z nD)]; exact k4 b o z
            · rw [upd_same, take_snoc en, ← ev]
              unfold natsL
              rw [List.map_append, List.map_append]
              rfl
          have dec : (V.int (r : Int) = V.int (max (L.getD d.1 0 : Int) (L.getD d.2 0 : Int))) ↔ r = max (L.getD d.1 0) (L.getD d.2 0) := by
            constructor
            · intro q; have := V.int.inj q; omega
            · intro q; exact congrArg V.int (by omega)
          refine ite2 (fun e3 => ?_) (fun e3 => ?_)
          · have e4 := dec.mp (of_decide_eq_true e3)
            obtain ⟨acc, f1, f2, f3⟩ := fin (min (L.getD d.1 0) (L.getD d.2 0)) (by rw [if_pos e4])
            have e5 : ((min (L.getD d.1 0) (L.getD d.2 0) : Nat) : Int) = min (L.getD d.1 0 : Int) (L.getD d.2 0 : Int) := by omega
            rw [e5] at f3
            exact ⟨_, rfl, acc, f1, f2, f3⟩
          · have e4 : ¬ r = max (L.getD d.1 0) (L.getD d.2 0) := fun q => e3 (decide_eq_true (dec.mpr q))
            obtain ⟨acc, f1, f2, f3⟩ := fin r (by rw [if_neg e4])
            exact ⟨_, rfl, acc, f1, f2, f3⟩
        · rintro H4 ⟨k4, hD⟩
          refine ⟨D, _, _, _, _, _, _, _, _, rfl, k3.trans k4, ?_⟩
          rw [hD]
          unfold leadStep
          rw [if_pos hc, List.take_of_length_le (by unfold relab; rw [List.length_map, List.length_map, natsL_len]; exact Nat.le_refl _)]
      · have hc : ¬ 0 < c := fun z => e (decide_eq_true z)
        refine ⟨l, _, _, _, _, _, _, _, _, rfl, k2, ?_⟩
        rw [hl2]
        unfold leadStep
        rw [if_neg hc]
    · rintro σ H1 ⟨l, x1, x2, x3, x4, x5, x6, x7, x8, rfl, k1, hl⟩
      rw [hvl, List.take_of_length_le (by rw [List.length_zip]; omega)] at hl
      have hL : Led rooms (ds.zip cs) (leadL rooms (ds.zip cs)) := led_all _ hzr
      have lm := led_mem hL
      have eP : partsL rooms (ds.zip cs) = lotsOf rooms (leadL rooms (ds.zip cs)) := rfl
      rw [eP] at q
      generalize leadL rooms (ds.zip cs) = L at hL hl lm q
      have lL : (natsL L).length ≤ 50 := by rw [natsL_len, hL.len]; exact hro
      -- sorted(set(leaders))
      refine ⟨_, rfl, l, natsL L, rfl, .inl (.inl hl), by omega, fun p1 c1 np1 hc1 => ?_⟩
      refine ⟨p1, _, c1, rfl, upd_same, by omega, fun ns p2 rise mem hlen np2 => ?_⟩
      obtain rfl := kinds_eq lm rise mem
      have k2 := (k1.trans (same_new (o := SetO w p1 (fun j => decide (j ∈ natsL L)) c1) np1)).trans (same_new (o := .lst ((natsL (kindsL rooms L)).map V.int)) np2)
      have hl2 := (same_new (o := .lst ((natsL (kindsL rooms L)).map V.int)) np2) _ _ ((same_new (o := SetO w p1 (fun j => decide (j ∈ natsL L)) c1) np1) _ _ hl)
      have hk2 : (upd (upd H1 p1 (SetO w p1 (fun j => decide (j ∈ natsL L)) c1)) p2 (.lst ((natsL (kindsL rooms L)).map V.int))) p2 = some (.lst ((natsL (kindsL rooms L)).map V.int)) := upd_same
      refine ⟨p2, rfl, ⟨_, .inl (.inl hk2)⟩, fun D nD0 => ?_⟩
      have nD : (upd (upd H1 p1 (SetO w p1 (fun j => decide (j ∈ natsL L)) c1)) p2 (.lst ((natsL (kindsL rooms L)).map V.int))) D = none := nD0
      have nDH := k2.free nD
      have kD : Same (upd (upd H1 p1 (SetO w p1 (fun j => decide (j ∈ natsL L)) c1)) p2 (.lst ((natsL (kindsL rooms L)).map V.int))) (upd (upd (upd H1 p1 (SetO w p1 (fun j => decide (j ∈ natsL L)) c1)) p2 (.lst ((natsL (kindsL rooms L)).map V.int))) D (.lst [])) := same_new nD
      -- the lots
      refine lc_list (K := K) (a := p2) (xs := (natsL (kindsL rooms L)).map V.int) (fun i H3 => Same (upd (upd H1 p1 (SetO w p1 (fun j => decide (j ∈ natsL L)) c1)) p2 (.lst ((natsL (kindsL rooms L)).map V.int))) H3 ∧ ∃ qs : List Addr, H3 D = some (.lst (qs.map V.ref)) ∧ qs.length = i ∧ NewLots H H3 D qs (((kindsL rooms L).take i).map fun m => (List.range rooms).filter fun r => decide (L.getD r 0 = m)))
        ⟨kD, [], upd_same, rfl, .nil⟩ (fun i H3 _ ⟨k3, _⟩ => .inl (.inl (k3 _ _ hk2))) ?_ ?_
      · rintro i v H3 hv ⟨k3, qs, hD, lq, hqs⟩
        obtain ⟨m, rfl, em⟩ := nats_at hv
        have him := lt_of_at em
        have lk : (kindsL rooms L).length ≤ 50 := Nat.le_trans (List.length_filter_le _ _) (by rw [List.length_range]; exact hro)
        refine ⟨rfl, _, rfl, _, rfl, by omega, by omega, fun D2 nD2 => ?_⟩
        have k23 := k2.trans k3
        have nD2H := k23.free nD2
        refine lc_range (lo := 0) (n := rooms) (fun j H4 => Same H3 H4 ∧ H4 D2 = some (.lst ((natsL (((List.range rooms).take j).filter fun r => decide (L.getD r 0 = m))).map V.int))) ⟨same_new nD2, by rw [upd_same, List.take_zero]; rfl⟩ ?_ ?_
        · rintro j H4 hj ⟨k4, hD2⟩
          have g : ((natsL L).map V.int)[j]? = some (.int (L.getD j 0 : Nat)) := by
            rw [List.getElem?_map, natsL_at (r := L.getD j 0) (by rw [List.getD_eq_getElem?_getD, List.getElem?_eq_getElem (by rw [hL.len]; exact hj)]; rfl)]; rfl
          refine ⟨rfl, _, rfl, _, rfl, _, _, _, _, rfl, rfl, .inl (.inl (k4 _ _ (k3 _ _ hl2))), by rw [Int.zero_add]; exact atI_nat g, _, rfl, rfl, _, rfl, ?_⟩
          have dec : (decide (V.int (L.getD j 0 : Nat) = V.int (m : Int))) = decide (L.getD j 0 = m) := by
            by_cases c : L.getD j 0 = m
            · rw [decide_eq_true c, c]; exact decide_eq_true rfl
            · rw [decide_eq_false c]; exact decide_eq_false fun q => c (by have := V.int.inj q; omega)
          rw [dec]
          have ht := nats_take (p := fun r => decide (L.getD r 0 = m)) (List.getElem?_range hj)
          refine ite2 (fun e => ?_) (fun e => ?_)
          · rw [if_pos e] at ht
            refine ⟨_, rfl, _, hD2, ?_, fun b o z => ?_, ?_⟩
            · rw [List.length_map, natsL_len]
              refine small1000 (Nat.le_trans (List.length_filter_le _ _) ?_)
              rw [List.length_take, List.length_range]
              omega
            · rw [upd_ne (ne_of_none z nD2)]; exact k4 b o z
            · rw [upd_same, Int.zero_add]; exact congrArg (fun l => some (HO.lst l)) ht.symm
          · rw [if_neg e] at ht
            refine ⟨k4, ?_⟩
            rw [hD2]; exact congrArg (fun l => some (HO.lst l)) ht.symm
        · rintro H4 ⟨k4, hD2⟩
          rw [List.take_of_length_le (by rw [List.length_range]; omega)] at hD2
          have hD4 := k4 _ _ hD
          have neD : D2 ≠ D := ne_new hD nD2
          refine ⟨_, hD4, ?_, fun b o z => ?_, qs ++ [D2], ?_, by rw [List.length_append, lq]; rfl, ?_⟩
          · rw [List.length_map]; exact small1000 (by rw [natsL_len] at *; omega)
          · rw [upd_ne (ne_of_none z nD)]; exact k4 _ _ (k3 _ _ z)
          · rw [upd_same, List.map_append]; rfl
          · rw [take_snoc em, List.map_append]
            refine newlots_snoc (newlots_imp hqs fun q l ⟨f1, f2, f3⟩ => ⟨f1, f2, ?_⟩) ⟨nD2H, neD, ?_⟩
            · rw [upd_ne f2]; exact k4 _ _ f3
            · rw [upd_ne neD]; exact hD2
      · rintro H3 ⟨k3, qs, hD, lq, hqs⟩
        rw [List.length_map, natsL_len] at hqs
        rw [List.take_of_length_le (Nat.le_refl _)] at hqs
        exact q H3 D qs (k2.trans k3) nDH hD hqs
end
end Bd
namespace Bd
open PySem PySem.Spec PyProof.Rows L2 HT
abbrev sLawMeant : Stmt := topS 9
theorem scLawMeant : FnScope ["rooms", "doors", "tallies", "marks", "turn", "k", "one", "other", "low", "kinds", "mark", "room"] ["rooms", "doors", "tallies"] (defScope sLawMeant) := ⟨rfl, rfl, rfl, by decide +kernel, rfl, by decide +kernel, by decide +kernel⟩
section
variable {P : Program} {w : World} {K : PySem.W.Frag} {mg : Str → Option Value} {base : Heap}
theorem ok_meant {f : Addr} {fd : FuncData} (F : Fun K "_law_meant" "_law_meant" sLawMeant f fd) (m_list : mg "list" = none) (m_range : mg "range" = none) (m_len : mg "len" = none) (m_min : mg "min" = none) :
    FnOk P w K mg base CX0 1 f fd ["rooms", "doors", "tallies"] (spMeant K) := by
  have sc := scLawMeant
  refine F.ok scLawMeant (fun vs H Q E h => ?_) (fun cdv A outer s H vs Q E hr h => ?_)
  · obtain ⟨hv, cv, rooms, ds, cs, rfl, _⟩ := h
    rfl
  · obtain ⟨dv, cv, rooms, ds, cs, rfl, hh, hc, hro, hlc, hld, hok, q⟩ := h
    refine ⟨_, (pss_cons (ps_set (i := 3) sc.nd rfl (.inr rfl) (pe_listRg (by rfl) (by rfl) m_list (prg_1 (by rfl) m_range (pv 0))))
  (pss_cons (ps_for PassesOwn.never rfl (pi_range1 (by rfl) m_range (pa_cons (pv 0) pa_nil)) (pg_name (i := 4) sc.nd rfl (.inl rfl))
    (pss_one (ps_for PassesOwn.never rfl (pi_range1 (by rfl) m_range (pa_cons (pe_callB call_len_seq (by rfl) m_len PySem.boot_len (pa_cons (pv 1) pa_nil)) pa_nil)) (pg_name (i := 5) sc.nd rfl (.inl rfl))
    (pss_cons (ps_asg (pe_ix ix_list (pv 1) (pv 5) (fun _ _ => rfl)) (pg_tup (by rfl) (pgs_cons (pg_name (i := 6) sc.nd rfl (.inl rfl)) (pgs_cons (pg_name (i := 7) sc.nd rfl (.inl rfl)) pgs_nil))))
  (pss_one (ps_if (pt_cmpR op_gt (pe_ix ix_list (pv 2) (pv 5) (fun _ _ => rfl)) pe_int (nomark _))
    (pss_cons (ps_set (i := 8) sc.nd rfl (.inl rfl) (pe_callB (call_min2 rfl) (by rfl) m_min (by decide +kernel) (pa_cons (pe_ix ix_list (pv 3) (pv 6) (fun _ _ => rfl)) (pa_cons (pe_ix ix_list (pv 3) (pv 7) (fun _ _ => rfl)) pa_nil))))
  (pss_cons (ps_asg (pv 8) (pg_sub (pv 3) (pv 6) set_list))
  (pss_one (ps_asg (pv 8) (pg_sub (pv 3) (pv 7) set_list)))))
    pss_nil))))))
  (pss_cons (ps_setLc (i := 9) (own := [("mark", 10)]) (g := gName 10)  (by rfl) sc.nd rfl rfl (sw_true rfl rfl rfl (by decide +kernel)) (pi_range1 (by rfl) m_range (pa_cons (pv 0) pa_nil)) (blkOk_by (own := [("mark", 10)]) (N := ["rooms", "doors", "tallies", "marks", "turn", "k", "one", "other", "low", "kinds", "mark", "room"]) (sc := defScope sLawMeant) (by decide +kernel)) (fun _ _ _ _ _ => (pg_name (i := 10) sc.nd rfl (.inl rfl))) (fun _ _ _ _ _ => (pts_one (pt_cmpR (opK (rIn K false) op_in_seq) (pv 10) (pv 3) rfl))) (fun _ _ _ _ _ => (pv 10)))
  (pss_one (ps_ret (pe_lc (own := [("mark", 10)]) (g := gName 10) (tt := tYes) (by rfl) sc.nd  (pi_list (pv 9)) (blkOk_by (own := [("mark", 10)]) (N := ["rooms", "doors", "tallies", "marks", "turn", "k", "one", "other", "low", "kinds", "mark", "room"]) (sc := defScope sLawMeant) (by decide +kernel)) (fun _ _ _ _ _ => (pg_name (i := 10) sc.nd rfl (.inr rfl))) (fun _ _ _ _ _ => pts_nil) (fun _ _ _ _ _ => (pe_lc (own := [("room", 11)]) (g := gName 11)  (by rfl) sc.nd  (pi_range1 (by rfl) m_range (pa_cons (pv 0) pa_nil)) (blkOk_by (own := [("room", 11)]) (N := ["rooms", "doors", "tallies", "marks", "turn", "k", "one", "other", "low", "kinds", "mark", "room"]) (sc := { kind := PySem.ScopeKind.function, names := [ (PySem.Str.ofString ".0", PySem.NameKind.local), (PySem.Str.ofString "mark", PySem.NameKind.cell), (PySem.Str.ofString "range", PySem.NameKind.globalImplicit), (PySem.Str.ofString "marks", PySem.NameKind.cell), (PySem.Str.ofString "rooms", PySem.NameKind.cell)], isGenerator := false, isCoroutine := false, more := [] : PySem.Scope }) (by decide +kernel)) (fun _ _ _ _ _ => (pg_name (i := 11) sc.nd rfl (.inl rfl))) (fun _ _ _ _ _ => (pts_one (pt_cmpR op_eq (pe_ix (ixK (rIxL K) ix_list) (pv 3) (pv 11) (fun _ _ => rfl)) (pv 10) (nomark _)))) (fun _ _ _ _ _ => (pv 11)))))))))), ?_⟩
    obtain ⟨ad, vs, rfl, l1, a1⟩ := dp_list hh
    obtain ⟨ac, rfl, lc⟩ := dp_ints hc
    have hvl : vs.length = ds.length := by rw [dps_len a1, List.length_map]
    have hzr := zip_rooms (cs := cs) hok
    have hzl : (ds.zip cs).length = ds.length := by rw [List.length_zip]; omega
    -- marks = list(range(rooms))
    refine ⟨_, rfl, _, rfl, RgOk.of_le (by omega) (by omega) (by omega) (by omega), fun l nl => ?_⟩
    rw [rgV_nats]
    have k0 : Same H (upd H l (.lst ((natsL (List.range rooms)).map V.int))) := same_new nl
    refine ⟨_, rfl, _, rfl, by omega, by omega, for_range (lo := 0) (n := rooms) (fun t σ H1 => ∃ x1 x2 x3 x4 x5, σ = [some (.int rooms), some (.ref ad), some (.ref ac), some (.ref l), x1, x2, x3, x4, x5, none, none, none] ∧ Same H H1 ∧ H1 l = some (.lst ((natsL (markTurns (ds.zip cs) t (List.range rooms))).map V.int)))
      ⟨none, none, none, none, none, rfl, k0, upd_same⟩ ?_ ?_⟩
    · rintro t σ H1 ht ⟨x1, x2, x3, x4, x5, rfl, k1, hl⟩
      have hM : (markTurns (ds.zip cs) t (List.range rooms)).length = rooms := (turns_done (led_all _ hzr) hzr ⟨List.length_range, fun r h => by rw [List.getD_eq_getElem?_getD, List.getElem?_range h]; exact Nat.le_refl _, fun r h => by rw [List.getD_eq_getElem?_getD (l := List.range rooms), List.getElem?_range h]; rfl⟩ t).1.len
      show tFor _ _ _ _ _ _
      have nx : markTurns (ds.zip cs) (t + 1) (List.range rooms) = (ds.zip cs).foldl markStep (markTurns (ds.zip cs) t (List.range rooms)) := rfl
      rw [nx]
      generalize markTurns (ds.zip cs) t (List.range rooms) = M at hl hM ⊢
      refine ⟨_, rfl, _, _, rfl, .inl (k1.seq l1), _, rfl, by omega, by omega, for_range (lo := 0) (n := vs.length) (fun i σ H2 => ∃ x2 x3 x4 x5, σ = [some (.int rooms), some (.ref ad), some (.ref ac), some (.ref l), some (.int (0 + (t : Int))), x2, x3, x4, x5, none, none, none] ∧ Same H H2 ∧ H2 l = some (.lst ((natsL (((ds.zip cs).take i).foldl markStep M)).map V.int)))
        ⟨_, _, _, _, rfl, k1, by rw [List.take_zero]; exact hl⟩ ?_ ?_⟩
      · rintro i σ H2 hi ⟨x2, x3, x4, x5, rfl, k2, hl2⟩
        obtain ⟨d, ed⟩ : ∃ d, ds[i]? = some d := ⟨ds[i], List.getElem?_eq_getElem (by omega)⟩
        obtain ⟨c, ec⟩ : ∃ c, cs[i]? = some c := ⟨cs[i], List.getElem?_eq_getElem (by omega)⟩
        have hz := zip_at ed ec
        obtain ⟨ok1, ok2, ok3⟩ := hok d (List.mem_of_getElem? ed)
        obtain ⟨v, ev, dv⟩ := dps_at a1 (i := i) (d := pairD d) (by rw [List.getElem?_map, ed]; rfl)
        obtain ⟨pp, rfl, tp⟩ := pair_of dv
        have hM2 : (((ds.zip cs).take i).foldl markStep M).length = rooms := by
          have : ∀ (z : List Dc) (M : List Nat), (z.foldl markStep M).length = M.length := by
            intro z
            induction z with
            | nil => intro M; rfl
            | cons x z ih =>
              intro M
              rw [List.foldl_cons, ih]
              unfold markStep
              split
              · rw [List.length_set, List.length_set]
              · rfl
          rw [this, hM]
        have nx2 : ((ds.zip cs).take (i + 1)).foldl markStep M = markStep (((ds.zip cs).take i).foldl markStep M) (d, c) := by rw [take_snoc hz, List.foldl_append]; rfl
        rw [nx2]
        generalize ((ds.zip cs).take i).foldl markStep M = N at hl2 hM2 ⊢
        have ga : ((natsL N).map V.int)[d.1]? = some (.int (N.getD d.1 0 : Nat)) := by
          rw [List.getElem?_map, natsL_at (r := N.getD d.1 0) (by rw [List.getD_eq_getElem?_getD, List.getElem?_eq_getElem (by omega)]; rfl)]; rfl
        have gb : ((natsL N).map V.int)[d.2]? = some (.int (N.getD d.2 0 : Nat)) := by
          rw [List.getElem?_map, natsL_at (r := N.getD d.2 0) (by rw [List.getD_eq_getElem?_getD, List.getElem?_eq_getElem (by omega)]; rfl)]; rfl
        -- one, other = doors[k]
        refine ⟨_, rfl, _, rfl, _, _, _, _, rfl, rfl, k2.seq l1, by rw [Int.zero_add]; exact atI_nat ev, pp, _, rfl, same_tup k2 tp, rfl, _, _, rfl, _, _, rfl, rfl, ?_⟩
        -- if tallies[k] > 0
        refine ⟨_, rfl, _, rfl, _, _, _, _, rfl, rfl, k2.seq lc, by rw [Int.zero_add]; exact atI_nat (by rw [List.getElem?_map, ec]; rfl), _, _, rfl, rfl, _, rfl, ite2 (fun e => ?_) (fun e => ?_)⟩
        · have hc : 0 < c := of_decide_eq_true e
          refine ⟨_, rfl, _, rfl, _, _, _, _, rfl, rfl, .inl (.inl hl2), atI_nat ga, _, rfl, _, rfl, _, _, _, _, rfl, rfl, .inl (.inl hl2), atI_nat gb, _, _, rfl, ?_⟩
          have ev8 : (if (N.getD d.2 0 : Int) < (N.getD d.1 0 : Int) then (N.getD d.2 0 : Int) else (N.getD d.1 0 : Int)) = ((min (N.getD d.1 0) (N.getD d.2 0) : Nat) : Int) := by
            split <;> omega
          rw [ev8]
          refine ⟨_, rfl, _, rfl, _, rfl, _, _, _, d.1, rfl, rfl, hl2, ?_, ?_⟩
          · rw [List.length_map, natsL_len, hM2]; exact ixN_nat ok1
          refine ⟨_, rfl, _, rfl, _, rfl, _, _, _, d.2, rfl, rfl, upd_same, ?_, ?_⟩
          · rw [List.length_set, List.length_map, natsL_len, hM2]; exact ixN_nat ok2
          rw [upd_upd]
          refine ⟨_, _, _, _, rfl, fun b o z => ?_, ?_⟩
          · rw [upd_ne (ne_of_none z nl)]; exact k2 b o z
          · rw [upd_same]
            unfold markStep
            rw [if_pos hc]
            unfold natsL
            rw [List.map_set, List.map_set, List.map_set, List.map_set]
        · have hc : ¬ 0 < c := fun z => e (decide_eq_true z)
          refine ⟨_, _, _, _, rfl, k2, ?_⟩
          rw [hl2]
          unfold markStep
          rw [if_neg hc]
      · rintro σ H2 ⟨x2, x3, x4, x5, rfl, k2, hl2⟩
        rw [List.take_of_length_le (by omega)] at hl2
        exact ⟨_, _, _, _, _, rfl, k2, hl2⟩
    · rintro σ H1 ⟨x1, x2, x3, x4, x5, rfl, k1, hl⟩
      rw [marks_end (led_all _ hzr) hzr] at hl
      have hL : Led rooms (ds.zip cs) (leadL rooms (ds.zip cs)) := led_all _ hzr
      have eP : partsL rooms (ds.zip cs) = lotsOf rooms (leadL rooms (ds.zip cs)) := rfl
      rw [eP] at q
      generalize leadL rooms (ds.zip cs) = L at hL hl q
      have lm := led_mem hL
      have lL : (natsL L).length ≤ 50 := by rw [natsL_len, hL.len]; exact hro
      have lk : (kindsL rooms L).length ≤ 50 := Nat.le_trans (List.length_filter_le _ _) (by rw [List.length_range]; exact hro)
      -- kinds
      refine ⟨_, rfl, _, rfl, by omega, by omega, fun p2 np2 => ?_⟩
      have npH := k1.free np2
      refine lc_range (lo := 0) (n := rooms) (fun j H2 => Same H1 H2 ∧ H2 p2 = some (.lst ((natsL (((List.range rooms).take j).filter fun m => decide (m ∈ L))).map V.int))) ⟨same_new np2, by rw [upd_same, List.take_zero]; rfl⟩ ?_ ?_
      · rintro j H2 hj ⟨k2, hk⟩
        refine ⟨rfl, _, rfl, _, rfl, _, _, rfl, .inl (.inl (.inl (k2 _ _ hl))), rfl, flat_ints _, _, rfl, ?_⟩
        have eb : (if false = true then !inV (V.int (0 + (j : Int))) ((natsL L).map V.int) else inV (V.int (0 + (j : Int))) ((natsL L).map V.int)) = decide (j ∈ L) := by
          rw [if_neg (by decide), Int.zero_add, inV_nats]
        rw [eb]
        have ht := nats_take (p := fun m => decide (m ∈ L)) (List.getElem?_range hj)
        refine ite2 (fun e => ?_) (fun e => ?_)
        · rw [if_pos e] at ht
          refine ⟨_, rfl, _, hk, ?_, fun b o z => ?_, ?_⟩
          · rw [List.length_map, natsL_len]
            refine small1000 (Nat.le_trans (List.length_filter_le _ _) ?_)
            rw [List.length_take, List.length_range]
            omega
          · rw [upd_ne (ne_of_none z np2)]; exact k2 b o z
          · rw [upd_same, Int.zero_add]; exact congrArg (fun l => some (HO.lst l)) ht.symm
        · rw [if_neg e] at ht
          refine ⟨k2, ?_⟩
          rw [hk]; exact congrArg (fun l => some (HO.lst l)) ht.symm
      rintro H2 ⟨k12, hk2⟩
      rw [List.take_of_length_le (by rw [List.length_range]; omega)] at hk2
      have k2 := k1.trans k12
      have hl2 := k12 _ _ hl
      have hk2 : H2 p2 = some (.lst ((natsL (kindsL rooms L)).map V.int)) := hk2
      refine ⟨_, rfl, p2, rfl, ⟨_, .inl (.inl hk2)⟩, fun D nD => ?_⟩
      have nDH := k2.free nD
      -- the lots
      refine lc_list (K := K) (a := p2) (xs := (natsL (kindsL rooms L)).map V.int) (fun i H3 => Same H2 H3 ∧ ∃ qs : List Addr, H3 D = some (.lst (qs.map V.ref)) ∧ qs.length = i ∧ NewLots H H3 D qs (((kindsL rooms L).take i).map fun m => (List.range rooms).filter fun r => decide (L.getD r 0 = m)))
        ⟨same_new nD, [], upd_same, rfl, .nil⟩ (fun i H3 _ ⟨k3, _⟩ => .inl (.inl (k3 _ _ hk2))) ?_ ?_
      · rintro i v H3 hv ⟨k3, qs, hD, lq, hqs⟩
        obtain ⟨m, rfl, em⟩ := nats_at hv
        have him := lt_of_at em
        have lk : (kindsL rooms L).length ≤ 50 := Nat.le_trans (List.length_filter_le _ _) (by rw [List.length_range]; exact hro)
        refine ⟨rfl, _, rfl, _, rfl, by omega, by omega, fun D2 nD2 => ?_⟩
        have k23 := k2.trans k3
        have nD2H := k23.free nD2
        refine lc_range (lo := 0) (n := rooms) (fun j H4 => Same H3 H4 ∧ H4 D2 = some (.lst ((natsL (((List.range rooms).take j).filter fun r => decide (L.getD r 0 = m))).map V.int))) ⟨same_new nD2, by rw [upd_same, List.take_zero]; rfl⟩ ?_ ?_
        · rintro j H4 hj ⟨k4, hD2⟩
          have g : ((natsL L).map V.int)[j]? = some (.int (L.getD j 0 : Nat)) := by
            rw [List.getElem?_map, natsL_at (r := L.getD j 0) (by rw [List.getD_eq_getElem?_getD, List.getElem?_eq_getElem (by rw [hL.len]; exact hj)]; rfl)]; rfl
          refine ⟨rfl, _, rfl, _, rfl, _, _, _, _, rfl, rfl, .inl (.inl (k4 _ _ (k3 _ _ hl2))), by rw [Int.zero_add]; exact atI_nat g, _, rfl, rfl, _, rfl, ?_⟩
          have dec : (decide (V.int (L.getD j 0 : Nat) = V.int (m : Int))) = decide (L.getD j 0 = m) := by
            by_cases c : L.getD j 0 = m
            · rw [decide_eq_true c, c]; exact decide_eq_true rfl
            · rw [decide_eq_false c]; exact decide_eq_false fun q => c (by have := V.int.inj q; omega)
          rw [dec]
          have ht := nats_take (p := fun r => decide (L.getD r 0 = m)) (List.getElem?_range hj)
          refine ite2 (fun e => ?_) (fun e => ?_)
          · rw [if_pos e] at ht
            refine ⟨_, rfl, _, hD2, ?_, fun b o z => ?_, ?_⟩
            · rw [List.length_map, natsL_len]
              refine small1000 (Nat.le_trans (List.length_filter_le _ _) ?_)
              rw [List.length_take, List.length_range]
              omega
            · rw [upd_ne (ne_of_none z nD2)]; exact k4 b o z
            · rw [upd_same, Int.zero_add]; exact congrArg (fun l => some (HO.lst l)) ht.symm
          · rw [if_neg e] at ht
            refine ⟨k4, ?_⟩
            rw [hD2]; exact congrArg (fun l => some (HO.lst l)) ht.symm
        · rintro H4 ⟨k4, hD2⟩
          rw [List.take_of_length_le (by rw [List.length_range]; omega)] at hD2
          have hD4 := k4 _ _ hD
          have neD : D2 ≠ D := ne_new hD nD2
          refine ⟨_, hD4, ?_, fun b o z => ?_, qs ++ [D2], ?_, by rw [List.length_append, lq]; rfl, ?_⟩
          · rw [List.length_map]; exact small1000 (by rw [natsL_len] at *; omega)
          · rw [upd_ne (ne_of_none z nD)]; exact k4 _ _ (k3 _ _ z)
          · rw [upd_same, List.map_append]; rfl
          · rw [take_snoc em, List.map_append]
            refine newlots_snoc (newlots_imp hqs fun q l ⟨f1, f2, f3⟩ => ⟨f1, f2, ?_⟩) ⟨nD2H, neD, ?_⟩
            · rw [upd_ne f2]; exact k4 _ _ f3
            · rw [upd_ne neD]; exact hD2
      · rintro H3 ⟨k3, qs, hD, lq, hqs⟩
        rw [List.length_map, natsL_len] at hqs
        rw [List.take_of_length_le (Nat.le_refl _)] at hqs
        exact q H3 D qs (k2.trans k3) nDH hD hqs
end
end Bd
namespace Bd
open PySem PySem.Spec PyProof.Rows L2 HT
abbrev sLawAlike : Stmt := topS 6
theorem scLawAlike : FnScope ["found", "due", "k"] ["found", "due"] (defScope sLawAlike) := ⟨rfl, rfl, rfl, by decide +kernel, rfl, by decide +kernel, by decide +kernel⟩
section
variable {P : Program} {w : World} {K : PySem.W.Frag} {mg : Str → Option Value} {base : Heap}
theorem ok_alike {f : Addr} {fd : FuncData} (F : Fun K "_law_alike" "_law_alike" sLawAlike f fd) (b : Binds K fd ["found", "due"] []) (g : mg "_law_alike" = some (.ref f)) (m_isinstance : mg "isinstance" = none) (m_list : mg "list" = none) (m_tuple : mg "tuple" = none) (m_int : mg "int" = none) (m_bool : mg "bool" = none) (m_len : mg "len" = none) (m_all : mg "all" = none) (m_range : mg "range" = none) :
    ∀ n : Nat, FnOk P w K mg base CX0 n f fd ["found", "due"] (spAlike K n) := by
  intro n
  induction n with
  | zero => exact ⟨fun _ _ _ _ h => h.elim, fun _ _ _ _ _ _ _ _ _ _ _ _ _ h => h.elim⟩
  | succ n ih =>
  have sc := scLawAlike
  have cal_law_alike : Ca P w K mg base n "_law_alike" (spAlike K n) := ⟨f, fd, _, ih, g, F.kp, b⟩
  refine F.ok scLawAlike (fun vs H Q E h => ?_) (fun cdv A outer s H vs Q E hr h => ?_)
  · obtain ⟨v, u, d, rfl, _⟩ := h
    rfl
  · obtain ⟨v, u, d, rfl, hv, hu, gd, q⟩ := h
    refine ⟨_, (pss_cons (ps_if (pt_val (pe_callB call_isiT (by rfl) m_isinstance (by decide +kernel) (pa_cons (pv 1) (pa_cons (pe_tup (pa_cons (pe_bltn (v := V.ty "list") (by rfl) m_list (by decide +kernel) rfl) (pa_cons (pe_bltn (v := V.ty "tuple") (by rfl) m_tuple (by decide +kernel) rfl) pa_nil))) pa_nil))))
    (pss_cons (ps_if (PW.pt (pw_or (pt_not (pt_val (pe_callB call_isiT (by rfl) m_isinstance (by decide +kernel) (pa_cons (pv 0) (pa_cons (pe_tup (pa_cons (pe_bltn (v := V.ty "list") (by rfl) m_list (by decide +kernel) rfl) (pa_cons (pe_bltn (v := V.ty "tuple") (by rfl) m_tuple (by decide +kernel) rfl) pa_nil))) pa_nil))))) (pw_or1 (pt_cmpR op_ne (pe_callB call_isi (by rfl) m_isinstance (by decide +kernel) (pa_cons (pv 0) (pa_cons (pe_bltn (v := V.ty "list") (by rfl) m_list (by decide +kernel) rfl) pa_nil))) (pe_callB call_isi (by rfl) m_isinstance (by decide +kernel) (pa_cons (pv 1) (pa_cons (pe_bltn (v := V.ty "list") (by rfl) m_list (by decide +kernel) rfl) pa_nil))) (nomark _)))))
    (pss_one (ps_ret pe_bl))
    pss_nil)
  (pss_one (ps_ret (pe_and (pe_cmpR op_eq (pe_callB call_len_seq (by rfl) m_len PySem.boot_len (pa_cons (pv 0) pa_nil)) (pe_callB call_len_seq (by rfl) m_len PySem.boot_len (pa_cons (pv 1) pa_nil)) (nomark _)) (pe_one (pe_callB (cr_all rfl) (by rfl) m_all (by decide +kernel) (pa_cons (pe_lc (own := [("k", 2)]) (g := gName 2) (tt := tYes) (by rfl) sc.nd  (pi_range1 (by rfl) m_range (pa_cons (pe_callB call_len_seq (by rfl) m_len PySem.boot_len (pa_cons (pv 1) pa_nil)) pa_nil)) (blkOk_by (own := [("k", 2)]) (N := ["found", "due", "k"]) (sc := defScope sLawAlike) (by decide +kernel)) (fun _ _ _ _ _ => (pg_name (i := 2) sc.nd rfl (.inl rfl))) (fun _ _ _ _ _ => pts_nil) (fun _ _ _ _ _ => (pe_u cal_law_alike hr (by first | decide | exact Nat.le_refl _ | omega) (by rfl) (pa_cons (pe_ix (ixK (rIx K) ix_seq) (pv 0) (pv 2) (fun _ _ => rfl)) (pa_cons (pe_ix (ixK (rIx K) ix_seq) (pv 1) (pv 2) (fun _ _ => rfl)) pa_nil))))) pa_nil)))))))
    pss_nil)
  (pss_one (ps_ret (pe_and (pe_callB call_isi (by rfl) m_isinstance (by decide +kernel) (pa_cons (pv 0) (pa_cons (pe_bltn (v := V.ty "int") (by rfl) m_int (by decide +kernel) rfl) pa_nil))) (pe_and (pe_not (pe_callB call_isi (by rfl) m_isinstance (by decide +kernel) (pa_cons (pv 0) (pa_cons (pe_bltn (v := V.ty "bool") (by rfl) m_bool (by decide +kernel) rfl) pa_nil)))) (pe_one (pe_cmpR op_eq (pv 0) (pv 1) (nomark _)))))))), ?_⟩
    have z2 : (2 : Nat) ≤ sizeLine := by decide
    cases gd with
    | int _ i =>
      obtain rfl := dp_int hv
      obtain rfl := dp_int hu
      refine ⟨_, rfl, z2, fun T nT => ⟨_, T, _, _, _, false, rfl, upd_same, .cons (.ty _) (.cons (.ty _) .nil), .base (.int i), kit_two (v := false) (u := false) (by decide +kernel) (by decide +kernel), _, rfl, iteF ?_⟩⟩
      refine ⟨_, rfl, _, _, _, _, true, rfl, .ty _, .base (.int i), kit_ty (by decide +kernel), _, rfl, iteT ?_⟩
      refine ⟨_, rfl, _, _, _, _, false, rfl, .ty _, .base (.int i), kit_ty (by decide +kernel), _, rfl, _, rfl, ifT (by decide) ?_⟩
      refine ⟨_, rfl, _, rfl, rfl, ?_⟩
      rw [decide_eq_true rfl]
      exact q _ (same_new nT)
    | @lst n ds h l =>
      obtain ⟨av, xs, rfl, sv, dv⟩ := dp_list hv
      obtain ⟨au, ys, rfl, su, du⟩ := dp_list hu
      have lx : xs.length = _ := dps_len dv
      have ly : ys.length = _ := dps_len du
      refine ⟨_, rfl, z2, fun T nT => ⟨_, T, _, _, _, true, rfl, upd_same, .cons (.ty _) (.cons (.ty _) .nil), tyx_list (Same.seq (same_new nT) su), kit_two (v := true) (u := false) (by decide +kernel) (by decide +kernel), _, rfl, iteT ?_⟩⟩
      have k1 : Same H (upd H T (.tup [.ty "list", .ty "tuple"])) := same_new nT
      refine ⟨_, rfl, z2, fun T2 nT2 => ⟨_, T2, _, _, _, true, rfl, upd_same, .cons (.ty _) (.cons (.ty _) .nil), tyx_list (Same.seq (k1.trans (same_new nT2)) sv), kit_two (v := true) (u := false) (by decide +kernel) (by decide +kernel), _, rfl, ifF (by decide) ?_⟩⟩
      have k2 := k1.trans (same_new (o := .tup [.ty "list", .ty "tuple"]) nT2)
      generalize hG : upd (upd H T (.tup [.ty "list", .ty "tuple"])) T2 (.tup [.ty "list", .ty "tuple"]) = H2 at k2 ⊢
      refine ⟨_, rfl, _, _, _, _, true, rfl, .ty _, tyx_list (Same.seq k2 sv), kit_ty (by decide +kernel), _, rfl, _, _, _, _, true, rfl, .ty _, tyx_list (Same.seq k2 su), kit_ty (by decide +kernel), rfl, _, rfl, ifF (by decide) ?_⟩
      refine ⟨_, rfl, _, _, rfl, .inl (Same.seq k2 sv), _, rfl, _, _, rfl, .inl (Same.seq k2 su), rfl, _, rfl, ifT (decide_eq_true (congrArg V.int (by rw [lx, ly]))) ?_⟩
      refine ⟨_, rfl, _, _, rfl, .inl (Same.seq k2 su), _, rfl, by omega, by omega, fun D nD => ?_⟩
      have nDH : H D = none := k2.free nD
      refine lc_range (lo := 0) (n := ys.length) (fun i H3 => Same H H3 ∧ H3 D = some (.lst ((List.replicate i true).map V.bl))) ⟨k2.trans (same_new nD), upd_same⟩ ?_ ?_
      · rintro i H3 hi ⟨k3, hD⟩
        have hid : i < ds.length := by omega
        obtain ⟨x, ex, dx⟩ := dps_at dv (i := i) (List.getElem?_eq_getElem hid)
        obtain ⟨y, ey, dy⟩ := dps_at du (i := i) (List.getElem?_eq_getElem hid)
        refine ⟨rfl, _, rfl, _, rfl, .inl ⟨_, _, _, _, rfl, rfl, Same.seq k3 sv, by rw [Int.zero_add]; exact atI_nat ex, _, rfl, _, rfl, .inl ⟨_, _, _, _, rfl, rfl, Same.seq k3 su, by rw [Int.zero_add]; exact atI_nat ey, ?_⟩⟩⟩
        refine ⟨_, _, ds[i], rfl, dp_same k3 dx, dp_same k3 dy, h _ (List.getElem_mem hid), fun H4 k4 => ⟨_, k4 _ _ hD, ?_, fun b o e => ?_, ?_⟩⟩
        · rw [List.length_map, List.length_replicate]
          exact small1000 (by omega)
        · rw [upd_ne (ne_of_none e nDH)]
          exact k4 _ _ (k3 _ _ e)
        · rw [upd_same, List.replicate_succ', List.map_append]
          rfl
      · rintro H3 ⟨k3, hD⟩
        refine ⟨D, List.replicate ys.length true, rfl, .inl (.inl hD), ?_⟩
        have e : (List.replicate ys.length true).all id = true := by
          rw [List.all_eq_true]
          intro z hz
          exact (List.mem_replicate.mp hz).2
        rw [e]
        exact q H3 k3
    | @tup n ds h l =>
      obtain ⟨av, xs, rfl, sv, dv⟩ := dp_tup hv
      obtain ⟨au, ys, rfl, su, du⟩ := dp_tup hu
      have lx : xs.length = _ := dps_len dv
      have ly : ys.length = _ := dps_len du
      refine ⟨_, rfl, z2, fun T nT => ⟨_, T, _, _, _, true, rfl, upd_same, .cons (.ty _) (.cons (.ty _) .nil), tyx_tup (same_tup (same_new nT) su), kit_two (v := false) (u := true) (by decide +kernel) (by decide +kernel), _, rfl, iteT ?_⟩⟩
      have k1 : Same H (upd H T (.tup [.ty "list", .ty "tuple"])) := same_new nT
      refine ⟨_, rfl, z2, fun T2 nT2 => ⟨_, T2, _, _, _, true, rfl, upd_same, .cons (.ty _) (.cons (.ty _) .nil), tyx_tup (same_tup (k1.trans (same_new nT2)) sv), kit_two (v := false) (u := true) (by decide +kernel) (by decide +kernel), _, rfl, ifF (by decide) ?_⟩⟩
      have k2 := k1.trans (same_new (o := .tup [.ty "list", .ty "tuple"]) nT2)
      generalize hG : upd (upd H T (.tup [.ty "list", .ty "tuple"])) T2 (.tup [.ty "list", .ty "tuple"]) = H2 at k2 ⊢
      refine ⟨_, rfl, _, _, _, _, false, rfl, .ty _, tyx_tup (same_tup k2 sv), kit_ty (by decide +kernel), _, rfl, _, _, _, _, false, rfl, .ty _, tyx_tup (same_tup k2 su), kit_ty (by decide +kernel), rfl, _, rfl, ifF (by decide) ?_⟩
      refine ⟨_, rfl, _, _, rfl, .inr (same_tup k2 sv), _, rfl, _, _, rfl, .inr (same_tup k2 su), rfl, _, rfl, ifT (decide_eq_true (congrArg V.int (by rw [lx, ly]))) ?_⟩
      refine ⟨_, rfl, _, _, rfl, .inr (same_tup k2 su), _, rfl, by omega, by omega, fun D nD => ?_⟩
      have nDH : H D = none := k2.free nD
      refine lc_range (lo := 0) (n := ys.length) (fun i H3 => Same H H3 ∧ H3 D = some (.lst ((List.replicate i true).map V.bl))) ⟨k2.trans (same_new nD), upd_same⟩ ?_ ?_
      · rintro i H3 hi ⟨k3, hD⟩
        have hid : i < ds.length := by omega
        obtain ⟨x, ex, dx⟩ := dps_at dv (i := i) (List.getElem?_eq_getElem hid)
        obtain ⟨y, ey, dy⟩ := dps_at du (i := i) (List.getElem?_eq_getElem hid)
        refine ⟨rfl, _, rfl, _, rfl, .inr (.inl ⟨_, _, _, _, rfl, rfl, same_tup k3 sv, by rw [Int.zero_add]; exact atI_nat ex, _, rfl, _, rfl, .inr (.inl ⟨_, _, _, _, rfl, rfl, same_tup k3 su, by rw [Int.zero_add]; exact atI_nat ey, ?_⟩)⟩)⟩
        refine ⟨_, _, ds[i], rfl, dp_same k3 dx, dp_same k3 dy, h _ (List.getElem_mem hid), fun H4 k4 => ⟨_, k4 _ _ hD, ?_, fun b o e => ?_, ?_⟩⟩
        · rw [List.length_map, List.length_replicate]
          exact small1000 (by omega)
        · rw [upd_ne (ne_of_none e nDH)]
          exact k4 _ _ (k3 _ _ e)
        · rw [upd_same, List.replicate_succ', List.map_append]
          rfl
      · rintro H3 ⟨k3, hD⟩
        refine ⟨D, List.replicate ys.length true, rfl, .inl (.inl hD), ?_⟩
        have e : (List.replicate ys.length true).all id = true := by
          rw [List.all_eq_true]
          intro z hz
          exact (List.mem_replicate.mp hz).2
        rw [e]
        exact q H3 k3
end
end Bd
namespace Bd
open PySem PySem.Spec PyProof.Rows L2 HT
abbrev sLawRow : Stmt := topS 7
theorem scLawRow : FnScope ["bag", "rooms", "left", "order", "doors", "k", "pair", "turn"] ["bag"] (defScope sLawRow) := ⟨rfl, rfl, rfl, by decide +kernel, rfl, by decide +kernel, by decide +kernel⟩
abbrev sLawTallies : Stmt := topS 8
theorem scLawTallies : FnScope ["bag", "doors", "at", "pair", "k"] ["bag", "doors"] (defScope sLawTallies) := ⟨rfl, rfl, rfl, by decide +kernel, rfl, by decide +kernel, by decide +kernel⟩
def spRow (K : PySem.W.Frag) : Sp := fun vs H Q _ => ∃ (a c : Addr), vs = [.ref a] ∧ Bag H a c ∧
  ∀ hv H' rooms ds, 0 < rooms → rooms ≤ 10 → ds.length ≤ 24 → Doors rooms ds → Bag H' a c → Kp [a, c] H H' → Dp K (hid [a, c] H') hv (houseD rooms ds) → Q hv H'
theorem dps_drop {K : PySem.W.Frag} {H : Hp} : ∀ {ds : List PyData} {vs : List V} (n : Nat), DpAll K H vs ds → DpAll K H (vs.drop n) (ds.drop n)
  | _, _, 0, h => h
  | [], _, n + 1, h => by cases h; exact .nil
  | d :: ds, _, n + 1, h => by
    cases h with
    | cons h1 h2 => exact dps_drop n h2
theorem dps_take {K : PySem.W.Frag} {H : Hp} : ∀ {ds : List PyData} {vs : List V} (n : Nat), DpAll K H vs ds → DpAll K H (vs.take n) (ds.take n)
  | _, _, 0, h => .nil
  | [], _, n + 1, h => by cases h; exact .nil
  | d :: ds, _, n + 1, h => by
    cases h with
    | cons h1 h2 => exact .cons h1 (dps_take n h2)
theorem cut_from (xs : List V) (t : Nat) (h : t ≤ xs.length) : cutV xs (some (t : Int)) none = xs.drop t := by
  unfold cutV
  rw [HT.sIx_nat, HT.sIx_none, Nat.min_eq_left h]
  exact List.take_of_length_le (by rw [List.length_drop]; exact Nat.le_refl _)
theorem cut_to (xs : List V) (t : Nat) (h : t ≤ xs.length) : cutV xs none (some (t : Int)) = xs.take t := by
  unfold cutV
  rw [HT.sIx_nat, HT.sIx_none, Nat.min_eq_left h]
  rfl
theorem atI_four {x y z u : V} {r : Int} (h0 : 0 ≤ r) (h1 : r < 4) : ∃ v, atI [x, y, z, u] r = some v ∧ (v = x ∨ v = y ∨ v = z ∨ v = u) := by
  have : r = 0 ∨ r = 1 ∨ r = 2 ∨ r = 3 := by omega
  rcases this with rfl | rfl | rfl | rfl
  · exact ⟨x, rfl, .inl rfl⟩
  · exact ⟨y, rfl, .inr (.inl rfl)⟩
  · exact ⟨z, rfl, .inr (.inr (.inl rfl))⟩
  · exact ⟨u, rfl, .inr (.inr (.inr rfl))⟩
theorem map_erase {α β : Type} (f : α → β) : ∀ (l : List α) (j : Nat), (l.map f).eraseIdx j = (l.eraseIdx j).map f
  | [], _ => rfl
  | _ :: _, 0 => rfl
  | x :: l, j + 1 => congrArg (f x :: ·) (map_erase f l j)
theorem erase_perm {α : Type} : ∀ {l : List α} {j : Nat} (h : j < l.length), (l[j] :: l.eraseIdx j).Perm l
  | _ :: _, 0, _ => List.Perm.refl _
  | x :: l, j + 1, h => (List.Perm.swap _ _ _).trans (List.Perm.cons x (erase_perm (Nat.lt_of_succ_lt_succ h)))
section
variable {P : Program} {w : World} {K : PySem.W.Frag} {mg : Str → Option Value} {base : Heap}
theorem ok_row {f : Addr} {fd : FuncData} (F : Fun K "_law_row" "_law_row" sLawRow f fd) (cal_law_draw : Ca P w K mg base 1 "_law_draw" spDraw) (m_list : mg "list" = none) (m_range : mg "range" = none) (m_len : mg "len" = none) : FnOk P w K mg base CX0 2 f fd ["bag"] (spRow K) := by
  have sc := scLawRow
  refine F.ok scLawRow (fun vs H Q E h => ?_) (fun cdv A outer s H vs Q E hr h => ?_)
  · obtain ⟨a, c, rfl, _⟩ := h
    rfl
  · obtain ⟨a, c, rfl, hB, q⟩ := h
    refine ⟨_, (pss_cons (ps_set (i := 1) sc.nd rfl (.inl rfl) (pe_op op_add pe_int (pe_u cal_law_draw hr (by first | decide | exact Nat.le_refl _ | omega) (by rfl) (pa_cons (pv 0) (pa_cons pe_int pa_nil)))))
  (pss_cons (ps_set (i := 2) sc.nd rfl (.inr rfl) (pe_listRg (by rfl) (by rfl) m_list (prg_1 (by rfl) m_range (pv 1))))
  (pss_cons (ps_setLc (i := 3) (own := [("k", 5)]) (g := gName 5) (tt := tYes) (by rfl) sc.nd rfl rfl (sw_true rfl rfl rfl (by decide +kernel)) (pi_range1 (by rfl) m_range (pa_cons (pv 1) pa_nil)) (blkOk_by (own := [("k", 5)]) (N := ["bag", "rooms", "left", "order", "doors", "k", "pair", "turn"]) (sc := defScope sLawRow) (by decide +kernel)) (fun _ _ _ _ _ => (pg_name (i := 5) sc.nd rfl (.inl rfl))) (fun _ _ _ _ _ => pts_nil) (fun _ _ _ _ _ => (teK (tBM K _ _ _ _) (pe_bm PySem.F.plainAttrs_list PySem.F.slot_list_pop PySem.F.type_list_pop mt_popAt (pv 2) (pa_cons (pe_u cal_law_draw hr (by first | decide | exact Nat.le_refl _ | omega) (by rfl) (pa_cons (pv 0) (pa_cons (pe_callB (clK (rLenK K) call_len_seq) (by rfl) m_len PySem.boot_len (pa_cons (pv 2) pa_nil)) pa_nil))) pa_nil)))))
  (pss_cons (ps_set (i := 4) sc.nd rfl (.inl rfl) (pe_lst pa_nil))
  (pss_cons (ps_for PassesOwn.never rfl (pi_range1 (by rfl) m_range (pa_cons (pe_op op_sub (pv 1) pe_int) pa_nil)) (pg_name (i := 5) sc.nd rfl (.inl rfl))
    (pss_cons (ps_set (i := 6) sc.nd rfl (.inl rfl) (pe_tup (pa_cons (pe_ix ix_list (pv 3) (pv 5) (fun _ _ => rfl)) (pa_cons (pe_ix ix_list (pv 3) (pe_op op_add (pv 5) pe_int) (fun _ _ => rfl)) pa_nil))))
  (pss_one (ps_expr (pe_bm PySem.F.plainAttrs_list PySem.F.slot_list_append PySem.F.type_list_append mt_append (pv 4) (pa_cons (pe_stepT (pv 6) (pe_ix ix_list (pe_lst (pa_cons pe_int (pa_cons (pe_un un_neg pe_int) pa_nil))) (pe_u cal_law_draw hr (by first | decide | exact Nat.le_refl _ | omega) (by rfl) (pa_cons (pv 0) (pa_cons pe_int pa_nil))) (fun _ _ => rfl))) pa_nil))))))
  (pss_cons (ps_set (i := 7) sc.nd rfl (.inl rfl) (pe_u cal_law_draw hr (by first | decide | exact Nat.le_refl _ | omega) (by rfl) (pa_cons (pv 0) (pa_cons (pe_op op_sub (pv 1) pe_int) pa_nil))))
  (pss_one (ps_ret (pe_tup (pa_cons (pv 1) (pa_cons (pe_op op_cat (pe_slice sl_list (pv 4) (po_some (pv 7)) po_none) (pe_slice sl_list (pv 4) po_none (po_some (pv 7)))) pa_nil))))))))))), ?_⟩
    -- rooms = 2 + draw(bag, 9)
    refine ⟨_, rfl, a, c, 9, rfl, hB, by decide, by decide, fun r1 H1 h1a h1b B1 k1 => ⟨_, _, rfl, rfl, ?_⟩⟩
    obtain ⟨rooms, er, ro2, ro10⟩ : ∃ n : Nat, 2 + r1 = (n : Int) ∧ 2 ≤ n ∧ n ≤ 10 := ⟨(2 + r1).toNat, by omega, by omega, by omega⟩
    show gName 1 (V.int (2 + r1)) _ _ _
    rw [er]
    -- left = list(range(rooms))
    refine ⟨_, rfl, _, rfl, RgOk.of_le (by omega) (by omega) (by omega) (by omega), fun l nl => ?_⟩
    rw [rgV_nats]
    have ol := B1.out nl
    have nlH := k1.free nl
    -- order
    refine ⟨_, rfl, _, rfl, by omega, by omega, fun D nD => ?_⟩
    have B2 := B1.new (o := .lst ((natsL (List.range rooms)).map V.int)) nl
    have k2 : Kp [a, c] H (upd H1 l (.lst ((natsL (List.range rooms)).map V.int))) := k1.new nlH
    have oD := B2.out nD
    have nDH := k2.free nD
    have neD : D ≠ l := fun e => by rw [e, upd_same] at nD; cases nD
    refine lc_range (lo := 0) (n := rooms) (fun i H3 => ∃ os ls : List Nat, os.length = i ∧ (os ++ ls).Perm (List.range rooms) ∧ H3 D = some (.lst ((natsL os).map V.int)) ∧ H3 l = some (.lst ((natsL ls).map V.int)) ∧ Bag H3 a c ∧ Kp [a, c] H H3)
      ⟨[], List.range rooms, rfl, List.Perm.refl _, upd_same, by rw [upd_ne neD.symm, upd_same], B2.new nD, k2.new nDH⟩ ?_ ?_
    · rintro i H3 hi ⟨os, ls, lo, pm, hD, hl, B3, k3⟩
      have hlen := pm.length_eq
      rw [List.length_append, List.length_range] at hlen
      refine ⟨rfl, _, rfl, .inl ⟨rfl, _, .inl (.inl hl)⟩, _, rfl, _, rfl, _, _, rfl, .inl (.inl (.inl hl)), a, c, _, rfl, B3, by rw [List.length_map, natsL_len]; omega, by rw [List.length_map, natsL_len]; omega, fun r4 H4 h4a h4b B4 k4 => ?_⟩
      rw [List.length_map, natsL_len] at h4b
      obtain ⟨j, rfl⟩ : ∃ j : Nat, r4 = (j : Int) := ⟨r4.toNat, by omega⟩
      have hj : j < ls.length := by omega
      have hl4 := k4.at hl ol
      have hD4 := k4.at hD oD
      refine ⟨l, _, _, j, .int (ls[j] : Nat), rfl, rfl, hl4, by omega, by omega, ?_, ?_, ?_⟩
      · rw [List.length_map, natsL_len]
        exact seqIndex_of (by omega) (by omega)
      · rw [List.getElem?_map, natsL_at (List.getElem?_eq_getElem hj)]; rfl
      · refine ⟨_, by rw [upd_ne neD]; exact hD4, ?_, os ++ [ls[j]], ls.eraseIdx j, by rw [List.length_append, lo]; rfl, ?_, ?_, ?_, (B4.wr ol).wr oD, ((k3.trans k4).new nlH).new nDH⟩
        · rw [List.length_map, natsL_len]; exact small1000 (by omega)
        · rw [List.append_assoc]
          refine (List.Perm.append_left os ?_).trans pm
          exact erase_perm hj
        · rw [upd_same]; unfold natsL; rw [List.map_append, List.map_append]; rfl
        · rw [upd_ne neD.symm, upd_same]
          unfold natsL
          rw [map_erase, map_erase]
    · rintro H3 ⟨os, ls, lo, pm, hD, hl, B3, k3⟩
      have lls : ls = [] := by
        have := pm.length_eq
        rw [List.length_append, List.length_range] at this
        exact List.eq_nil_of_length_eq_zero (by omega)
      subst lls
      rw [List.append_nil] at pm
      have nd : os.Nodup := pm.nodup_iff.mpr List.nodup_range
      have lt : ∀ r ∈ os, r < rooms := fun r hr => List.mem_range.mp ((pm.mem_iff).mp hr)
      -- doors = []
      refine ⟨Nat.zero_le _, fun L nL => ?_⟩
      have oL := B3.out nL
      have nLH := k3.free nL
      have oD3 : D ∉ [a, c] := oD
      have neL : L ≠ D := ne_new hD nL
      have sub : ∀ b ∈ [a, c], b ∈ [a, c, L] := fun b hb => by simp only [List.mem_cons, List.not_mem_nil, or_false] at hb ⊢; rcases hb with z | z <;> simp [z]
      refine ⟨_, rfl, _, _, rfl, rfl, (((rooms - 1 : Nat) : Int)), congrArg (fun z => [V.int z]) (by omega), by omega, by omega, for_range (lo := 0) (n := rooms - 1) (fun i σ H4 => ∃ (ds : List (Nat × Nat)) (vs : List V) (x1 x2 : Option V), σ = [some (.ref a), some (.int rooms), some (.ref l), some (.ref D), some (.ref L), x1, x2, none] ∧ H4 D = some (.lst ((natsL os).map V.int)) ∧ H4 L = some (.lst vs) ∧ DpAll K (hid [a, c, L] H4) vs (ds.map pairD) ∧ ds.length = i ∧ Doors rooms ds ∧ Bag H4 a c ∧ Kp [a, c] H H4)
        ⟨[], [], none, none, rfl, (same_new nL) _ _ hD, upd_same, .nil, rfl, (fun d hd => by cases hd), B3.new nL, k3.new nLH⟩ ?_ ?_⟩
      · rintro i σ H4 hi ⟨ds, vs, x1, x2, rfl, hD4, hL4, hds, hlen, hok, B4, k4⟩
        have hvl : vs.length = ds.length := by rw [dps_len hds, List.length_map]
        have i1 : i < os.length := by omega
        have i2 : i + 1 < os.length := by omega
        have g1 : ((natsL os).map V.int)[i]? = some (.int (os[i] : Nat)) := by rw [List.getElem?_map, natsL_at (List.getElem?_eq_getElem i1)]; rfl
        have g2 : ((natsL os).map V.int)[i + 1]? = some (.int (os[i + 1] : Nat)) := by rw [List.getElem?_map, natsL_at (List.getElem?_eq_getElem i2)]; rfl
        have ne12 : os[i] ≠ os[i + 1] := fun e => by
          have := List.pairwise_iff_getElem.mp nd i (i + 1) i1 i2 (by omega)
          exact this e
        have l1 := lt _ (List.getElem_mem i1)
        have l2 := lt _ (List.getElem_mem i2)
        -- pair
        have g2' : atI ((natsL os).map V.int) (0 + (i : Int) + 1) = some (.int (os[i + 1] : Nat)) := by
          have := atI_nat g2
          rw [show ((i + 1 : Nat) : Int) = 0 + (i : Int) + 1 by omega] at this
          exact this
        refine ⟨_, rfl, _, rfl, _, _, _, _, rfl, rfl, .inl (.inl hD4), by rw [Int.zero_add]; exact atI_nat g1, _, rfl, _, rfl, _, _, rfl, rfl, _, _, _, _, rfl, rfl, .inl (.inl hD4), g2', (by show 2 ≤ sizeLine; decide), fun p np => ?_⟩
        have hp5 : (upd H4 p (.tup [.int (os[i] : Nat), .int (os[i + 1] : Nat)])) p = some (.tup [.int (os[i] : Nat), .int (os[i + 1] : Nat)]) := upd_same
        have B5 := B4.new (o := .tup [.int (os[i] : Nat), .int (os[i + 1] : Nat)]) np
        have k45 : Kp [a, c] H4 (upd H4 p (.tup [.int (os[i] : Nat), .int (os[i + 1] : Nat)])) := Kp.refl.new (hid_none np)
        have op := B4.out np
        have npL : p ≠ L := ne_new hL4 np
        generalize (upd H4 p (.tup [.int (os[i] : Nat), .int (os[i + 1] : Nat)])) = H5 at hp5 B5 k45 ⊢
        -- doors.append(pair[::[1, -1][draw(bag, 2)]])
        refine ⟨_, rfl, .inl ⟨rfl, _, .inl (.inl (k45.at hL4 oL))⟩, _, rfl, _, rfl, (by show 2 ≤ sizeLine; decide), fun w nw => ?_⟩
        have k56 : Kp [a, c] H5 (upd H5 w (.lst [.int 1, .int (-1)])) := Kp.refl.new (hid_none nw)
        refine ⟨_, rfl, a, c, 2, rfl, B5.new nw, by decide, by decide, fun r7 H7 h7a h7b B7 k7 => ?_⟩
        obtain ⟨v, e, hv⟩ := atI_two (x := V.int 1) (y := V.int (-1)) h7a h7b
        have k57 := k56.trans k7
        have k47 := k45.trans k57
        have hp7 := k57.at hp5 op
        have hL7 := k47.at hL4 oL
        have hds7 := dps_same (k47.mono sub) hds
        have hs7 : SqL K H7 w [.int 1, .int (-1)] := .inl (.inl (k7.at upd_same (B5.out nw)))
        have oLn : ∀ z : Addr, z ∉ [a, c] → z ≠ L → z ∉ [a, c, L] := fun z h1 h2 h3 => by
          simp only [List.mem_cons, List.not_mem_nil, or_false] at h1 h3
          rcases h3 with h3 | h3 | h3
          · exact h1 (.inl h3)
          · exact h1 (.inr h3)
          · exact h2 h3
        have hD7 := k47.at hD4 oD
        rcases hv with rfl | rfl
        · refine ⟨_, _, _, _, rfl, rfl, hs7, e, 1, p, _, _, rfl, rfl, .inl (.inl hp7), .inl rfl, fun _ => ?_, fun z => absurd z (by decide)⟩
          refine ⟨L, vs, .ref p, rfl, rfl, hL7, small1000 (by omega), ds ++ [(os[i], os[i + 1])], vs ++ [.ref p], _, _, rfl, by rw [upd_ne neL.symm]; exact hD7, upd_same, ?_, by rw [List.length_append, hlen]; rfl, ?_, B7.wr oL, ((k4.trans k47).new nLH)⟩
          · have kk : Same (hid [a, c, L] H7) (hid [a, c, L] (upd H7 L (.lst (vs ++ [.ref p])))) := Kp.refl.wr (by simp)
            rw [List.map_append]
            exact dps_app (dps_same kk hds7) (.cons (dp_same kk (mk_pair (hid_of hp7 (oLn p op npL)) (.int _) (.int _))) .nil)
          · intro x hx
            rcases List.mem_append.mp hx with hx | hx
            · exact hok x hx
            · rw [List.mem_singleton.mp hx]; exact ⟨l1, l2, ne12⟩
        · refine ⟨_, _, _, _, rfl, rfl, hs7, e, -1, p, _, _, rfl, rfl, .inl (.inl hp7), .inr rfl, (fun z => absurd z (by decide)), fun _ p8 np8 => ?_⟩
          have np8L : p8 ≠ L := ne_new hL7 np8
          have op8 := B7.out np8
          have k78 : Kp [a, c] H7 (upd H7 p8 (.tup [.int (os[i + 1] : Nat), .int (os[i] : Nat)])) := Kp.refl.new (hid_none np8)
          have hL8 := k78.at hL7 oL
          have hD8 := k78.at hD7 oD
          have hds8 := dps_same (k78.mono sub) hds7
          have hp8 : (upd H7 p8 (.tup [.int (os[i + 1] : Nat), .int (os[i] : Nat)])) p8 = some (.tup [.int (os[i + 1] : Nat), .int (os[i] : Nat)]) := upd_same
          have B8 := B7.new (o := .tup [.int (os[i + 1] : Nat), .int (os[i] : Nat)]) np8
          refine ⟨L, vs, .ref p8, rfl, rfl, hL8, small1000 (by omega), ds ++ [(os[i + 1], os[i])], vs ++ [.ref p8], _, _, rfl, by rw [upd_ne neL.symm]; exact hD8, upd_same, ?_, by rw [List.length_append, hlen]; rfl, ?_, B8.wr oL, (((k4.trans k47).trans k78).new nLH)⟩
          · have kk : Same (hid [a, c, L] (upd H7 p8 (.tup [.int (os[i + 1] : Nat), .int (os[i] : Nat)]))) (hid [a, c, L] (upd (upd H7 p8 (.tup [.int (os[i + 1] : Nat), .int (os[i] : Nat)])) L (.lst (vs ++ [.ref p8])))) := Kp.refl.wr (by simp)
            rw [List.map_append]
            exact dps_app (dps_same kk hds8) (.cons (dp_same kk (mk_pair (hid_of hp8 (oLn p8 op8 np8L)) (.int _) (.int _))) .nil)
          · intro x hx
            rcases List.mem_append.mp hx with hx | hx
            · exact hok x hx
            · rw [List.mem_singleton.mp hx]; exact ⟨l2, l1, ne12.symm⟩
      · rintro σ H4 ⟨ds, vs, x1, x2, rfl, hD4, hL4, hds, hlen, hok, B4, k4⟩
        have hvl : vs.length = ds.length := by rw [dps_len hds, List.length_map]
        -- turn
        refine ⟨_, rfl, _, rfl, _, _, rfl, rfl, a, c, _, rfl, B4, by omega, by omega, fun r5 H5 h5a h5b B5 k5 => ?_⟩
        obtain ⟨tn, rfl⟩ : ∃ n : Nat, r5 = (n : Int) := ⟨r5.toNat, by omega⟩
        have htn : tn ≤ vs.length := by omega
        have hL5 := k5.at hL4 oL
        have hds5 := dps_same (k5.mono sub) hds
        -- (rooms, doors[turn:] + doors[:turn])
        refine ⟨_, rfl, _, rfl, _, rfl, (tn : Int), rfl, L, vs, rfl, .inl (.inl hL5), fun s1 ns1 => ?_⟩
        rw [cut_from vs tn htn]
        have hL6 := (same_new (o := .lst (vs.drop tn)) ns1) _ _ hL5
        refine ⟨_, rfl, _, rfl, (tn : Int), rfl, L, vs, rfl, .inl (.inl hL6), fun s2 ns2 => ?_⟩
        rw [cut_to vs tn htn]
        have hs1 := (same_new (o := .lst (vs.take tn)) ns2) _ _ (upd_same (H := H5) (a := s1) (o := .lst (vs.drop tn)))
        refine ⟨s1, s2, _, _, rfl, rfl, hs1, upd_same, ?_, fun s3 ns3 => ⟨(by show 2 ≤ sizeLine; decide), fun hp nhp => ?_⟩⟩
        · rw [List.length_drop, List.length_take]
          exact Nat.le_of_lt (small1000 (by omega))
        have B6 := ((B5.new (o := .lst (vs.drop tn)) ns1).new (o := .lst (vs.take tn)) ns2).new (o := .lst (vs.drop tn ++ vs.take tn)) ns3
        have k56 : Kp [a, c] H5 (upd (upd (upd H5 s1 (.lst (vs.drop tn))) s2 (.lst (vs.take tn))) s3 (.lst (vs.drop tn ++ vs.take tn))) := Kp.same (((same_new ns1).trans (same_new ns2)).trans (same_new ns3))
        have os3 : s3 ∉ [a, c] := (((B5.new (o := .lst (vs.drop tn)) ns1).new (o := .lst (vs.take tn)) ns2)).out ns3
        have hs3 : (upd (upd (upd H5 s1 (.lst (vs.drop tn))) s2 (.lst (vs.take tn))) s3 (.lst (vs.drop tn ++ vs.take tn))) s3 = some (.lst (vs.drop tn ++ vs.take tn)) := upd_same
        generalize (upd (upd (upd H5 s1 (.lst (vs.drop tn))) s2 (.lst (vs.take tn))) s3 (.lst (vs.drop tn ++ vs.take tn))) = H6 at B6 k56 hs3 nhp ⊢
        have k67 : Kp [a, c] H6 (upd H6 hp (.tup [.int (rooms : Int), .ref s3])) := Kp.refl.new (hid_none nhp)
        have k47 := (k4.trans k5).trans (k56.trans k67)
        refine q _ _ rooms (ds.drop tn ++ ds.take tn) (by omega) ro10 ?_ ?_ (B6.new nhp) k47 (mk_pair (hid_of upd_same (B6.out nhp)) (.int _) ?_)
        · rw [List.length_append, List.length_drop, List.length_take]; omega
        · intro x hx
          rcases List.mem_append.mp hx with hx | hx
          · exact hok x (List.mem_of_mem_drop hx)
          · exact hok x (List.mem_of_mem_take hx)
        · refine .lst (.inl (.inl (hid_of (k67.at hs3 os3) os3))) ?_
          rw [List.map_append, List.map_drop, List.map_take]
          have kk := dps_same (hid_sub sub) (dps_same ((k56.trans k67).mono sub) hds5)
          exact dps_app (dps_drop tn kk) (dps_take tn kk)
end
end Bd
namespace Bd
open PySem PySem.Spec PyProof.Rows L2 HT
section
variable {P : Program} {w : World} {K : PySem.W.Frag} {mg : Str → Option Value} {base : Heap}
theorem ok_tallies {f : Addr} {fd : FuncData} (F : Fun K "_law_tallies" "_law_tallies" sLawTallies f fd) (cal_law_draw : Ca P w K mg base 1 "_law_draw" spDraw) (m_len : mg "len" = none) (m_range : mg "range" = none) (m_int : mg "int" = none) : FnOk P w K mg base CX0 2 f fd ["bag", "doors"] (spTallies K) := by
  have sc := scLawTallies
  refine F.ok scLawTallies (fun vs H Q E h => ?_) (fun cdv A outer s H vs Q E hr h => ?_)
  · obtain ⟨a, c, dv, ds, rfl, _⟩ := h
    rfl
  · obtain ⟨a, c, dv, ds, rfl, hB, hd, hl, q⟩ := h
    refine ⟨_, (pss_cons (ps_if (pt_cmpR op_eq (pe_u cal_law_draw hr (by first | decide | exact Nat.le_refl _ | omega) (by rfl) (pa_cons (pv 0) (pa_cons pe_int pa_nil))) pe_int (nomark _))
    (pss_one (ps_ret (pe_lc (own := [("pair", 3)]) (g := gName 3) (tt := tYes) (by rfl) sc.nd  (pi_list (pv 1)) (blkOk_by (own := [("pair", 3)]) (N := ["bag", "doors", "at", "pair", "k"]) (sc := defScope sLawTallies) (by decide +kernel)) (fun _ _ _ _ _ => (pg_name (i := 3) sc.nd rfl (.inl rfl))) (fun _ _ _ _ _ => pts_nil) (fun _ _ _ _ _ => (pe_ix (ixK (rIxL K) ix_list) (pe_lst (pa_cons pe_int (pa_cons pe_int (pa_cons pe_int (pa_cons (pe_u cal_law_draw hr (by first | decide | exact Nat.le_refl _ | omega) (by rfl) (pa_cons (pv 0) (pa_cons (pe_op op_pow pe_int pe_int) pa_nil))) pa_nil))))) (pe_u cal_law_draw hr (by first | decide | exact Nat.le_refl _ | omega) (by rfl) (pa_cons (pv 0) (pa_cons pe_int pa_nil))) (fun _ _ => rfl))))))
    pss_nil)
  (pss_cons (ps_set (i := 2) sc.nd rfl (.inr rfl) (pe_u cal_law_draw hr (by first | decide | exact Nat.le_refl _ | omega) (by rfl) (pa_cons (pv 0) (pa_cons (pe_op op_add (pe_callB call_len_seq (by rfl) m_len PySem.boot_len (pa_cons (pv 1) pa_nil)) pe_int) pa_nil))))
  (pss_one (ps_ret (pe_lc (own := [("k", 4)]) (g := gName 4) (tt := tYes) (by rfl) sc.nd  (pi_range1 (by rfl) m_range (pa_cons (pe_callB call_len_seq (by rfl) m_len PySem.boot_len (pa_cons (pv 1) pa_nil)) pa_nil)) (blkOk_by (own := [("k", 4)]) (N := ["bag", "doors", "at", "pair", "k"]) (sc := defScope sLawTallies) (by decide +kernel)) (fun _ _ _ _ _ => (pg_name (i := 4) sc.nd rfl (.inl rfl))) (fun _ _ _ _ _ => pts_nil) (fun _ _ _ _ _ => (pe_op op_mul (pe_op op_add pe_int (pe_u cal_law_draw hr (by first | decide | exact Nat.le_refl _ | omega) (by rfl) (pa_cons (pv 0) (pa_cons pe_int pa_nil)))) (pe_callTy call_int1 (by rfl) m_int (by decide +kernel) (pa_cons (pe_cmpR op_ne (pv 4) (pv 2) (nomark _)) pa_nil))))))))), ?_⟩
    obtain ⟨dl, vs, rfl, sd, dd⟩ := dp_list hd
    have lv : vs.length = ds.length := by rw [dps_len dd, List.length_map]
    refine ⟨_, rfl, a, c, 2, rfl, hB, by decide, by decide, fun r0 H0 h0a h0b B0 k0 => ⟨rfl, _, rfl, ite2 (fun e0 => ?_) (fun e0 => ?_)⟩⟩
    · refine ⟨_, rfl, dl, rfl, ⟨_, hid_same.seq (Same.seq k0 sd)⟩, fun D nD => ?_⟩
      have oD := B0.out nD
      have nDH := k0.free nD
      refine lc_list (K := K) (a := dl) (xs := vs) (fun i H1 => ∃ cs : List Int, cs.length = i ∧ (∀ x ∈ cs, 0 ≤ x ∧ x < 10 ^ 20) ∧ H1 D = some (.lst (cs.map V.int)) ∧ Bag H1 a c ∧ Kp [a, c] H H1)
        ⟨[], rfl, (fun x hx => by cases hx), upd_same, B0.new nD, k0.new nDH⟩ (fun i H1 _ ⟨_, _, _, _, _, k⟩ => hid_same.seq (Same.seq k sd)) ?_ ?_
      · rintro i x H1 hx ⟨cs, lc, bc, hD, B1, k1⟩
        have hi := lt_of_at hx
        refine ⟨rfl, ?_⟩
        refine ⟨_, rfl, _, _, rfl, rfl, ⟨by decide, by decide, by decide⟩, a, c, _, rfl, B1, (by show (0 : Int) < 10 ^ 20; decide), (by show (10 : Int) ^ 20 < 2 ^ 1000; decide +kernel), fun r3 H3 h3a h3b B3 k3 => ?_⟩
        refine ⟨(by show 4 ≤ sizeLine; decide), fun p np => ?_⟩
        refine ⟨_, rfl, a, c, 4, rfl, B3.new np, by decide, by decide, fun r4 H4 h4a h4b B4 k4 => ?_⟩
        obtain ⟨v, e, hv⟩ := atI_four (x := V.int 0) (y := V.int 0) (z := V.int 1) (u := V.int r3) h4a h4b
        obtain ⟨m, rfl, m0, m1⟩ : ∃ m : Int, v = .int m ∧ 0 ≤ m ∧ m < 10 ^ 20 := by
          rcases hv with rfl | rfl | rfl | rfl
          · exact ⟨0, rfl, by decide, by decide⟩
          · exact ⟨0, rfl, by decide, by decide⟩
          · exact ⟨1, rfl, by decide, by decide⟩
          · exact ⟨r3, rfl, h3a, h3b⟩
        have k14 : Kp [a, c] H1 H4 := (k3.new (k3.free np)).trans k4
        refine ⟨_, _, _, _, rfl, rfl, .inl (.inl (k4.at upd_same (B3.out np))), e, cs.map V.int, k14.at hD oD, ?_, cs ++ [m], ?_, ?_, ?_, B4.wr oD, (k1.trans k14).new nDH⟩
        · rw [List.length_map]; exact small1000 (by omega)
        · rw [List.length_append, lc]; rfl
        · intro x hx
          rcases List.mem_append.mp hx with hx | hx
          · exact bc x hx
          · rw [List.mem_singleton.mp hx]; exact ⟨m0, m1⟩
        · rw [upd_same, List.map_append]; rfl
      · rintro H1 ⟨cs, lc, bc, hD, B1, k1⟩
        exact q D H1 cs (by omega) bc B1 k1 (mk_ints (hid_of hD oD))
    · -- at = draw(bag, len(doors) + 1)
      refine ⟨_, rfl, _, rfl, _, _, rfl, .inl (hid_same.seq (Same.seq k0 sd)), _, _, rfl, rfl, a, c, _, rfl, B0, by omega, by omega, fun r1 H1 h1a h1b B1 k01 => ?_⟩
      have k1 := k0.trans k01
      refine ⟨_, rfl, _, _, rfl, .inl (hid_same.seq (Same.seq k1 sd)), _, rfl, by omega, by omega, fun D nD => ?_⟩
      have oD := B1.out nD
      have nDH := k1.free nD
      refine lc_range (lo := 0) (n := vs.length) (fun i H2 => ∃ cs : List Int, cs.length = i ∧ (∀ x ∈ cs, 0 ≤ x ∧ x < 10 ^ 20) ∧ H2 D = some (.lst (cs.map V.int)) ∧ Bag H2 a c ∧ Kp [a, c] H H2)
        ⟨[], rfl, (fun x hx => by cases hx), upd_same, B1.new nD, k1.new nDH⟩ ?_ ?_
      · rintro i H2 hi ⟨cs, lc, bc, hD, B2, k2⟩
        refine ⟨rfl, _, rfl, a, c, 3, rfl, B2, by decide, by decide, fun r3 H3 h3a h3b B3 k3 => ⟨_, _, rfl, rfl, _, rfl, _, rfl, rfl, .inr ⟨_, rfl, _, _, rfl, rfl, .inl ⟨by omega, by omega⟩, ?_⟩⟩⟩
        have k23 := k2.trans k3
        refine ⟨_, k3.at hD oD, ?_, cs ++ [(1 + r3) * (if (!decide (V.int (0 + (i : Int)) = V.int r1)) = true then 1 else 0)], ?_, ?_, ?_, B3.wr oD, k23.new nDH⟩
        · rw [List.length_map]; exact small1000 (by omega)
        · rw [List.length_append, lc]; rfl
        · intro x hx
          rcases List.mem_append.mp hx with hx | hx
          · exact bc x hx
          · rw [List.mem_singleton.mp hx]
            split
            · rw [Int.mul_one]; exact ⟨by omega, by omega⟩
            · rw [Int.mul_zero]; exact ⟨by decide, by decide⟩
        · rw [upd_same, List.map_append]; rfl
      · rintro H2 ⟨cs, lc, bc, hD, B2, k2⟩
        exact q D H2 cs (by omega) bc B2 k2 (mk_ints (hid_of hD oD))
end
end Bd
namespace Bd
open PySem PySem.Spec PyProof.Rows L2 HT
abbrev sLaw : Stmt := topS 10
theorem scLaw : FnScope ["script", "bag", "k", "site", "tallies", "kept", "due", "found"] ["script"] (defScope sLaw) := ⟨rfl, rfl, rfl, by decide +kernel, rfl, by decide +kernel, by decide +kernel⟩
theorem gd_lots {ls : List (List Nat)} (l : ls.length ≤ 1000) (h : ∀ x ∈ ls, x.length ≤ 1000) : Gd 2 (lotsD ls) := by
  refine .lst (fun d hd => ?_) (by rw [List.length_map]; exact l)
  obtain ⟨x, hx, rfl⟩ := List.mem_map.mp hd
  exact gd_ints (by rw [natsL_len]; exact h x hx)
theorem parts_small {rooms : Nat} {z : List Dc} (h : rooms ≤ 50) : (partsL rooms z).length ≤ 1000 ∧ ∀ x ∈ partsL rooms z, x.length ≤ 1000 := by
  unfold partsL lotsOf
  constructor
  · rw [List.length_map]
    exact Nat.le_trans (List.length_filter_le _ _) (by rw [List.length_range]; omega)
  · intro x hx
    obtain ⟨m, _, rfl⟩ := List.mem_map.mp hx
    exact Nat.le_trans (List.length_filter_le _ _) (by rw [List.length_range]; omega)
theorem newlots_head {H0 H : Hp} {p : Addr} : ∀ {qs : List Addr} {ls : List (List Nat)}, NewLots H0 H p qs ls → ls ≠ [] → ∃ q0 qs' l0 ls', qs = q0 :: qs' ∧ ls = l0 :: ls' ∧ H0 q0 = none ∧ q0 ≠ p ∧ H q0 = some (.lst ((natsL l0).map V.int))
  | _, _, .nil, h => absurd rfl h
  | _, _, .cons h1 _, _ => ⟨_, _, _, _, rfl, rfl, h1⟩
theorem parts_ne {rooms : Nat} {z : List Dc} (h : 0 < rooms) (hz : ∀ x ∈ z, x.1.1 < rooms ∧ x.1.2 < rooms) : partsL rooms z ≠ [] := fun e => by
  have := kinds_pos (led_all z hz) h
  exact this (List.map_eq_nil_iff.mp e)
section
variable {P : Program} {w : World} {K : PySem.W.Frag} {mg : Str → Option Value} {base : Heap}
theorem ok_law {f : Addr} {fd : FuncData} (F : Fun K "law" "law" sLaw f fd) (cal_law_bag : Ca P w K mg base 1 "_law_bag" (spBag K)) (cal_law_ground : Ca P w K mg base 2 "_law_ground" (spGround K)) (cal_law_row : Ca P w K mg base 2 "_law_row" (spRow K)) (cal_law_tallies : Ca P w K mg base 2 "_law_tallies" (spTallies K))
    (cal_law_meant : Ca P w K mg base 1 "_law_meant" (spMeant K)) (cal_parts : Ca P w K mg base 1 "parts" (spParts K)) (kwparts : Ck P w K mg base 1 "parts" ["counts", "house"] (fun vs => match vs with | [c, h] => [h, c] | _ => []) (spParts K)) (cal_law_alike : Ca P w K mg base 3 "_law_alike" (spAlike K 3))
    (m_range : mg "range" = none) (m_repr : mg "repr" = none) : FnG P w K mg base 4 f fd ["script"] (spLaw K) := by
  have sc := scLaw
  have kw_parts := kwparts
  refine fnG_of F scLaw (fun vs H Q E h => ?_) (fun cdv A outer s H vs Q E hr hg h => ?_)
  · obtain ⟨a, ns, rfl, _⟩ := h
    rfl
  · obtain ⟨a, ns, rfl, hS, hlen, q⟩ := h
    refine ⟨_, (pss_cons (ps_set (i := 1) sc.nd rfl (.inl rfl) (pe_u cal_law_bag hr (by first | decide | exact Nat.le_refl _ | omega) (by rfl) (pa_cons (pv 0) pa_nil)))
  (pss_cons (ps_for PassesOwn.never rfl (pi_range1 (by rfl) m_range (pa_cons pe_int pa_nil)) (pg_name (i := 2) sc.nd rfl (.inl rfl))
    (pss_cons (ps_set (i := 3) sc.nd rfl (.inl rfl) (pe_u cal_law_ground hr (by first | decide | exact Nat.le_refl _ | omega) (by rfl) (pa_cons (pv 1) (pa_cons pe_int (pa_cons pe_int pa_nil)))))
  (pss_mid (ps_if (pt_cmpR op_eq (pe_op op_mod (pv 2) pe_int) pe_int (nomark _))
    (pss_one (ps_set (i := 3) sc.nd rfl (.inl rfl) (pe_u cal_law_row hr (by first | decide | exact Nat.le_refl _ | omega) (by rfl) (pa_cons (pv 1) pa_nil))))
    pss_nil)
  (pss_cons (ps_set (i := 4) sc.nd rfl (.inl rfl) (pe_u cal_law_tallies hr (by first | decide | exact Nat.le_refl _ | omega) (by rfl) (pa_cons (pv 1) (pa_cons (pe_ix ix_tup (pv 3) pe_int (fun _ _ => rfl)) pa_nil))))
  (pss_cons (ps_set (i := 5) sc.nd rfl (.inl rfl) (pe_callB (call_reprD hg hr.units) (by rfl) m_repr (by decide +kernel) (pa_cons (pe_lst (pa_cons (pv 3) (pa_cons (pv 4) pa_nil))) pa_nil)))
  (pss_cons (ps_set (i := 6) sc.nd rfl (.inl rfl) (pe_u cal_law_meant hr (by first | decide | exact Nat.le_refl _ | omega) (by rfl) (pa_cons (pe_ix ix_tup (pv 3) pe_int (fun _ _ => rfl)) (pa_cons (pe_ix ix_tup (pv 3) pe_int (fun _ _ => rfl)) (pa_cons (pv 4) pa_nil)))))
  (pss_cons (ps_set (i := 7) sc.nd rfl (.inl rfl) (pe_u cal_parts hr (by first | decide | exact Nat.le_refl _ | omega) (by rfl) (pa_cons (pv 3) (pa_cons (pv 4) pa_nil))))
  (pss_cons (ps_if (pt_not (pt_val (pe_u cal_law_alike hr (by first | decide | exact Nat.le_refl _ | omega) (by rfl) (pa_cons (pv 7) (pa_cons (pv 6) pa_nil)))))
    (pss_one (ps_ret pe_bl))
    pss_nil)
  (pss_cons (ps_expr (pe_bm PySem.F.plainAttrs_list PySem.F.slot_list_append PySem.F.type_list_append mt_append (pe_ix ix_list (pv 7) pe_int (fun _ _ => rfl)) (pa_cons pe_int pa_nil)))
  (pss_cons (ps_expr (pe_bm PySem.F.plainAttrs_list PySem.F.slot_list_append PySem.F.type_list_append mt_append (pv 7) (pa_cons (pe_lst pa_nil) pa_nil)))
  (pss_one (ps_if (PW.pt (pw_or (pt_not (pt_val (pe_u cal_law_alike hr (by first | decide | exact Nat.le_refl _ | omega) (by rfl) (pa_cons (pe_kw kw_parts hr (by first | decide | exact Nat.le_refl _ | omega) (by rfl) (pk_cons (pv 4) (pk_cons (pv 3) pk_nil))) (pa_cons (pv 6) pa_nil))))) (pw_or1 (pt_cmpR op_ne (pe_callB (call_reprD hg hr.units) (by rfl) m_repr (by decide +kernel) (pa_cons (pe_lst (pa_cons (pv 3) (pa_cons (pv 4) pa_nil))) pa_nil)) (pv 5) (nomark _)))))
    (pss_one (ps_ret pe_bl))
    pss_nil))))))))))))
  (pss_one (ps_ret pe_bl)))), ?_⟩
    refine ⟨_, rfl, a, ns, rfl, hS, hlen, fun b c H1 k1 nb nc B1 => ?_⟩
    refine ⟨4, rfl, by decide, by decide, for_range (lo := 0) (n := 4) (fun i σ H2 => ∃ x1 x2 x3 x4 x5 x6, σ = [some (.ref a), some (.ref b), x1, x2, x3, x4, x5, x6] ∧ Bag H2 b c) ⟨_, _, _, _, _, _, rfl, B1⟩ ?_ ?_⟩
    · rintro i σ H2 hi ⟨x1, x2, x3, x4, x5, x6, rfl, B2⟩
      -- site
      refine ⟨_, rfl, b, c, 10, 24, rfl, B2, by decide, by decide, by decide, fun hv0 H3' rooms0 ds0 r00 r10 lds0 hok0 B3' k3' dh0 => ?_⟩
      refine ⟨fun σ' H3 => ∃ hv rooms ds, σ' = [some (.ref a), some (.ref b), some (.int (0 + (i : Int))), some hv, x3, x4, x5, x6] ∧ 0 < rooms ∧ rooms ≤ 10 ∧ ds.length ≤ 24 ∧ Doors rooms ds ∧ Bag H3 b c ∧ Dp K (hid [b, c] H3) hv (houseD rooms ds), ?_, ?_⟩
      · refine ⟨_, rfl, _, _, rfl, rfl, (by show (0 : Int) < 2; decide), rfl, _, rfl, ite2 (fun e => ?_) (fun e => ?_)⟩
        · exact ⟨_, rfl, b, c, rfl, B3', fun hv H3 rooms ds r0 r1 lds hok B3 k3 dh => ⟨hv, rooms, ds, rfl, r0, r1, lds, hok, B3, dh⟩⟩
        · exact ⟨hv0, rooms0, ds0, rfl, r00, by omega, by omega, hok0, B3', dh0⟩
      · rintro σ' H3 ⟨hv, rooms, ds, rfl, r0, r1, lds, hok, B3, dh⟩
        obtain ⟨s, d, vs, rfl, t1, l1, a1⟩ := house_of dh
        have hzr : ∀ cs : List Int, ∀ x ∈ ds.zip cs, x.1.1 < rooms ∧ x.1.2 < rooms := fun cs => zip_rooms hok
        -- tallies(bag, site[1])
        refine ⟨_, rfl, _, rfl, _, _, _, _, rfl, rfl, same_tup hid_same t1, rfl, b, c, _, ds, rfl, B3, .lst l1 a1, by omega, fun t H4 cs lcs bcs B4 k4 dt => ?_⟩
        have dh4 := dp_same k4 dh
        -- kept = repr([site, tallies])
        refine ⟨_, rfl, _, rfl, (by show 2 ≤ sizeLine; decide), fun p np => ?_⟩
        have rp : Rp (.list [houseD rooms ds, .list (cs.map .int)]) 4 80002 := rp_two (rp_house hok (by omega) (by omega)) (rp_ints bcs (by omega))
        refine ⟨p, .list [houseD rooms ds, .list (cs.map .int)], 4, 80002, rfl, .lst (.inl (.inl upd_same)) (.cons (dp_same (same_new np) (dp_same hid_same dh4)) (.cons (dp_same (same_new np) (dp_same hid_same dt)) .nil)), rp, by decide, by decide, ?_⟩
        have B5 : Bag (upd H4 p (.lst [.ref s, .ref t])) b c := B4.new np
        have k5 : Kp [b, c] H4 (upd H4 p (.lst [.ref s, .ref t])) := Kp.refl.new (hid_none np)
        have dh5 := dp_same hid_same (dp_same k5 dh4)
        have dt5 := dp_same hid_same (dp_same k5 dt)
        have t5 : SqT K (upd H4 p (.lst [.ref s, .ref t])) s [.int rooms, .ref d] := same_tup hid_same (same_tup (Kp.trans k4 k5) t1)
        have dd5 : Dp K (upd H4 p (.lst [.ref s, .ref t])) (.ref d) (doorsD ds) := dp_same hid_same (dp_same (Kp.trans k4 k5) (.lst l1 a1))
        generalize (upd H4 p (.lst [.ref s, .ref t])) = H5 at B5 k5 dh5 dt5 t5 dd5 ⊢
        -- due = meant(site[0], site[1], tallies)
        refine ⟨_, rfl, _, _, _, _, rfl, rfl, t5, rfl, _, rfl, _, _, _, _, rfl, rfl, t5, rfl, _, rfl, _, _, rooms, ds, cs, rfl, dd5, dt5, by omega, by omega, by omega, hok, fun H6 u us k6 nu hu6 lu6 => ?_⟩
        have gd : Gd 2 (lotsD (partsL rooms (ds.zip cs))) := gd_lots (parts_small (by omega)).1 (parts_small (by omega)).2
        have du6 : Dp K H6 (.ref u) (lotsD (partsL rooms (ds.zip cs))) := .lst (.inl (.inl hu6)) (newlots_dp lu6)
        -- found = parts(site, tallies)
        refine ⟨_, rfl, _, rfl, _, _, rooms, ds, cs, rfl, dp_same k6 dh5, dp_same k6 dt5, by omega, by omega, by omega, hok, fun H7 f7 qs k7 nf hf lf => ?_⟩
        have df7 : Dp K H7 (.ref f7) (lotsD (partsL rooms (ds.zip cs))) := .lst (.inl (.inl hf)) (newlots_dp lf)
        refine ⟨_, rfl, _, rfl, _, _, _, rfl, df7, dp_same k7 du6, gd, fun H8 k8 => ⟨_, rfl, ifF (by decide) ?_⟩⟩
        have k68 := k7.trans k8
        have hf8 := k8 _ _ hf
        -- found[0].append(99)
        obtain ⟨q0, qs', l0, ls', rfl, el, nq0, neq0, hq0⟩ : ∃ q0 qs' l0 ls', qs = q0 :: qs' ∧ partsL rooms (ds.zip cs) = l0 :: ls' ∧ H6 q0 = none ∧ q0 ≠ f7 ∧ H7 q0 = some (.lst ((natsL l0).map V.int)) := by
          exact newlots_head lf (parts_ne r0 (hzr cs))
        have hl0 : l0.length ≤ 1000 := (parts_small (z := ds.zip cs) (rooms := rooms) (by omega)).2 l0 (by rw [el]; exact List.mem_cons_self)
        have hlq : (q0 :: qs').length ≤ 1000 := by
          have h1 := Paired.length lf
          rw [h1]
          exact (parts_small (by omega)).1
        have at0 : atI ((q0 :: qs').map V.ref) 0 = some (.ref q0) := atI_nat (j := 0) rfl
        refine ⟨_, rfl, _, _, _, _, rfl, rfl, .inl (.inl hf8), at0, .inl ⟨rfl, _, .inl (.inl (k8 _ _ hq0))⟩, q0, _, _, rfl, rfl, k8 _ _ hq0, ?_, ?_⟩
        · rw [List.length_map, natsL_len]; exact small1000 hl0
        -- found.append([])
        have hf9 : (upd H8 q0 (.lst ((natsL l0).map V.int ++ [V.int 99]))) f7 = some (.lst ((q0 :: qs').map V.ref)) := by rw [upd_ne neq0.symm]; exact hf8
        refine ⟨_, rfl, .inl ⟨rfl, _, .inl (.inl hf9)⟩, Nat.zero_le _, fun e9 ne9 => ?_⟩
        have hf10 := (same_new (o := .lst []) ne9) _ _ hf9
        refine ⟨f7, _, .ref e9, rfl, rfl, hf10, ?_, ?_⟩
        · rw [List.length_map]; exact small1000 hlq
        have k610 : Same H6 (upd (upd (upd H8 q0 (.lst ((natsL l0).map V.int ++ [V.int 99]))) e9 (.lst [])) f7 (.lst ((q0 :: qs').map V.ref ++ [.ref e9]))) := by
          intro b o z
          rw [upd_ne (ne_of_none z nf)]
          have z8 := k68 _ _ z
          have hbq : b ≠ q0 := ne_of_none z nq0
          have z9 : (upd H8 q0 (.lst ((natsL l0).map V.int ++ [V.int 99]))) b = some o := by rw [upd_ne hbq]; exact z8
          exact (same_new ne9) _ _ z9
        have du10 := dp_same k610 du6
        have k510 := k6.trans k610
        generalize (upd (upd (upd H8 q0 (.lst ((natsL l0).map V.int ++ [V.int 99]))) e9 (.lst [])) f7 (.lst ((q0 :: qs').map V.ref ++ [.ref e9]))) = H10 at k610 du10 k510 ⊢
        -- once more, and the text as before
        refine ⟨_, rfl, _, rfl, _, _, rooms, ds, cs, rfl, dp_same k510 dh5, dp_same k510 dt5, by omega, by omega, by omega, hok, fun H11 f11 rs k11 nf11 hf11 lf11 => ?_⟩
        have df11 : Dp K H11 (.ref f11) (lotsD (partsL rooms (ds.zip cs))) := .lst (.inl (.inl hf11)) (newlots_dp lf11)
        refine ⟨_, rfl, _, _, _, rfl, df11, dp_same k11 du10, gd, fun H12 k12 => ⟨_, rfl, ifF (by decide) ?_⟩⟩
        have k512 := (k510.trans k11).trans k12
        refine ⟨_, rfl, _, rfl, (by show 2 ≤ sizeLine; decide), fun u nu => ?_⟩
        have k13 := k512.trans (same_new (o := .lst [.ref s, .ref t]) nu)
        refine ⟨u, .list [houseD rooms ds, .list (cs.map .int)], 4, 80002, rfl, .lst (.inl (.inl upd_same)) (.cons (dp_same k13 dh5) (.cons (dp_same k13 dt5) .nil)), rp, by decide, by decide, ?_⟩
        refine ⟨_, rfl, rfl, _, rfl, ?_⟩
        rw [decide_eq_true rfl]
        refine ifF (by decide) ?_
        exact ⟨_, _, _, _, _, _, rfl, B5.keep k13⟩
    · rintro σ H2 ⟨x1, x2, x3, x4, x5, x6, rfl, B2⟩
      exact q H2
end
end Bd
namespace Bd
open PySem PySem.Spec PyProof.Rows L2 HT
theorem all_mk {P : Program} {w : World} {K : PySem.W.Frag} {h : Heap} {mg : Str → Option Value} {fa : Addr} (X : K.In h) (G : h.Ns mainGlobals mg) (hfa : mg "law" = some (.ref fa))
    {f0 : Addr} {od0 an0 : Option Addr} {sl0 : Array (Option Value)} {oc0 kV0 dc0 pm0 cd0 ct0 : Value} (a0 : PySem.W.nsIn K mainGlobals "parts" = some (some (.ref f0)))
    (l0 : K.lookup f0 = some ⟨oc0, od0, .func (PySem.W.fnOf "parts" "parts" (defArgs sParts) (defBody sParts) (defScope sParts) .none kV0 dc0 pm0 an0 cd0 ct0), sl0⟩) (c0 : PySem.W.codeIn K cd0 "parts" = true) (k0 : PySem.W.keepIn K (.ref f0) = true)
    {f1 : Addr} {od1 an1 : Option Addr} {sl1 : Array (Option Value)} {oc1 kV1 dc1 pm1 cd1 ct1 : Value} (a1 : PySem.W.nsIn K mainGlobals "_law_bag" = some (some (.ref f1)))
    (l1 : K.lookup f1 = some ⟨oc1, od1, .func (PySem.W.fnOf "_law_bag" "_law_bag" (defArgs sLawBag) (defBody sLawBag) (defScope sLawBag) .none kV1 dc1 pm1 an1 cd1 ct1), sl1⟩) (c1 : PySem.W.codeIn K cd1 "_law_bag" = true) (k1 : PySem.W.keepIn K (.ref f1) = true)
    {f2 : Addr} {od2 an2 : Option Addr} {sl2 : Array (Option Value)} {oc2 kV2 dc2 pm2 cd2 ct2 : Value} (a2 : PySem.W.nsIn K mainGlobals "_law_draw" = some (some (.ref f2)))
    (l2 : K.lookup f2 = some ⟨oc2, od2, .func (PySem.W.fnOf "_law_draw" "_law_draw" (defArgs sLawDraw) (defBody sLawDraw) (defScope sLawDraw) .none kV2 dc2 pm2 an2 cd2 ct2), sl2⟩) (c2 : PySem.W.codeIn K cd2 "_law_draw" = true) (k2 : PySem.W.keepIn K (.ref f2) = true)
    {f3 : Addr} {od3 an3 : Option Addr} {sl3 : Array (Option Value)} {oc3 kV3 dc3 pm3 cd3 ct3 : Value} (a3 : PySem.W.nsIn K mainGlobals "_law_ground" = some (some (.ref f3)))
    (l3 : K.lookup f3 = some ⟨oc3, od3, .func (PySem.W.fnOf "_law_ground" "_law_ground" (defArgs sLawGround) (defBody sLawGround) (defScope sLawGround) .none kV3 dc3 pm3 an3 cd3 ct3), sl3⟩) (c3 : PySem.W.codeIn K cd3 "_law_ground" = true) (k3 : PySem.W.keepIn K (.ref f3) = true)
    {f4 : Addr} {od4 an4 : Option Addr} {sl4 : Array (Option Value)} {oc4 kV4 dc4 pm4 cd4 ct4 : Value} (a4 : PySem.W.nsIn K mainGlobals "_law_alike" = some (some (.ref f4)))
    (l4 : K.lookup f4 = some ⟨oc4, od4, .func (PySem.W.fnOf "_law_alike" "_law_alike" (defArgs sLawAlike) (defBody sLawAlike) (defScope sLawAlike) .none kV4 dc4 pm4 an4 cd4 ct4), sl4⟩) (c4 : PySem.W.codeIn K cd4 "_law_alike" = true) (k4 : PySem.W.keepIn K (.ref f4) = true)
    {f5 : Addr} {od5 an5 : Option Addr} {sl5 : Array (Option Value)} {oc5 kV5 dc5 pm5 cd5 ct5 : Value} (a5 : PySem.W.nsIn K mainGlobals "_law_row" = some (some (.ref f5)))
    (l5 : K.lookup f5 = some ⟨oc5, od5, .func (PySem.W.fnOf "_law_row" "_law_row" (defArgs sLawRow) (defBody sLawRow) (defScope sLawRow) .none kV5 dc5 pm5 an5 cd5 ct5), sl5⟩) (c5 : PySem.W.codeIn K cd5 "_law_row" = true) (k5 : PySem.W.keepIn K (.ref f5) = true)
    {f6 : Addr} {od6 an6 : Option Addr} {sl6 : Array (Option Value)} {oc6 kV6 dc6 pm6 cd6 ct6 : Value} (a6 : PySem.W.nsIn K mainGlobals "_law_tallies" = some (some (.ref f6)))
    (l6 : K.lookup f6 = some ⟨oc6, od6, .func (PySem.W.fnOf "_law_tallies" "_law_tallies" (defArgs sLawTallies) (defBody sLawTallies) (defScope sLawTallies) .none kV6 dc6 pm6 an6 cd6 ct6), sl6⟩) (c6 : PySem.W.codeIn K cd6 "_law_tallies" = true) (k6 : PySem.W.keepIn K (.ref f6) = true)
    {f7 : Addr} {od7 an7 : Option Addr} {sl7 : Array (Option Value)} {oc7 kV7 dc7 pm7 cd7 ct7 : Value} (a7 : PySem.W.nsIn K mainGlobals "_law_meant" = some (some (.ref f7)))
    (l7 : K.lookup f7 = some ⟨oc7, od7, .func (PySem.W.fnOf "_law_meant" "_law_meant" (defArgs sLawMeant) (defBody sLawMeant) (defScope sLawMeant) .none kV7 dc7 pm7 an7 cd7 ct7), sl7⟩) (c7 : PySem.W.codeIn K cd7 "_law_meant" = true) (k7 : PySem.W.keepIn K (.ref f7) = true)
    {f8 : Addr} {od8 an8 : Option Addr} {sl8 : Array (Option Value)} {oc8 kV8 dc8 pm8 cd8 ct8 : Value} (a8 : PySem.W.nsIn K mainGlobals "law" = some (some (.ref f8)))
    (l8 : K.lookup f8 = some ⟨oc8, od8, .func (PySem.W.fnOf "law" "law" (defArgs sLaw) (defBody sLaw) (defScope sLaw) .none kV8 dc8 pm8 an8 cd8 ct8), sl8⟩) (c8 : PySem.W.codeIn K cd8 "law" = true) (k8 : PySem.W.keepIn K (.ref f8) = true)
    (z_abs : PySem.W.nsIn K mainGlobals "abs" = some none)
    (z_len : PySem.W.nsIn K mainGlobals "len" = some none)
    (z_range : PySem.W.nsIn K mainGlobals "range" = some none)
    (z_int : PySem.W.nsIn K mainGlobals "int" = some none)
    (z_zip : PySem.W.nsIn K mainGlobals "zip" = some none)
    (z_set : PySem.W.nsIn K mainGlobals "set" = some none)
    (z_isinstance : PySem.W.nsIn K mainGlobals "isinstance" = some none)
    (z_list : PySem.W.nsIn K mainGlobals "list" = some none)
    (z_tuple : PySem.W.nsIn K mainGlobals "tuple" = some none)
    (z_bool : PySem.W.nsIn K mainGlobals "bool" = some none)
    (z_all : PySem.W.nsIn K mainGlobals "all" = some none)
    (z_repr : PySem.W.nsIn K mainGlobals "repr" = some none)
    (z_sorted : PySem.W.nsIn K mainGlobals "sorted" = some none)
    (z_min : PySem.W.nsIn K mainGlobals "min" = some none)
    : ∃ fd : FuncData, (∀ (s : Shared) (v : Value), BindsTo s fd ⟨[v], []⟩ [("script", v)]) ∧ ∀ base : Heap, K.In base → base.Ns mainGlobals mg → FnG P w K mg base 4 fa fd ["script"] (spLaw K) := by
  have e := hfa.symm.trans (PySem.W.mg_of X G a8)
  cases e
  have F_parts := fun_mk (st := sParts) l0 c0 k0
  have b_parts := F_parts.binds (ps := ["house", "counts"]) fun _ _ _ _ _ _ us hl => match us, hl with | [_, _], _ => rfl
  have g_parts := PySem.W.mg_of X G a0
  have F__law_bag := fun_mk (st := sLawBag) l1 c1 k1
  have b__law_bag := F__law_bag.binds (ps := ["script"]) fun _ _ _ _ _ _ us hl => match us, hl with | [_], _ => rfl
  have g__law_bag := PySem.W.mg_of X G a1
  have F__law_draw := fun_mk (st := sLawDraw) l2 c2 k2
  have b__law_draw := F__law_draw.binds (ps := ["bag", "many"]) fun _ _ _ _ _ _ us hl => match us, hl with | [_, _], _ => rfl
  have g__law_draw := PySem.W.mg_of X G a2
  have F__law_ground := fun_mk (st := sLawGround) l3 c3 k3
  have b__law_ground := F__law_ground.binds (ps := ["bag", "most", "wide"]) fun _ _ _ _ _ _ us hl => match us, hl with | [_, _, _], _ => rfl
  have g__law_ground := PySem.W.mg_of X G a3
  have F__law_alike := fun_mk (st := sLawAlike) l4 c4 k4
  have b__law_alike := F__law_alike.binds (ps := ["found", "due"]) fun _ _ _ _ _ _ us hl => match us, hl with | [_, _], _ => rfl
  have g__law_alike := PySem.W.mg_of X G a4
  have F__law_row := fun_mk (st := sLawRow) l5 c5 k5
  have b__law_row := F__law_row.binds (ps := ["bag"]) fun _ _ _ _ _ _ us hl => match us, hl with | [_], _ => rfl
  have g__law_row := PySem.W.mg_of X G a5
  have F__law_tallies := fun_mk (st := sLawTallies) l6 c6 k6
  have b__law_tallies := F__law_tallies.binds (ps := ["bag", "doors"]) fun _ _ _ _ _ _ us hl => match us, hl with | [_, _], _ => rfl
  have g__law_tallies := PySem.W.mg_of X G a6
  have F__law_meant := fun_mk (st := sLawMeant) l7 c7 k7
  have b__law_meant := F__law_meant.binds (ps := ["rooms", "doors", "tallies"]) fun _ _ _ _ _ _ us hl => match us, hl with | [_, _, _], _ => rfl
  have g__law_meant := PySem.W.mg_of X G a7
  have F_law := fun_mk (st := sLaw) l8 c8 k8
  have b_law := F_law.binds (ps := ["script"]) fun _ _ _ _ _ _ us hl => match us, hl with | [_], _ => rfl
  have g_law := PySem.W.mg_of X G a8
  have m_abs := PySem.W.mg_none_of X G z_abs
  have m_len := PySem.W.mg_none_of X G z_len
  have m_range := PySem.W.mg_none_of X G z_range
  have m_int := PySem.W.mg_none_of X G z_int
  have m_zip := PySem.W.mg_none_of X G z_zip
  have m_set := PySem.W.mg_none_of X G z_set
  have m_isinstance := PySem.W.mg_none_of X G z_isinstance
  have m_list := PySem.W.mg_none_of X G z_list
  have m_tuple := PySem.W.mg_none_of X G z_tuple
  have m_bool := PySem.W.mg_none_of X G z_bool
  have m_all := PySem.W.mg_none_of X G z_all
  have m_repr := PySem.W.mg_none_of X G z_repr
  have m_sorted := PySem.W.mg_none_of X G z_sorted
  have m_min := PySem.W.mg_none_of X G z_min
  refine ⟨PySem.W.fnOf "law" "law" (defArgs sLaw) (defBody sLaw) (defScope sLaw) .none kV8 dc8 pm8 an8 cd8 ct8, fun s v => .of_eq rfl, fun base _ _ => ?_⟩
  have D1 : Ca P w K mg base 1 "_law_draw" spDraw := ⟨_, _, _, ok_draw F__law_draw m_len, g__law_draw, F__law_draw.kp, b__law_draw⟩
  have D2 : Ca P w K mg base 1 "_law_bag" (spBag K) := ⟨_, _, _, ok_bag F__law_bag m_abs, g__law_bag, F__law_bag.kp, b__law_bag⟩
  have D3 : Ca P w K mg base 2 "_law_ground" (spGround K) := ⟨_, _, _, ok_ground F__law_ground D1 m_len m_range m_int, g__law_ground, F__law_ground.kp, b__law_ground⟩
  have D4 : Ca P w K mg base 1 "parts" (spParts K) := ⟨_, _, _, ok_parts F_parts m_list m_range m_zip m_sorted m_set, g_parts, F_parts.kp, b_parts⟩
  have D5 : Ca P w K mg base 1 "_law_meant" (spMeant K) := ⟨_, _, _, ok_meant F__law_meant m_list m_range m_len m_min, g__law_meant, F__law_meant.kp, b__law_meant⟩
  have D6 : Ca P w K mg base 3 "_law_alike" (spAlike K 3) := ⟨_, _, _, ok_alike F__law_alike b__law_alike g__law_alike m_isinstance m_list m_tuple m_int m_bool m_len m_all m_range 3, g__law_alike, F__law_alike.kp, b__law_alike⟩
  have D7 : Ca P w K mg base 2 "_law_tallies" (spTallies K) := ⟨_, _, _, ok_tallies F__law_tallies D1 m_len m_range m_int, g__law_tallies, F__law_tallies.kp, b__law_tallies⟩
  have D8 : Ca P w K mg base 2 "_law_row" (spRow K) := ⟨_, _, _, ok_row F__law_row D1 m_list m_range m_len, g__law_row, F__law_row.kp, b__law_row⟩
  have D9 : Ck P w K mg base 1 "parts" ["counts", "house"] (fun vs => match vs with | [c, h] => [h, c] | _ => []) (spParts K) := ⟨_, _, _, (fun vs => match vs with | [c, h] => [h, c] | _ => []), ok_parts F_parts m_list m_range m_zip m_sorted m_set, g_parts, F_parts.kp, (fun s ws hl => match ws, hl with | [_, _], _ => .of_eq rfl), fun {zs ws} r => by
    rcases r with _ | ⟨r1, _ | ⟨r2, _ | ⟨r3, r4⟩⟩⟩
    · exact .nil
    · exact .nil
    · exact .cons r2 (.cons r1 .nil)
    · exact .nil⟩
  exact ok_law F_law D2 D3 D8 D7 D5 D4 D9 D6 m_range m_repr
theorem theWalk {l : PySem.W.OpenLaw} {q : Program} {loose : List Str} {XP : (Str → Option Value) → Heap → Prop} {YP : World → Heap → Prop} {d : DefRec} {K : Params → PySem.W.Frag} (hn : l.most = some 63) (hdf : d.params.defaults = [])
    (hY : ∀ (w : World) (h : Heap), YP w h → (K w.params).In h)
    (F : ∀ (w : World) (mg : Str → Option Value) (fa : Addr) (h : Heap), (K w.params).In h → h.Ns mainGlobals mg → mg d.name = some (.ref fa) →
      ∃ fd : FuncData, (∀ (s : Shared) (u : Value), BindsTo s fd ⟨[u], []⟩ [("script", u)]) ∧ ∀ base : Heap, (K w.params).In base → base.Ns mainGlobals mg → FnG l.prog w (K w.params) mg base 4 fa fd ["script"] (spLaw (K w.params))) :
    PySem.W.WalkO q loose XP YP l.row.toRowW d [] (fun f vs => PySem.call f vs) :=
  walkG hn hdf ⟨rfl, by decide, by decide⟩ hY F fun _ _ a ns hl hS => ⟨a, ns, rfl, hS, hl, fun _ => rfl⟩
end Bd
open PySem PySem.W PyProof.Rows
set_option maxRecDepth 100000 in
set_option maxHeartbeats 0 in
theorem PySem.Challenge.cw_bothdoors_k04_parts_by_doors_passed_holds : PySem.Challenge.rw_bothdoors_k04_parts_by_doors_passed.Holds := by
  w_on; o_law; k_head; (case hw => w_witness2)
  k_fill
  refine Bd.theWalk (l := PySem.Challenge.rw_bothdoors_k04_parts_by_doors_passed) rfl rfl (fun w h Y => PySem.W.kIn_of Y) ?F
  case F =>
    intro w mg fa h KX G hmg
    refine' Bd.all_mk KX G hmg ?a0 ?l0 ?c0 ?k0 ?a1 ?l1 ?c1 ?k1 ?a2 ?l2 ?c2 ?k2 ?a3 ?l3 ?c3 ?k3 ?a4 ?l4 ?c4 ?k4 ?a5 ?l5 ?c5 ?k5 ?a6 ?l6 ?c6 ?k6 ?a7 ?l7 ?c7 ?k7 ?a8 ?l8 ?c8 ?k8 ?zabs ?zlen ?zrange ?zint ?zzip ?zset ?zisinstance ?zlist ?ztuple ?zbool ?zall ?zrepr ?zsorted ?zmin
    (case a0 => k_is); (case l0 => k_is); (case c0 => k_is); (case k0 => k_is)
    (case a1 => k_is); (case l1 => k_is); (case c1 => k_is); (case k1 => k_is)
    (case a2 => k_is); (case l2 => k_is); (case c2 => k_is); (case k2 => k_is)
    (case a3 => k_is); (case l3 => k_is); (case c3 => k_is); (case k3 => k_is)
    (case a4 => k_is); (case l4 => k_is); (case c4 => k_is); (case k4 => k_is)
    (case a5 => k_is); (case l5 => k_is); (case c5 => k_is); (case k5 => k_is)
    (case a6 => k_is); (case l6 => k_is); (case c6 => k_is); (case k6 => k_is)
    (case a7 => k_is); (case l7 => k_is); (case c7 => k_is); (case k7 => k_is)
    (case a8 => k_is); (case l8 => k_is); (case c8 => k_is); (case k8 => k_is)
    (case zabs => k_is)
    (case zlen => k_is)
    (case zrange => k_is)
    (case zint => k_is)
    (case zzip => k_is)
    (case zset => k_is)
    (case zisinstance => k_is)
    (case zlist => k_is)
    (case ztuple => k_is)
    (case zbool => k_is)
    (case zall => k_is)
    (case zrepr => k_is)
    (case zsorted => k_is)
    (case zmin => k_is)
