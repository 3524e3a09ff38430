import PyProof.Rows.All
import HandS.ForMost
import HandS.IsInst
import HandS.Style
import HandS.TupAny
import HandS.TupLe
import HandS.Evl
import HandS.Walk
import HandS.ForExc
import HandS.ExcInit
import HandS.ExcField
import HandS.ExcIs
import HandS.TryMany
import KE.KExcIs
import KE.SortData
import KE.GoesMore
import HandS.Deep
import HandS.SetFor
import HandS.SetTxt0
import PySem.Challenge.RW_bundlekinds_k13_bundle_texts
set_option Elab.async false
set_option linter.all false
set_option maxRecDepth 100000
set_option maxHeartbeats 4000000
namespace Lw
open PySem PySem.Spec PyProof.Rows L2
/-! ### a list's item read for an augmented store -/
theorem pget_list {X : Cx} : PGet X (rIxL X.K) := by
  intro pins s σ H x y v u Q I rx ry h
  obtain ⟨p, xs, i, z, rfl, rfl, hq, he, q⟩ := h
  cases rx
  obtain ⟨t, rfl⟩ := ry
  obtain ⟨its, r, pl, hz⟩ := I.list hq
  obtain ⟨j, h1, h2, h3, h4, h5⟩ := atI_get he
  obtain ⟨w, ew, rw'⟩ := r.get h2
  have hl := r.length
  have hn := line63
  have fin : EP X pins σ Q w s := ⟨z, H, I, rw', q⟩
  by_cases h0 : 0 ≤ i
  · have hj : i.toNat = j := by
      rw [seqIndex_of h0 h5] at h1
      exact Option.some.inj h1
    exact wpAny_getItem_list pl.isList h0 (by omega) (by rw [hj]; simpa using ew) fin
  · have hj : (i + (its.toArray.size : Int)).toNat = j := by
      rw [seqIndex_neg (by omega) h4] at h1
      rw [List.size_toArray, ← hl]
      exact Option.some.inj h1
    exact wpAny_getItem_list_neg pl.isList (by omega) (by rw [List.size_toArray] <;> omega) (by omega) (by rw [hj]; simpa using ew) fin

/-- a constant of the module -/
theorem pe_gv {X : Cx} {x : Str} {pos : Pos} {v : V} (hg : Gl X x) (h : ∃ u, X.mg x = some u ∧ RelV v u) (hd : (x == ("__debug__" : Str)) = false := by decide) : PE X (.Name x pos) (tC v) := by
  obtain ⟨u, h1, h2⟩ := h
  exact pe_glob hg h1 h2 hd
/-! ### data that may be compared -/
def GoodD (n : Nat) (d : PyData) : Prop := d.canLay0 = true ∧ d.depth ≤ n
theorem GoodD.mono {n m : Nat} {d : PyData} (h : GoodD n d) (k : n ≤ m) : GoodD m d := ⟨h.1, Nat.le_trans h.2 k⟩
theorem GoodD.shaped {n : Nat} {d : PyData} (h : GoodD n d) (k : n ≤ 64) : SeqAt.shaped d = true := by
  unfold SeqAt.shaped
  rw [h.1, decide_eq_true (Nat.le_trans h.2 k)]
  rfl
theorem goodAll {n : Nat} : ∀ {ds : List PyData}, (∀ d ∈ ds, GoodD n d) → PyData.canLayAll0 ds = true ∧ PyData.depthAll ds ≤ n
  | [], _ => ⟨rfl, by simp [PyData.depthAll]⟩
  | d :: r, h => by
    obtain ⟨h1, h2⟩ := h d (List.mem_cons_self)
    obtain ⟨r1, r2⟩ := goodAll (ds := r) fun e he => h e (List.mem_cons_of_mem _ he)
    constructor
    · simp [PyData.canLayAll0, h1, r1]
    · simp only [PyData.depthAll]
      omega
theorem good_list {n : Nat} {ds : List PyData} (h : ∀ d ∈ ds, GoodD n d) : GoodD (n + 1) (.list ds) := by
  obtain ⟨a, b⟩ := goodAll h
  exact ⟨by simp [PyData.canLay0, a], by simp only [PyData.depth]; omega⟩
theorem good_tuple {n : Nat} {ds : List PyData} (h : ∀ d ∈ ds, GoodD n d) : GoodD (n + 1) (.tuple ds) := by
  obtain ⟨a, b⟩ := goodAll h
  exact ⟨by simp [PyData.canLay0, a], by simp only [PyData.depth]; omega⟩
theorem good_int {n : Nat} (i : Int) : GoodD n (.int i) := ⟨rfl, by simp [PyData.depth]⟩
theorem good_bool {n : Nat} (i : Bool) : GoodD n (.bool i) := ⟨rfl, by simp [PyData.depth]⟩
theorem good_none {n : Nat} : GoodD n .none := ⟨rfl, by simp [PyData.depth]⟩
/-- a text whose signs are code points -/
def SOk (z : Str) : Prop := ∀ c ∈ z.cps.toList, c < 0x110000
theorem good_str {n : Nat} {z : Str} (h : SOk z) : GoodD n (.str z) := by
  refine ⟨?_, by simp [PyData.depth]⟩
  simp only [PyData.canLay0]
  unfold PyData.strOk
  rw [← Array.all_toList, List.all_eq_true]
  intro c hc
  exact decide_eq_true (h c hc)
theorem dp_map {K : PySem.W.Frag} {H : Hp} {α : Type} {f : α → V} {g : α → PyData} : ∀ {xs : List α}, (∀ x ∈ xs, Dp K H (f x) (g x)) → DpAll K H (xs.map f) (xs.map g)
  | [], _ => .nil
  | x :: r, h => .cons (h x List.mem_cons_self) (dp_map fun y hy => h y (List.mem_cons_of_mem _ hy))
theorem dp_ints {K : PySem.W.Frag} {H : Hp} {a : Addr} {ns : List Int} (h : SqL K H a (ns.map V.int)) : Dp K H (.ref a) (.list (ns.map PyData.int)) := .lst h (dp_map fun x _ => .int x)
theorem dp_strs {K : PySem.W.Frag} {H : Hp} {a : Addr} {ns : List Str} (h : SqL K H a (ns.map V.str)) : Dp K H (.ref a) (.list (ns.map PyData.str)) := .lst h (dp_map fun x _ => .str x)
theorem dp_empty {K : PySem.W.Frag} {H : Hp} {a : Addr} (h : SqL K H a []) : Dp K H (.ref a) (.list []) := .lst h .nil
theorem dp_strsT {K : PySem.W.Frag} {H : Hp} {a : Addr} {ns : List Str} (h : SqT K H a (ns.map V.str)) : Dp K H (.ref a) (.tuple (ns.map PyData.str)) := .tup h (dp_map fun x _ => .str x)
theorem sh_ints (ns : List Int) : SeqAt.shaped (.list (ns.map PyData.int)) = true := PySem.W.ke_shaped_ints ns
theorem sh_empty : SeqAt.shaped (.list []) = true := PySem.W.ke_shaped_ints []
theorem good_strs {ns : List Str} (h : ∀ z ∈ ns, SOk z) : GoodD 1 (.list (ns.map PyData.str)) := good_list (n := 0) fun d hd => by
  obtain ⟨z, hz, rfl⟩ := List.mem_map.mp hd
  exact good_str (h z hz)
theorem good_strsT {ns : List Str} (h : ∀ z ∈ ns, SOk z) : GoodD 1 (.tuple (ns.map PyData.str)) := good_tuple (n := 0) fun d hd => by
  obtain ⟨z, hz, rfl⟩ := List.mem_map.mp hd
  exact good_str (h z hz)
theorem eqv_nil_map {α : Type} (f : α → PyData) (xs : List α) : PyData.eqv (.list (xs.map f)) (.list []) = decide (xs = []) := by
  cases xs with
  | nil => simp [PyData.eqv, PyData.eqvAll]
  | cons x r => simp [PyData.eqv, PyData.eqvAll]
theorem eqvAll_strs : ∀ xs ys : List Str, PyData.eqvAll (xs.map PyData.str) (ys.map PyData.str) = decide (xs = ys)
  | [], [] => by simp [PyData.eqvAll]
  | [], _ :: _ => by simp [PyData.eqvAll]
  | _ :: _, [] => by simp [PyData.eqvAll]
  | x :: r, y :: t => by
    simp only [List.map_cons, PyData.eqvAll, PyData.eqv, eqvAll_strs r t]
    by_cases h : x = y <;> by_cases h' : r = t <;> simp [h, h']
theorem eqv_strs (xs ys : List Str) : PyData.eqv (.list (xs.map PyData.str)) (.list (ys.map PyData.str)) = decide (xs = ys) := by
  simp only [PyData.eqv, eqvAll_strs]
theorem eqv_strsT (xs ys : List Str) : PyData.eqv (.tuple (xs.map PyData.str)) (.tuple (ys.map PyData.str)) = decide (xs = ys) := by
  simp only [PyData.eqv, eqvAll_strs]

/-! ### the drawing state: at st the list of the big cells (at q), the cells (at r), the counter -/
structure DX (H : Hp) (st q r : Addr) (bs cs : List Int) (c : Int) : Prop where
  st' : H st = some (.lst [.ref q, .ref r, .int c])
  q' : H q = some (.lst (bs.map V.int))
  r' : H r = some (.lst (cs.map V.int))
  qr : q ≠ r
  qs : q ≠ st
  rs : r ≠ st
theorem DX.new {H : Hp} {st q r p : Addr} {bs cs : List Int} {c : Int} {o : HO} (D : DX H st q r bs cs c) (h : H p = none) : DX (upd H p o) st q r bs cs c :=
  ⟨(upd_ne (ne_of_none D.st' h)).trans D.st', (upd_ne (ne_of_none D.q' h)).trans D.q', (upd_ne (ne_of_none D.r' h)).trans D.r', D.qr, D.qs, D.rs⟩
theorem DX.count {H : Hp} {st q r : Addr} {bs cs : List Int} {c d : Int} (D : DX H st q r bs cs c) : DX (upd H st (.lst [.ref q, .ref r, .int d])) st q r bs cs d :=
  ⟨upd_same, (upd_ne D.qs).trans D.q', (upd_ne D.rs).trans D.r', D.qr, D.qs, D.rs⟩
theorem DX.swap {H : Hp} {st q r p : Addr} {bs cs ds : List Int} {c : Int} (D : DX H st q r bs cs c) (h : H p = none) : DX (upd (upd H p (.lst (ds.map V.int))) st (.lst [.ref p, .ref r, .int c])) st p r ds cs c := by
  have h1 := ne_of_none D.st' h
  have h2 := ne_of_none D.r' h
  exact ⟨upd_same, (upd_ne h1.symm).trans upd_same, (upd_ne D.rs).trans ((upd_ne h2).trans D.r'), h2.symm, h1.symm, D.rs⟩
theorem DX.own {H : Hp} {st q r : Addr} {bs cs ds : List Int} {c : Int} (D : DX H st q r bs cs c) : DX (upd H q (.lst (ds.map V.int))) st q r ds cs c :=
  ⟨(upd_ne D.qs.symm).trans D.st', upd_same, (upd_ne D.qr.symm).trans D.r', D.qr, D.qs, D.rs⟩
/-- .. its counter at most n -/
def DS (H : Hp) (st : Addr) (n : Nat) : Prop := ∃ (q r : Addr) (bs cs : List Int) (c : Int), DX H st q r bs cs c ∧ (∀ b ∈ bs, 0 ≤ b) ∧ cs ≠ [] ∧ 0 ≤ c ∧ c ≤ n
/-- b holds o, apart from the drawing state -/
def Ap (H : Hp) (st b : Addr) (o : HO) : Prop := H b = some o ∧ b ≠ st ∧ ∀ l, H st = some (.lst l) → V.ref b ∉ l
theorem ap_iff {H : Hp} {st q r b : Addr} {bs cs : List Int} {c : Int} {o : HO} (D : DX H st q r bs cs c) : Ap H st b o ↔ (H b = some o ∧ b ≠ st ∧ b ≠ q ∧ b ≠ r) := by
  constructor
  · rintro ⟨e, n, h⟩
    have := h _ D.st'
    simp only [List.mem_cons, V.ref.injEq, List.not_mem_nil, or_false, not_or] at this
    exact ⟨e, n, this.1, this.2.1⟩
  · rintro ⟨e, n, h1, h2⟩
    refine ⟨e, n, fun l hl => ?_⟩
    rw [D.st'] at hl
    cases hl
    simp only [List.mem_cons, V.ref.injEq, List.not_mem_nil, or_false, not_or]
    exact ⟨h1, h2, fun z => nomatch z⟩
/-- what stands apart from the drawing state stays -/
def Kp (st : Addr) (H H' : Hp) : Prop := ∀ b o, Ap H st b o → Ap H' st b o
theorem Kp.refl (st : Addr) (H : Hp) : Kp st H H := fun _ _ h => h
theorem Kp.trans {st : Addr} {H H1 H2 : Hp} (a : Kp st H H1) (b : Kp st H1 H2) : Kp st H H2 := fun c o h => b c o (a c o h)
theorem Kp.dx {st q r q' r' : Addr} {H H' : Hp} {bs cs bs' cs' : List Int} {c c' : Int} (D : DX H st q r bs cs c) (D' : DX H' st q' r' bs' cs' c') (h : ∀ b o, H b = some o → b ≠ st → b ≠ q → b ≠ r → H' b = some o ∧ b ≠ q' ∧ b ≠ r') : Kp st H H' := fun b o a => by
  obtain ⟨e, n, n1, n2⟩ := (ap_iff D).mp a
  obtain ⟨e', m1, m2⟩ := h b o e n n1 n2
  exact (ap_iff D').mpr ⟨e', n, m1, m2⟩
theorem DX.newK {H : Hp} {st q r p : Addr} {bs cs : List Int} {c : Int} {o : HO} (D : DX H st q r bs cs c) (h : H p = none) : Kp st H (upd H p o) :=
  Kp.dx D (D.new h) fun b u e _ n1 n2 => ⟨(upd_ne (ne_of_none e h)).trans e, n1, n2⟩
theorem DX.ownK {H : Hp} {st q r : Addr} {bs cs ds : List Int} {c : Int} (D : DX H st q r bs cs c) : Kp st H (upd H q (.lst (ds.map V.int))) :=
  Kp.dx D D.own fun b u e _ n1 n2 => ⟨(upd_ne n1).trans e, n1, n2⟩
theorem DX.countK {H : Hp} {st q r : Addr} {bs cs : List Int} {c d : Int} (D : DX H st q r bs cs c) : Kp st H (upd H st (.lst [.ref q, .ref r, .int d])) :=
  Kp.dx D D.count fun b u e n n1 n2 => ⟨(upd_ne n).trans e, n1, n2⟩
theorem DX.swapK {H : Hp} {st q r p : Addr} {bs cs ds : List Int} {c : Int} (D : DX H st q r bs cs c) (h : H p = none) : Kp st H (upd (upd H p (.lst (ds.map V.int))) st (.lst [.ref p, .ref r, .int c])) :=
  Kp.dx D (D.swap h) fun b u e n n1 n2 => ⟨(upd_ne n).trans ((upd_ne (ne_of_none e h)).trans e), ne_of_none e h, n2⟩
theorem DS.new {H : Hp} {st p : Addr} {n : Nat} {o : HO} (D : DS H st n) (h : H p = none) : DS (upd H p o) st n := by
  obtain ⟨q, r, bs, cs, c, d, h1, h2, h3, h4⟩ := D
  exact ⟨q, r, bs, cs, c, d.new h, h1, h2, h3, h4⟩
theorem DS.newK {H : Hp} {st p : Addr} {n : Nat} {o : HO} (D : DS H st n) (h : H p = none) : Kp st H (upd H p o) := by
  obtain ⟨q, r, bs, cs, c, d, h1, h2, h3, h4⟩ := D
  exact d.newK h
theorem DS.mono {H : Hp} {st : Addr} {n m : Nat} (D : DS H st n) (h : n ≤ m) : DS H st m := by
  obtain ⟨q, r, bs, cs, c, d, h1, h2, h3, h4⟩ := D
  exact ⟨q, r, bs, cs, c, d, h1, h2, h3, by omega⟩
/-- a new object stands apart -/
theorem DS.fresh {H : Hp} {st p : Addr} {n : Nat} {o : HO} (D : DS H st n) (h : H p = none) : Ap (upd H p o) st p o := by
  obtain ⟨q, r, bs, cs, c, d, h1, h2, h3, h4⟩ := D
  exact (ap_iff (d.new h)).mpr ⟨upd_same, (ne_of_none d.st' h).symm, (ne_of_none d.q' h).symm, (ne_of_none d.r' h).symm⟩
/-- an object that stands apart is stored to -/
theorem DS.put {H : Hp} {st b : Addr} {n : Nat} {o u : HO} (D : DS H st n) (a : Ap H st b o) : DS (upd H b u) st n := by
  obtain ⟨q, r, bs, cs, c, d, h1, h2, h3, h4⟩ := D
  obtain ⟨e, n1, n2, n3⟩ := (ap_iff d).mp a
  exact ⟨q, r, bs, cs, c, ⟨(upd_ne n1.symm).trans d.st', (upd_ne n2.symm).trans d.q', (upd_ne n3.symm).trans d.r', d.qr, d.qs, d.rs⟩, h1, h2, h3, h4⟩
theorem DS.putA {H : Hp} {st b : Addr} {n : Nat} {o u : HO} (D : DS H st n) (a : Ap H st b o) : Ap (upd H b u) st b u := by
  obtain ⟨q, r, bs, cs, c, d, h1, h2, h3, h4⟩ := D
  obtain ⟨e, n1, n2, n3⟩ := (ap_iff d).mp a
  have d' : DX (upd H b u) st q r bs cs c := ⟨(upd_ne n1.symm).trans d.st', (upd_ne n2.symm).trans d.q', (upd_ne n3.symm).trans d.r', d.qr, d.qs, d.rs⟩
  exact (ap_iff d').mpr ⟨upd_same, n1, n2, n3⟩
theorem Ap.put {H : Hp} {st b p : Addr} {n : Nat} {o u v : HO} (D : DS H st n) (a : Ap H st b o) (h : Ap H st p v) (ne : p ≠ b) : Ap (upd H b u) st p v := by
  obtain ⟨q, r, bs, cs, c, d, h1, h2, h3, h4⟩ := D
  obtain ⟨e, n1, n2, n3⟩ := (ap_iff d).mp a
  obtain ⟨f, m1, m2, m3⟩ := (ap_iff d).mp h
  have d' : DX (upd H b u) st q r bs cs c := ⟨(upd_ne n1.symm).trans d.st', (upd_ne n2.symm).trans d.q', (upd_ne n3.symm).trans d.r', d.qr, d.qs, d.rs⟩
  exact (ap_iff d').mpr ⟨(upd_ne ne).trans f, m1, m2, m3⟩
end Lw

namespace Lw
open PySem PySem.Spec PyProof.Rows L2 Evl
section
variable {K : PySem.W.Frag} {σ : L2.St} {H H' : Hp} {ta tb tc te tl : TE} {t u : TT} {x y z v : V} {r r' : R2}
theorem ev_chain {a b : Bool} (ha : Ev ta σ H x) (hb : Ev tb σ H y) (h1 : RV r x y H (.bl a)) (hc : a = true → Ev tc σ H z) (h2 : a = true → RV r' y z H (.bl b)) : Ev (tChain r r' ta tb tc) σ H (.bl (a && b)) := fun H1 e Q q =>
  ha H1 e _ fun H2 e2 => hb H2 (e.trans e2) _ fun H3 e3 => h1 H3 ((e.trans e2).trans e3) _ fun H4 e4 => ⟨a, rfl, by
    cases a with
    | true =>
      exact hc rfl H4 (((e.trans e2).trans e3).trans e4) _ fun H5 e5 => h2 rfl H5 ((((e.trans e2).trans e3).trans e4).trans e5) Q fun H6 e6 => q H6 ((((e2.trans e3).trans e4).trans e5).trans e6)
    | false => exact q H4 ((e2.trans e3).trans e4)⟩
theorem rc_lenStr {z : Str} (h : z.length ≤ sizeLine) : RC (fun xs H Q => ∃ z, xs = [.str z] ∧ z.length ≤ sizeLine ∧ Q (.int z.length) H) [.str z] H (.int z.length) := fun H1 _ _ q => ⟨z, rfl, h, q H1 (Ex.refl H1)⟩
theorem rc_lenL {p : Addr} {xs : List V} (h : SqL K H p xs) : RC (fun xs H Q => ∃ p ys, xs = [.ref p] ∧ (SqL K H p ys ∨ SqT K H p ys) ∧ Q (.int ys.length) H) [.ref p] H (.int (xs.length : Int)) := fun H1 e _ q => ⟨p, xs, rfl, .inl (ex_l e h), q H1 (Ex.refl H1)⟩
theorem rc_lenT {p : Addr} {xs : List V} (h : SqT K H p xs) : RC (fun xs H Q => ∃ p ys, xs = [.ref p] ∧ (SqL K H p ys ∨ SqT K H p ys) ∧ Q (.int ys.length) H) [.ref p] H (.int (xs.length : Int)) := fun H1 e _ q => ⟨p, xs, rfl, .inr (ex_t e h), q H1 (Ex.refl H1)⟩
theorem rc_int {i : Int} : RC (fun xs H Q => (∃ i, xs = [.int i] ∧ Q (.int i) H) ∨ ∃ k, xs = [.bl k] ∧ Q (.int (if k then 1 else 0)) H) [.int i] H (.int i) := fun H1 _ _ q => .inl ⟨i, rfl, q H1 (Ex.refl H1)⟩
theorem rc_intB {k : Bool} : RC (fun xs H Q => (∃ i, xs = [.int i] ∧ Q (.int i) H) ∨ ∃ k, xs = [.bl k] ∧ Q (.int (if k then 1 else 0)) H) [.bl k] H (.int (if k then 1 else 0)) := fun H1 _ _ q => .inr ⟨k, rfl, q H1 (Ex.refl H1)⟩
theorem rv_sign {c : Nat} {z : Str} : RV (fun x y H Q => ∃ (c : Nat) (z : Str), x = .str ⟨#[c]⟩ ∧ y = .str z ∧ Q (.bl (decide (c ∈ z.cps.toList))) H) (.str ⟨#[c]⟩) (.str z) H (.bl (decide (c ∈ z.cps.toList))) := fun H1 _ _ q => ⟨c, z, rfl, rfl, q H1 (Ex.refl H1)⟩
theorem rv_nsign {c : Nat} {z : Str} : RV (fun x y H Q => ∃ (c : Nat) (z : Str), x = .str ⟨#[c]⟩ ∧ y = .str z ∧ Q (.bl (!decide (c ∈ z.cps.toList))) H) (.str ⟨#[c]⟩) (.str z) H (.bl (!decide (c ∈ z.cps.toList))) := fun H1 _ _ q => ⟨c, z, rfl, rfl, q H1 (Ex.refl H1)⟩
theorem rv_addS {a b : Str} (h : a.length + b.length ≤ sizeLine) : RV (fun x y H Q => ∃ i j, x = .str i ∧ y = .str j ∧ i.length + j.length ≤ sizeLine ∧ Q (.str (i ++ j)) H) (.str a) (.str b) H (.str (a ++ b)) := fun H1 _ _ q => ⟨a, b, rfl, rfl, h, q H1 (Ex.refl H1)⟩
/-- a call one of whose arguments is a new list -/
theorem ev_cbL {r : List V → Hp → VK → Prop} {xs : List V} (h : EvL ta σ H xs) (hr : ∀ p H1, H1 p = some (.lst xs) → Ex H H1 → RC r [.ref p] H1 z) : Ev (tCB r (tCons ta tNil)) σ H z := fun H1 e Q q =>
  h H1 e _ fun p H2 _ e2 hp => hr p H2 hp (e.trans e2) H2 (Ex.refl H2) Q fun H3 e3 => q H3 (e2.trans e3)
theorem rc_all {p : Addr} {bs : List Bool} (h : SqL K H p (bs.map V.bl)) : RC (rAll K) [.ref p] H (.bl (bs.all id)) := fun H1 e _ q => ⟨p, bs, rfl, ex_l e h, q H1 (Ex.refl H1)⟩
theorem rv_eqD {d e : PyData} (hx : ∀ H1, Ex H H1 → Dp K H1 x d) (hy : ∀ H1, Ex H H1 → Dp K H1 y e) (sd : SeqAt.shaped d = true) (se : SeqAt.shaped e = true) : RV (rEqD K) x y H (.bl (PyData.eqv d e)) := fun H1 k _ q => ⟨d, e, hx H1 k, hy H1 k, sd, se, q H1 (Ex.refl H1)⟩
theorem rv_neD {d e : PyData} (hx : ∀ H1, Ex H H1 → Dp K H1 x d) (hy : ∀ H1, Ex H H1 → Dp K H1 y e) (sd : SeqAt.shaped d = true) (se : SeqAt.shaped e = true) : RV (rNeD K) x y H (.bl (!PyData.eqv d e)) := fun H1 k _ q => ⟨d, e, hx H1 k, hy H1 k, sd, se, q H1 (Ex.refl H1)⟩
end
/-! ### comprehensions by lists -/
theorem given_list {α : Type} (p : α → Bool) (g : α → V) (xs : List α) : given xs.length (fun i => (xs[i]?.map p).getD false) (fun i => (xs[i]?.map g).getD .non) = (xs.filter p).map g := by
  have key : ∀ n, n ≤ xs.length → given n (fun i => (xs[i]?.map p).getD false) (fun i => (xs[i]?.map g).getD .non) = ((xs.take n).filter p).map g := by
    intro n
    induction n with
    | zero => intro _; rfl
    | succ n ih =>
      intro hn
      have hx : xs[n]? = some xs[n] := List.getElem?_eq_getElem (by omega)
      cases hp : p xs[n] with
      | true =>
        rw [given_yes (by rw [hx]; exact hp), ih (by omega), List.take_add_one, hx, List.filter_append, List.map_append]
        simp [hp, hx]
      | false =>
        rw [given_no (by rw [hx]; exact hp), ih (by omega), List.take_add_one, hx, List.filter_append, List.map_append]
        simp [hp, hx]
  rw [key _ (Nat.le_refl _), List.take_length]
section
variable {K : PySem.W.Frag} {σ : L2.St} {H H' : Hp} {ta tb tc te tl : TE} {t u : TT} {x y z v : V} {r r' : R2}
theorem cw_it {J : It} {n : Nat} {G : Hp → Prop} {Y : Nat → Hp → V → Hp → Prop} (w : Walk J n G Y) {H : Hp} {j : Nat} {vs : List Nat} (f : Nat → Bool) (v : Nat → V) (val : Nat → V) {Dl : Addr} (hD : H Dl = none) (hn : n ≤ 40000) (hG : ∀ H1, Ex H H1 → G H1)
    (hY : ∀ i H1 x H2, Ex H H1 → i < n → Y i H1 x H2 → H2 = H1 ∧ x = val i)
    (hw : ∀ x, wipe ((wipe σ vs).set j (some x)) vs = wipe σ vs)
    (ht : ∀ (i : Nat), i < n → EvT t ((wipe σ vs).set j (some (val i))) H (f i)) (he : ∀ (i : Nat), i < n → f i = true → Ev te ((wipe σ vs).set j (some (val i))) H (v i)) {Qd : Hp → Prop} (hd : ∀ H1, Cw H f v Dl n H1 → Qd H1) :
    ∃ W : Nat → Nat → Hp → Prop, (∃ m, W 0 m (upd H Dl (.lst []))) ∧ ∀ i m H, W i m H →
      (J.stop i H ∧ Qd H) ∨ (J.go i H ∧ ∃ Nx : Hp → Prop, (∀ H', Nx H' → ∃ m', m' < m ∧ W (i + 1) m' H') ∧ ∀ x H', J.yld i H x H' → (gName j) x (wipe σ vs) H' fun σ2 H2 => wipe σ2 vs = wipe σ vs ∧ t σ2 H2 fun b H3 =>
        if b = true then te σ2 H3 fun y H4 => ∃ acc, H4 Dl = some (.lst acc) ∧ acc.length < sizeLine ∧ Nx (upd H4 Dl (.lst (acc ++ [y]))) else Nx H3) :=
  lc_it w (Cw H f v Dl) ⟨hD, Ex.new hD, upd_same⟩ (fun i H1 _ p => hG H1 p.2.1) (fun i x H1 H2 hi p y => by
    obtain ⟨rfl, rfl⟩ := hY i H1 x H2 p.2.1 hi y
    exact ⟨hw _, cw_turn p (by omega) (ht i hi) (he i hi)⟩) hd
/-- over a text -/
theorem el_lcS {j : Nat} {vs : List Nat} {z : Str} (p : Nat → Bool) (g : Nat → V) (h : Ev tl σ H (.str z)) (hz : z.length ≤ 40000) (hw : ∀ x, wipe ((wipe σ vs).set j (some x)) vs = wipe σ vs)
    (ht : ∀ (c : Nat) H1, Ex H H1 → c ∈ z.cps.toList → EvT t ((wipe σ vs).set j (some (.str ⟨#[c]⟩))) H1 (p c)) (he : ∀ (c : Nat) H1, Ex H H1 → c ∈ z.cps.toList → p c = true → Ev te ((wipe σ vs).set j (some (.str ⟨#[c]⟩))) H1 (g c)) :
    EvL (tLc (iStr tl) (gName j) t te vs) σ H ((z.cps.toList.filter p).map g) := fun H0 e Q q => h H0 e _ fun H1 e1 => ⟨z, rfl, fun Dl hD => by
  have hs : z.cps.size = z.cps.toList.length := by simp
  have hat : ∀ i, i < z.cps.size → ∃ c, z.cps.toList[i]? = some c ∧ z.cps[i]? = some c ∧ c ∈ z.cps.toList := fun i hi => by
    have h1 : z.cps.toList[i]? = some z.cps.toList[i] := List.getElem?_eq_getElem (by omega)
    exact ⟨_, h1, by simpa using h1, List.getElem_mem _⟩
  have gl := given_list p g z.cps.toList
  refine cw_it walk_str (fun i => (z.cps.toList[i]?.map p).getD false) (fun i => (z.cps.toList[i]?.map g).getD .non) (fun i => .str ⟨#[(z.cps.toList[i]?).getD 0]⟩) hD hz (fun _ _ => trivial) (fun i H2 x H3 _ hi y => ?_) hw (fun i hi => ?_) (fun i hi hf => ?_) (fun H2 k => ?_)
  · obtain ⟨rfl, c, hc, rfl⟩ := y
    obtain ⟨c', h1, h2, _⟩ := hat i hi
    rw [hc] at h2
    cases h2
    rw [h1]
    exact ⟨rfl, rfl⟩
  · obtain ⟨c, h1, _, hm⟩ := hat i hi
    rw [h1]
    exact ht c H1 (e.trans e1) hm
  · obtain ⟨c, h1, _, hm⟩ := hat i hi
    rw [h1] at hf ⊢
    exact he c H1 (e.trans e1) hm hf
  · refine q Dl H2 (fresh_back e1 k.1) (e1.trans k.2.1) ?_
    rw [← gl, ← hs]
    exact k.2.2⟩
/-- over a list -/
theorem el_lcM {α : Type} {j : Nat} {vs : List Nat} {a : Addr} {xs : List α} {cv : α → V} (p : α → Bool) (g : α → V) (h : Ev tl σ H (.ref a)) (hx : SqL K H a (xs.map cv)) (hz : xs.length ≤ 40000) (hw : ∀ x, wipe ((wipe σ vs).set j (some x)) vs = wipe σ vs)
    (ht : ∀ (c : α) H1, Ex H H1 → c ∈ xs → EvT t ((wipe σ vs).set j (some (cv c))) H1 (p c)) (he : ∀ (c : α) H1, Ex H H1 → c ∈ xs → p c = true → Ev te ((wipe σ vs).set j (some (cv c))) H1 (g c)) :
    EvL (tLc (iList K tl) (gName j) t te vs) σ H ((xs.filter p).map g) := fun H0 e Q q => h H0 e _ fun H1 e1 => ⟨a, rfl, ⟨_, ex_l (e.trans e1) hx⟩, fun Dl hD => by
  have hat : ∀ i, i < xs.length → ∃ c, xs[i]? = some c ∧ (xs.map cv)[i]? = some (cv c) ∧ c ∈ xs := fun i hi => by
    have h1 : xs[i]? = some xs[i] := List.getElem?_eq_getElem hi
    exact ⟨_, h1, by rw [List.getElem?_map, h1]; rfl, List.getElem_mem _⟩
  have gl := given_list p g xs
  have hl : (xs.map cv).length = xs.length := List.length_map ..
  refine cw_it (n := (xs.map cv).length) (walk_list (xs := xs.map cv)) (fun i => (xs[i]?.map p).getD false) (fun i => (xs[i]?.map g).getD .non) (fun i => ((xs.map cv)[i]?).getD .non) hD (by omega) (fun H2 e2 => ex_l ((e.trans e1).trans e2) hx) (fun i H2 x H3 _ hi y => ?_) hw (fun i hi => ?_) (fun i hi hf => ?_) (fun H2 k => ?_)
  · obtain ⟨rfl, hc⟩ := y
    rw [hc]
    exact ⟨rfl, rfl⟩
  · obtain ⟨c, h1, h2, hm⟩ := hat i (by omega)
    rw [h1, h2]
    exact ht c H1 (e.trans e1) hm
  · obtain ⟨c, h1, h2, hm⟩ := hat i (by omega)
    rw [h1] at hf ⊢
    rw [h2]
    exact he c H1 (e.trans e1) hm hf
  · refine q Dl H2 (fresh_back e1 k.1) (e1.trans k.2.1) ?_
    rw [← gl, ← hl]
    exact k.2.2⟩
/-- over a tuple -/
theorem el_lcT {α : Type} {j : Nat} {vs : List Nat} {a : Addr} {xs : List α} {cv : α → V} (p : α → Bool) (g : α → V) (h : Ev tl σ H (.ref a)) (hx : SqT K H a (xs.map cv)) (hz : xs.length ≤ 40000) (hw : ∀ x, wipe ((wipe σ vs).set j (some x)) vs = wipe σ vs)
    (ht : ∀ (c : α) H1, Ex H H1 → c ∈ xs → EvT t ((wipe σ vs).set j (some (cv c))) H1 (p c)) (he : ∀ (c : α) H1, Ex H H1 → c ∈ xs → p c = true → Ev te ((wipe σ vs).set j (some (cv c))) H1 (g c)) :
    EvL (tLc (iTup K tl) (gName j) t te vs) σ H ((xs.filter p).map g) := fun H0 e Q q => h H0 e _ fun H1 e1 => ⟨a, rfl, ⟨_, ex_t (e.trans e1) hx⟩, fun Dl hD => by
  have hat : ∀ i, i < xs.length → ∃ c, xs[i]? = some c ∧ (xs.map cv)[i]? = some (cv c) ∧ c ∈ xs := fun i hi => by
    have h1 : xs[i]? = some xs[i] := List.getElem?_eq_getElem hi
    exact ⟨_, h1, by rw [List.getElem?_map, h1]; rfl, List.getElem_mem _⟩
  have gl := given_list p g xs
  have hl : (xs.map cv).length = xs.length := List.length_map ..
  refine cw_it (n := (xs.map cv).length) (walk_tup (xs := xs.map cv)) (fun i => (xs[i]?.map p).getD false) (fun i => (xs[i]?.map g).getD .non) (fun i => ((xs.map cv)[i]?).getD .non) hD (by omega) (fun H2 e2 => ex_t ((e.trans e1).trans e2) hx) (fun i H2 x H3 _ hi y => ?_) hw (fun i hi => ?_) (fun i hi hf => ?_) (fun H2 k => ?_)
  · obtain ⟨rfl, hc⟩ := y
    rw [hc]
    exact ⟨rfl, rfl⟩
  · obtain ⟨c, h1, h2, hm⟩ := hat i (by omega)
    rw [h1, h2]
    exact ht c H1 (e.trans e1) hm
  · obtain ⟨c, h1, h2, hm⟩ := hat i (by omega)
    rw [h1] at hf ⊢
    rw [h2]
    exact he c H1 (e.trans e1) hm hf
  · refine q Dl H2 (fresh_back e1 k.1) (e1.trans k.2.1) ?_
    rw [← gl, ← hl]
    exact k.2.2⟩
theorem et_yes : EvT tYes σ H true := fun H1 _ _ q => q H1 (Ex.refl H1)
end
end Lw

namespace Lw
open PySem PySem.Spec PyProof.Rows L2
section
variable {X : Cx} {CX : CXT} {E : XK} {k : Nat} {f : Addr} {fd : FuncData} {ps ks : List Str} {sp : Sp} {x : Str} {kws : List Keyword} {tk : TA} {p pos : Pos} {g : List Value → List Value → List Value} {gV : List V → List V → List V}
/-- f(k = v, ..) -/
theorem pe_callK0 (F : FnOk X.prog X.w X.K X.mg X.base CX k f fd ps sp) (hr : Room k X.A) (hg : Gl X x) (hm : X.mg x = some (.ref f)) (hk : PySem.W.keepIn X.K (.ref f) = true) (hb : KBinds X.K fd ps ks g gV) (hx : Passes CX X E)
    (hkw : PK X kws tk) (hall : (backToKw pos (keywordEach kws X.env)).all (·.1.isSome) = true := by rfl) (hks : (backToKw pos (keywordEach kws X.env)).filterMap (·.1) = ks := by rfl)
    (hdb : (x == ("__debug__" : Str)) = false := by decide)
    (hpl : ((backTo pos (starEach [] X.env)).any (·.1) || (backToKw pos (keywordEach kws X.env)).any (·.1.isNone)) = false := by rfl) :
    PE X (.Call (.Name x p) [] kws pos) (tCallK sp gV E tNil tk) := by
  refine ⟨fun pins s σ H Q I h => ?_⟩
  refine wpAny_Call_Name_kw (ld_glob I hg hm ?_ hdb)
  refine PySem.W.callWith_KW0 (h₀ := X.base) I.ok.mod.kin hk hall ?_ hpl
  refine thn (hkw.run pos pins s σ H _ I h) fun ws s2 ⟨zs, H2, I2, rz, q2⟩ => ⟨I2.kIn, ?_⟩
  rw [hks]
  exact run_fnk (us := []) (vs := []) F hr hb hx I2 .nil rz q2
end
section
variable {X : Cx}
def revS (z : Str) : Str := ⟨z.cps.toList.reverse.toArray⟩
theorem revS_len (z : Str) : (revS z).length = z.length := by simp [revS, Str.length]
def tRevS (te : TE) : TE := fun σ H Q => te σ H fun x H1 => ∃ z, x = .str z ∧ z.length ≤ sizeLine ∧ Q (.str (revS z)) H1
theorem pe_revS {e : Expr} {te : TE} {k : Nat} {p1 p2 p3 pos : Pos} (he : PE X e te) : PE X (.Subscript e (.Slice none none (some (.UnaryOp .USub (.Constant (.int 1) k p1) p2)) p3) pos) (tRevS te) := by
  refine ⟨fun pins s σ H Q I h => ?_⟩
  refine Subscript_ (thn (he.run pins s σ H _ I h) fun v s1 ⟨x, H1, I1, r1, q1⟩ => ?_)
  obtain ⟨z, ex, hz, q⟩ := q1
  subst ex
  obtain ⟨t, rfl⟩ := r1
  have hst : PO X (some (.UnaryOp .USub (.Constant (.int 1) k p1) p2)) (tPart (tUn (rU fun i => .int (-i)) (tC (.int 1)))) := po_some (pe_un un_neg pe_int)
  refine wpAny_Slice (thn (po_none.run pins s1 σ H1 (fun o H2 => o = none ∧ H2 = H1) I1 ⟨rfl, rfl⟩) fun vl s2 ⟨l, H2, I2, pl, el, e2⟩ => ?_)
  subst el e2
  refine thn (po_none.run pins s2 σ H2 (fun o H3 => o = none ∧ H3 = H2) I2 ⟨rfl, rfl⟩) fun vu s3 ⟨u, H3, I3, pu, eu, e3⟩ => ?_
  subst eu e3
  refine thn (hst.run pins s3 σ H3 (fun o H4 => o = some (-1) ∧ H4 = H3) I3 ⟨1, rfl, -1, rfl, rfl, rfl⟩) fun vs s4 ⟨o, H4, I4, ps, eo, e4⟩ => ?_
  subst eo e4
  have I5 : Inv X pins σ H4 { s4 with heap := s4.heap.push { cls := .type "slice", data := .fields #[vl, vu, vs] } } := I4.kept (t' := s4.toks) fun b ob q => Heap.get?_push_of_some _ q
  cases pl
  cases pu
  cases ps with
  | int _ tk =>
    show wpAny (model X.prog X.w) X.A (subscriptTail e (.Slice none none (some (.UnaryOp .USub (.Constant (.int 1) k p1) p2)) p3) (.str z t) (.ref s4.heap.objs.size)) (EP X pins σ Q) X.xe { s4 with heap := s4.heap.push { cls := .type "slice", data := .fields #[.none, .none, .int (-1) tk] } }
    refine tail_any (ops := [.str z t, .ref s4.heap.objs.size]) (typeIs_str _ _ _) F.slot_str_getitem.lookup ?_ (by with_unfolding_all rfl)
    refine wpAny_getItem_str_slice (l := none) (u := none) (st := some (-1, tk)) ⟨_, Heap.get?_push_size _ rfl, rfl, rfl⟩ rfl ?_
    have hm : sliceMade z t none none (some (-1, tk)) = .str (revS z) := by
      unfold sliceMade
      rw [if_neg (by simp)]
      show Made.str ⟨((Builtin.Str.strSliceIndices none none (-1) z.length).filterMap (z.cps[·]?)).toArray⟩ = Made.str (revS z)
      rw [picked_rev, PySem.W.krv_range, List.filterMap_reverse]
      show Made.str ⟨(((List.range z.cps.size).filterMap (z.cps[·]?)).reverse).toArray⟩ = _
      rw [PySem.W.krv_all]
      rfl
    rw [hm]
    refine ⟨by rw [revS_len]; exact hz, .str _, H4, I5.tok _, ⟨_, rfl⟩, q⟩
end
end Lw
namespace Lw
open PySem PySem.Spec PyProof.Rows L2
theorem joinL_nil : ∀ ps : List (List Nat), TL.joinL [] ps = ps.flatten
  | [] => rfl
  | [p] => by simp [TL.joinL]
  | p :: q :: r => by
    show p ++ ([] ++ TL.joinL [] (q :: r)) = _
    rw [joinL_nil (q :: r)]
    simp
theorem join0 (zs : List Str) : (Txt.join "" zs).cps.toList = (zs.map fun z => z.cps.toList).flatten := by
  rw [TL.join_eq]
  show TL.tl (Str.join "" zs) = _
  rw [TL.tl_join, show TL.tl ("" : Str) = [] by decide +kernel]
  exact joinL_nil _
theorem len_tl (z : Str) : z.length = z.cps.toList.length := by simp [Str.length]
theorem sok_append {a b : Str} (ha : SOk a) (hb : SOk b) : SOk (a ++ b) := by
  intro c hc
  rw [show (a ++ b).cps.toList = a.cps.toList ++ b.cps.toList from TL.tl_append a b] at hc
  rcases List.mem_append.mp hc with h | h
  · exact ha c h
  · exact hb c h
theorem len_append (a b : Str) : (a ++ b).length = a.length + b.length := by
  rw [len_tl, len_tl, len_tl, show (a ++ b).cps.toList = a.cps.toList ++ b.cps.toList from TL.tl_append a b, List.length_append]
theorem sok_rev {a : Str} (ha : SOk a) : SOk (revS a) := by
  intro c hc
  refine ha c ?_
  simpa [revS] using hc
/-- signs: texts of one code -/
def Sg (z : Str) : Prop := z.length = 1 ∧ SOk z
theorem join_sg {zs : List Str} (h : ∀ z ∈ zs, Sg z) : (Txt.join "" zs).length = zs.length ∧ SOk (Txt.join "" zs) := by
  rw [len_tl]
  have e := join0 zs
  constructor
  · rw [e]
    clear e
    induction zs with
    | nil => rfl
    | cons z r ih =>
      rw [List.map_cons, List.flatten_cons, List.length_append, ih fun y hy => h y (List.mem_cons_of_mem _ hy), ← len_tl, (h z List.mem_cons_self).1, List.length_cons]
      omega
  · intro c hc
    rw [e] at hc
    obtain ⟨l, hl, hc⟩ := List.mem_flatten.mp hc
    obtain ⟨z, hz, rfl⟩ := List.mem_map.mp hl
    exact (h z hz).2 c hc
theorem sg_one {c : Nat} {z : Str} (h : SOk z) (hc : c ∈ z.cps.toList) : Sg ⟨#[c]⟩ := ⟨rfl, fun d hd => by
  have : d = c := by simpa using hd
  rw [this]
  exact h c hc⟩
theorem atI_some {α : Type} {xs : List α} {i : Int} (h0 : 0 ≤ i) (h1 : i < xs.length) : ∃ v, atI xs i = some v ∧ v ∈ xs := by
  obtain ⟨j, rfl⟩ : ∃ j : Nat, i = (j : Int) := ⟨i.toNat, by omega⟩
  have hj : j < xs.length := by omega
  exact ⟨xs[j], atI_nat (List.getElem?_eq_getElem hj), List.getElem_mem _⟩
theorem ixN_some {n : Nat} {i : Int} (h0 : 0 ≤ i) (h1 : i < n) : ∃ j, ixN n i = some j ∧ j < n := by
  obtain ⟨j, rfl⟩ : ∃ j : Nat, i = (j : Int) := ⟨i.toNat, by omega⟩
  exact ⟨j, Evl.ixN_nat (by omega), by omega⟩
end Lw

namespace Lw
open PySem PySem.Spec PyProof.Rows L2
/-! ### names -/
def LET : Str := "abcdefghijklmnopqrstuvwxyz"
def DIG : Str := "0123456789"
/-- whether a code is a letter's, a figure's -/
def isL (c : Nat) : Bool := decide (c ∈ LET.cps.toList)
def isD (c : Nat) : Bool := decide (c ∈ DIG.cps.toList)
/-- the names -/
def vnL : List Nat → Bool
  | [] => false
  | c :: r => decide ((c :: r).length ≤ 6) && isL c && (c :: r).all fun d => isL d || isD d
theorem vnL_cons (c : Nat) (r : List Nat) : vnL (c :: r) = (decide ((c :: r).length ≤ 6) && isL c && (c :: r).all fun d => isL d || isD d) := rfl
def vn (z : Str) : Bool := vnL z.cps.toList
theorem cps_at {z : Str} {i c : Nat} (h : z.cps[i]? = some c) : z.cps.toList[i]? = some c := by simpa using h
theorem take_all {α : Type} {xs : List α} {p : α → Bool} {i : Nat} {c : α} (h : xs[i]? = some c) : (xs.take (i + 1)).all p = ((xs.take i).all p && p c) := by
  rw [List.take_add_one, h]
  simp
theorem take_map {α β : Type} {xs : List α} {f : α → β} {i : Nat} {c : α} (h : xs[i]? = some c) : (xs.take (i + 1)).map f = (xs.take i).map f ++ [f c] := by
  rw [List.take_add_one, h, List.map_append]
  rfl
def sp_vn : Sp := fun vs H Q _ => ∃ (z : Str), vs = [.str z] ∧ z.length ≤ 1000 ∧ SOk z ∧ ∀ H', Same H H' → Q (.bl (vn z)) H'
/-- the letters and the figures by their codes -/
theorem let_codes : LET.cps.toList = (List.range 26).map (97 + ·) := by decide +kernel
theorem dig_codes : DIG.cps.toList = (List.range 10).map (48 + ·) := by decide +kernel
theorem isL_iff {c : Nat} : isL c = true ↔ 97 ≤ c ∧ c < 123 := by
  unfold isL
  rw [decide_eq_true_iff, let_codes, List.mem_map]
  constructor
  · rintro ⟨i, hi, rfl⟩
    have := List.mem_range.mp hi
    omega
  · rintro ⟨h1, h2⟩
    exact ⟨c - 97, List.mem_range.mpr (by omega), by omega⟩
theorem isD_iff {c : Nat} : isD c = true ↔ 48 ≤ c ∧ c < 58 := by
  unfold isD
  rw [decide_eq_true_iff, dig_codes, List.mem_map]
  constructor
  · rintro ⟨i, hi, rfl⟩
    have := List.mem_range.mp hi
    omega
  · rintro ⟨h1, h2⟩
    exact ⟨c - 48, List.mem_range.mpr (by omega), by omega⟩
/-- a code that a name may have -/
def isN (c : Nat) : Bool := isL c || isD c
theorem isN_lt {c : Nat} (h : isN c = true) : c < 123 := by
  unfold isN at h
  rw [Bool.or_eq_true, isL_iff, isD_iff] at h
  omega
theorem vnL_of {c : Nat} {r : List Nat} (hl : r.length ≤ 5) (hc : isL c = true) (hr : ∀ d ∈ r, isN d = true) : vnL (c :: r) = true := by
  rw [vnL_cons, hc, decide_eq_true (by simp only [List.length_cons]; omega), Bool.true_and, Bool.true_and, List.all_eq_true]
  intro d hd
  rcases List.mem_cons.mp hd with rfl | hd
  · rw [hc]
    rfl
  · exact hr d hd
theorem vn_parts {z : Str} (h : vn z = true) : 1 ≤ z.length ∧ z.length ≤ 6 ∧ ∀ c ∈ z.cps.toList, isN c = true := by
  unfold vn at h
  rw [len_tl]
  cases hc : z.cps.toList with
  | nil =>
    rw [hc] at h
    cases h
  | cons c r =>
    rw [hc, vnL_cons, Bool.and_eq_true, Bool.and_eq_true, decide_eq_true_iff, List.all_eq_true] at h
    exact ⟨by simp, h.1.1, h.2⟩
theorem vn_sok {z : Str} (h : vn z = true) : SOk z := fun c hc => by
  have := isN_lt ((vn_parts h).2.2 c hc)
  omega
end Lw

namespace Lw
open PySem PySem.Spec PyProof.Rows L2
def sp_draw : Sp := fun vs H Q _ => ∃ (st : Addr) (size : Int) (n : Nat), vs = [.ref st, .int size] ∧ DS H st n ∧ n ≤ 1000000000 ∧ 0 < size ∧ size < 1000000000 ∧
  ∀ (d : Int) (H' : Hp), 0 ≤ d → d < size → DS H' st (n + 1) → Kp st H H' → Q (.int d) H'
def sp_start (K : PySem.W.Frag) : Sp := fun vs H Q _ => ∃ (a : Addr) (ns : List Int), vs = [.ref a] ∧ SqL K H a (ns.map V.int) ∧ ns.length ≤ 63 ∧
  ∀ (st : Addr) (H' : Hp), DS H' st 0 → (∀ b o, H b = some o → Ap H' st b o) → Q (.ref st) H'
theorem DS.ex {H H' : Hp} {st : Addr} {n : Nat} (D : DS H st n) (e : Evl.Ex H H') : DS H' st n := by
  obtain ⟨q, r, bs, cs, c, d, h1, h2, h3, h4⟩ := D
  exact ⟨q, r, bs, cs, c, ⟨e _ _ d.st', e _ _ d.q', e _ _ d.r', d.qr, d.qs, d.rs⟩, h1, h2, h3, h4⟩
theorem DS.exK {H H' : Hp} {st : Addr} {n : Nat} (D : DS H st n) (e : Evl.Ex H H') : Kp st H H' := by
  obtain ⟨q, r, bs, cs, c, d, h1, h2, h3, h4⟩ := D
  exact Kp.dx d ⟨e _ _ d.st', e _ _ d.q', e _ _ d.r', d.qr, d.qs, d.rs⟩ fun b o x _ y z => ⟨e _ _ x, y, z⟩
/-- a list made anew since H1, stored to, keeps what stood apart in H1 -/
theorem Kp.put {H1 H : Hp} {st b : Addr} {n : Nat} {o u : HO} (k : Kp st H1 H) (hb : H1 b = none) (D : DS H st n) (a : Ap H st b o) : Kp st H1 (upd H b u) := fun c v h => Ap.put D a (k c v h) (ne_of_none h.1 hb)
theorem DS.freshB {H : Hp} {st p : Addr} {n : Nat} {o : HO} (D : DS H st n) (h : Ap H st p o) {H' : Hp} (e : Evl.Ex H H') : Ap H' st p o := D.exK e _ _ h
/-- [signs[draw(size)] for k in range(n)] -/
theorem lc_signs {st D : Addr} {m n j i0 iz : Nat} {size lo : Int} {z : Str} {σ : L2.St} {vs : List Nat} {Qd : Hp → Prop} {H1 : Hp} (hst : ∀ x, ((wipe σ vs).set j (some x))[i0]? = some (some (.ref st))) (hz : ∀ x, ((wipe σ vs).set j (some x))[iz]? = some (some (.str z)))
    (hw : ∀ x, wipe ((wipe σ vs).set j (some x)) vs = wipe σ vs) (hs0 : 0 < size) (hs1 : size ≤ z.length) (zl : z.length ≤ 1000) (hm : m + n ≤ 1000000000) (hn : n ≤ 1000) (D0 : DS H1 st m) (hD : H1 D = none)
    (hd : ∀ (H' : Hp) (zs : List Str), DS H' st (m + n) → Kp st H1 H' → Ap H' st D (.lst (zs.map V.str)) → zs.length = n → (∀ y ∈ zs, ∃ c k : Nat, y = ⟨#[c]⟩ ∧ (k : Int) < size ∧ z.cps.toList[k]? = some c) → Qd H') :
    ∃ W : Nat → Nat → Hp → Prop, (∃ m, W 0 m (upd H1 D (.lst []))) ∧ ∀ i m H, W i m H →
      ((Itr lo n).stop i H ∧ Qd H) ∨ ((Itr lo n).go i H ∧ ∃ Nx : Hp → Prop, (∀ H', Nx H' → ∃ m', m' < m ∧ W (i + 1) m' H') ∧ ∀ x H', (Itr lo n).yld i H x H' → (gName j) x (wipe σ vs) H' fun σ2 H2 => wipe σ2 vs = wipe σ vs ∧ tYes σ2 H2 fun b H3 =>
        if b = true then (tOp rIxS (tVar iz) (tCall sp_draw [] E0 (tCons (tVar i0) (tCons (tC (.int size)) tNil)))) σ2 H3 fun y H4 => ∃ acc, H4 D = some (.lst acc) ∧ acc.length < sizeLine ∧ Nx (upd H4 D (.lst (acc ++ [y]))) else Nx H3) := by
  have zl2 : z.length ≤ sizeLine := Nat.le_of_lt (small1000 zl)
  refine lc_range (lo := lo) (n := n) (fun i H' => ∃ zs : List Str, DS H' st (m + i) ∧ Kp st H1 H' ∧ Ap H' st D (.lst (zs.map V.str)) ∧ zs.length = i ∧ ∀ y ∈ zs, ∃ c k : Nat, y = ⟨#[c]⟩ ∧ (k : Int) < size ∧ z.cps.toList[k]? = some c) ⟨[], D0.new hD, D0.newK hD, D0.fresh hD, rfl, fun _ h => by simp at h⟩ (fun i H' hi ⟨zs, DD, kp, ap, hl, hy⟩ => ?_) (fun H' ⟨zs, DD, kp, ap, hl, hy⟩ => hd H' zs DD kp ap hl hy)
  refine ⟨hw _, .str z, hz _, .ref st, hst _, st, size, m + i, rfl, DD, by omega, hs0, by omega, fun d H2 d0 d1 D' kp2 => ?_⟩
  obtain ⟨k, rfl⟩ : ∃ k : Nat, d = (k : Int) := ⟨d.toNat, by omega⟩
  have hk : k < z.cps.toList.length := by
    rw [← len_tl]
    omega
  have ap' := kp2 _ _ ap
  refine ⟨z, (k : Int), z.cps.toList[k], rfl, rfl, zl2, atI_nat (List.getElem?_eq_getElem hk), _, ap'.1, ?_, zs ++ [⟨#[z.cps.toList[k]]⟩], D'.put ap', (kp.trans kp2).put hD D' ap', ?_, ?_, ?_⟩
  · rw [List.length_map]
    exact small1000 (by omega)
  · rw [List.map_append]
    exact D'.putA ap'
  · rw [List.length_append, hl]
    rfl
  · intro y hy'
    rcases List.mem_append.mp hy' with h | h
    · exact hy y h
    · rw [List.mem_singleton.mp h]
      exact ⟨_, k, rfl, d1, List.getElem?_eq_getElem hk⟩
/-- the letters, then the figures -/
def SG36 : Str := "abcdefghijklmnopqrstuvwxyz0123456789"
theorem sg36_codes : SG36.cps.toList = (List.range 26).map (97 + ·) ++ (List.range 10).map (48 + ·) := by decide +kernel
theorem sg36_len : SG36.length = 36 := by decide +kernel
theorem sg36_at {k c : Nat} (h : SG36.cps.toList[k]? = some c) : isN c = true ∧ (k < 26 → c = 97 + k ∧ isL c = true) := by
  rw [sg36_codes] at h
  by_cases hk : k < 26
  · rw [List.getElem?_append_left (by simpa using hk), List.getElem?_map, List.getElem?_range hk] at h
    have : c = 97 + k := (Option.some.inj h).symm
    have hl : isL c = true := isL_iff.mpr (by omega)
    exact ⟨by unfold isN; rw [hl]; rfl, fun _ => ⟨this, hl⟩⟩
  · have h2 : k - 26 < 10 := by
      have := (List.getElem?_eq_some_iff.mp h).1
      simp at this
      omega
    rw [List.getElem?_append_right (by simpa using hk), List.getElem?_map, List.length_map, List.length_range, List.getElem?_range h2] at h
    have : c = 48 + (k - 26) := (Option.some.inj h).symm
    have hd : isD c = true := isD_iff.mpr (by omega)
    exact ⟨by unfold isN; rw [hd]; exact Bool.or_true _, fun h => absurd h hk⟩
/-- figures of small numbers -/
theorem num_codes : ∀ i : Nat, i < 100 → (∀ c ∈ (Str.ofString (toString (i : Int))).cps.toList, isD c = true) ∧ (Str.ofString (toString (i : Int))).cps.toList.length ≤ 2 := by
  have : ((List.range 100).all fun i => ((Str.ofString (toString (i : Int))).cps.toList.all isD) && decide ((Str.ofString (toString (i : Int))).cps.toList.length ≤ 2)) = true := by decide +kernel
  intro i hi
  have h := List.all_eq_true.mp this i (List.mem_range.mpr hi)
  rw [Bool.and_eq_true, List.all_eq_true, decide_eq_true_iff] at h
  exact h
theorem num_inj : ∀ i j : Nat, i < 100 → j < 100 → (Str.ofString (toString (i : Int))).cps.toList = (Str.ofString (toString (j : Int))).cps.toList → i = j := by
  have : ((List.range 100).all fun i => (List.range 100).all fun j => decide ((Str.ofString (toString (i : Int))).cps.toList = (Str.ofString (toString (j : Int))).cps.toList → i = j)) = true := by decide +kernel
  intro i j hi hj
  have h := List.all_eq_true.mp (List.all_eq_true.mp this i (List.mem_range.mpr hi)) j (List.mem_range.mpr hj)
  exact of_decide_eq_true h
theorem app_codes (a b : Str) : (a ++ b).cps.toList = a.cps.toList ++ b.cps.toList := TL.tl_append a b
theorem str_ext {a b : Str} (h : a.cps.toList = b.cps.toList) : a = b := TL.ext_tl h
theorem vn_of {z : Str} {c : Nat} {r : List Nat} (e : z.cps.toList = c :: r) (hl : r.length ≤ 5) (hc : isL c = true) (hr : ∀ d ∈ r, isN d = true) : vn z = true := by
  unfold vn
  rw [e]
  exact vnL_of hl hc hr
/-- a row of n different names by its turns -/
theorem row_names {n : Nat} {f : Nat → Str} (hv : ∀ k, k < n → vn (f k) = true) (hi : ∀ j k, j < k → k < n → f j ≠ f k) : ((List.range n).map f).length = n ∧ (∀ z ∈ (List.range n).map f, vn z = true) ∧ ((List.range n).map f).Nodup := by
  refine ⟨by simp, fun z hz => ?_, ?_⟩
  · obtain ⟨k, hk, rfl⟩ := List.mem_map.mp hz
    exact hv k (List.mem_range.mp hk)
  · rw [List.nodup_iff_pairwise_ne, List.pairwise_map]
    refine List.Pairwise.imp_of_mem ?_ (List.pairwise_lt_range)
    intro a b ha hb hab
    exact hi a b hab (List.mem_range.mp hb)
end Lw

namespace Lw
open PySem PySem.Spec PyProof.Rows L2 Evl
theorem cutS_to (z : Str) (k : Nat) : (cutS z none (some (k : Int))).cps.toList = z.cps.toList.take k := by
  show (z.cps.toList.drop (HT.sIx z.length 0 none)).take (HT.sIx z.length z.length (some (k : Int)) - HT.sIx z.length 0 none) = _
  rw [HT.sIx_none, HT.sIx_nat, List.drop_zero, Nat.sub_zero, len_tl, ← List.take_take, List.take_length]
theorem cutS_from (z : Str) (k : Nat) : (cutS z (some (k : Int)) none).cps.toList = z.cps.toList.drop k := by
  show (z.cps.toList.drop (HT.sIx z.length 0 (some (k : Int)))).take (HT.sIx z.length z.length none - HT.sIx z.length 0 (some (k : Int))) = _
  rw [HT.sIx_none, HT.sIx_nat, len_tl]
  by_cases h : k ≤ z.cps.toList.length
  · rw [Nat.min_eq_left h]
    exact List.take_of_length_le (by rw [List.length_drop]; exact Nat.le_refl _)
  · rw [Nat.min_eq_right (by omega), List.drop_of_length_le (Nat.le_refl _), List.drop_of_length_le (by omega)]
    simp
section
variable {K : PySem.W.Frag} {σ : L2.St} {H H' : Hp} {ta tb tc te tl : TE} {t u : TT} {x y z v : V} {r r' : R2}
theorem rc_strI {i : Int} (h : i.natAbs.log2 < 1920) : RC (fun xs H Q => ∃ i, xs = [.int i] ∧ i.natAbs.log2 < 1920 ∧ Q (.str (toString i)) H) [.int i] H (.str (toString i)) := fun H1 _ _ q => ⟨i, rfl, h, q H1 (Ex.refl H1)⟩
theorem ev_slS {tl th : TO} {z : Str} {lo hi : Option Int} (h : Ev te σ H (.str z)) (h1 : EvO tl σ H lo) (h2 : EvO th σ H hi) (hz : z.length ≤ sizeLine) : Ev (tSl rSlS te tl th) σ H (.str (cutS z lo hi)) := fun H1 e _ q =>
  h H1 e _ fun H2 e2 => h1 H2 (e.trans e2) _ fun H3 e3 => h2 H3 ((e.trans e2).trans e3) _ fun H4 e4 => ⟨z, rfl, hz, q H4 ((e2.trans e3).trans e4)⟩
/-- an item of a new list -/
theorem ev_ixNew {xs : List V} {i : Int} (ha : EvL ta σ H xs) (hb : Ev tb σ H (.int i)) (h : atI xs i = some v) : Ev (tOp (rIxL K) ta tb) σ H v :=
  ev_opL1 ha (fun _ e => hb.mono e) fun p H1 hp _ => rv_ixL (.inl (.inl hp)) h
end
/-- [elt for k in range(n)], without a test -/
theorem given_all (n : Nat) (v : Nat → V) : given n (fun _ => true) v = (List.range n).map v := by
  unfold given
  rw [List.filter_eq_self.mpr fun _ _ => rfl]
theorem stem_ok {zs : List Str} (h : ∀ y ∈ zs, ∃ c k : Nat, y = ⟨#[c]⟩ ∧ (k : Int) < 36 ∧ SG36.cps.toList[k]? = some c) : (Txt.join "" zs).cps.toList.length = zs.length ∧ (∀ c ∈ (Txt.join "" zs).cps.toList, isN c = true) ∧ (zs.map (·.length)).sum = zs.length := by
  rw [join0]
  induction zs with
  | nil => exact ⟨rfl, fun _ h => by simp at h, rfl⟩
  | cons y r ih =>
    obtain ⟨i1, i2, i3⟩ := ih fun x hx => h x (List.mem_cons_of_mem _ hx)
    obtain ⟨c, k, rfl, hk, hc⟩ := h y List.mem_cons_self
    refine ⟨?_, fun d hd => ?_, ?_⟩
    · rw [List.map_cons, List.flatten_cons, List.length_append, i1, List.length_cons]
      show 1 + r.length = r.length + 1
      omega
    · rw [List.map_cons, List.flatten_cons, List.mem_append] at hd
      rcases hd with hd | hd
      · have : d = c := by simpa using hd
        rw [this]
        exact (sg36_at hc).1
      · exact i2 d hd
    · rw [List.map_cons, List.sum_cons, i3, List.length_cons]
      show 1 + r.length = r.length + 1
      omega
/-- what a pure piece has made stands apart -/
theorem DS.exNew {H H' : Hp} {st p : Addr} {n : Nat} {o : HO} (D : DS H st n) (e : Ex H H') (h : H p = none) (h' : H' p = some o) : Ap H' st p o := by
  obtain ⟨q, r, bs, cs, c, d, h1, h2, h3, h4⟩ := D
  have d' : DX H' st q r bs cs c := ⟨e _ _ d.st', e _ _ d.q', e _ _ d.r', d.qr, d.qs, d.rs⟩
  exact (ap_iff d').mpr ⟨h', (ne_of_none d.st' h).symm, (ne_of_none d.q' h).symm, (ne_of_none d.r' h).symm⟩
def sp_names : Sp := fun vs H Q _ => ∃ (st : Addr) (count : Int) (n : Nat), vs = [.ref st, .int count] ∧ DS H st n ∧ n ≤ 900000000 ∧ 0 ≤ count ∧ count ≤ 9 ∧
  ∀ (p : Addr) (ws : List Str) (H' : Hp), DS H' st (n + 20) → Kp st H H' → (∀ b o, Ap H st b o → b ≠ p) → Ap H' st p (.lst (ws.map V.str)) → ws.length = count.toNat → (∀ z ∈ ws, vn z = true) → ws.Nodup → Q (.ref p) H'
end Lw

namespace Lw
open PySem PySem.Spec PyProof.Rows L2
/-! ### several except clauses, each with a name -/
abbrev Suite := Addr → Value → Option Addr → TS
/-- the suite's ends: the clause's name is gone behind it -/
def gone (i : Nat) (D : Ends) : Ends := { nx := fun σ' H' => D.nx (σ'.set i none) H', rt := D.rt, bk := fun σ' H' => D.bk (σ'.set i none) H', ct := fun σ' H' => D.ct (σ'.set i none) H' }
def wNamed (K : PySem.W.Frag) (Wout : WX) (D : Ends) : List (Value × Nat × Suite) → WX
  | [] => Wout
  | (c, i, ts) :: r => fun cls d σ H => ∃ b, PySem.W.exmOne K cls c = some b ∧ (b = true → ∀ a, H a = none → ts a cls d (gone i D) (σ.set i (some (.ref a))) H) ∧ (b = false → wNamed K Wout D r cls d σ H)
inductive NamedOk (X : Cx) : List ExceptHandler → List (Value × Nat × Suite) → Prop
  | nil : NamedOk X [] []
  | cons {x n : Str} {c : Value} {i : Nat} {ts : Suite} {b₀ : Stmt} {suite : List Stmt} {np pos' : Pos} {hds : List ExceptHandler} {l : List (Value × Nat × Suite)} (hc : Names X x c) (hi : X.N[i]? = some n) (hl : X.env.kindOf n = some .local)
      (hsu : ∀ (a : Addr) (oe : Obj) (cls : Value) (d : Option Addr) (pn : List (Addr × Obj)), Zc cls d oe → (∃ vs, oe.data = .fields vs) → PSs (X.suite a ((a, oe) :: pn)) (b₀ :: suite) (ts a cls d)) (r : NamedOk X hds l) :
      NamedOk X (.ExceptHandler (some (.Name x np)) (some n) (b₀ :: suite) pos' :: hds) ((c, i, ts) :: l)
section
variable {X : Cx} {body : List Stmt} {h₀ : ExceptHandler} {hds : List ExceptHandler} {l : List (Value × Nat × Suite)} {pos : Pos} {tb : WX → TS} {Wout : WX}
theorem ps_try_named (hst : X.stack = X.env :: X.outer) (hfm : X.env.frame = some X.env.locals) (hN : X.N.Nodup) (tk : Takes X Wout)
    (hbody : ∀ (W : WX) (pn : List (Addr × Obj)) (xe : Value → Shared → Prop), Takes (X.tr pn xe) W → PassesOwn (model X.prog X.w) X.A X.env xe → PSs (X.tr pn xe) body (tb W))
    (hh : NamedOk X (h₀ :: hds) l) : PS X (.Try body (h₀ :: hds) [] [] pos) (fun D σ H => tb (wNamed X.K Wout D l) D σ H) := by
  refine ⟨fun pins s σ H D I h => ?_⟩
  have ok := I.ok
  have frm : X.A.frames = some (X.env :: X.outer) := by
    rw [ok.frames, hst]
  refine wpAny_Try_except ?_
  have caught : Takes (X.tr (X.pn ++ pins) fun e s₁ => wpAny (model X.prog X.w) X.A (noteFrame e X.env) (fun _ s₂ => wpAny (model X.prog X.w) X.A (setFlight e none) (fun _ s₃ => wpAny (model X.prog X.w) X.A (handleBy e X.env (h₀ :: hds)) (SP X pins D) X.xe s₃) X.xe s₂) X.xe s₁) (wNamed X.K Wout D l) := by
    intro u s' xx
    obtain ⟨a, B, sI, pins', σ', H', cls, d, rfl, J', nb, up, sky, na, os, ag, w⟩ := xx
    have J : Inv X pins σ' H' sI := J'.ofTry ok
    have sky2 : Sky B (X.env :: X.outer) a (Zc cls d) X.env.locals s'.heap := by
      rw [← hst]
      exact sky
    show wpAny (model X.prog X.w) X.A (noteFrame (.ref a) X.env) _ _ _
    refine Sky.land Zc.steady frm hfm sky2 fun hA flA upA => ?_
    have JA : Inv X pins σ' H' { s' with heap := hA } := J.landed nb flA.1 (up.trans upA) os ag
    obtain ⟨oA, vsA, geA, zA, dA⟩ := flA.there
    have off : a ∉ frs (X.env :: X.outer) := fun hm => by
      obtain ⟨_, o', e', nof⟩ := flA.2.2.1.mem hm
      rw [geA] at e'
      cases e'
      exact nof _ dA
    have offL : a ≠ X.env.locals := fun z => off (List.mem_filterMap.mpr ⟨X.env, List.mem_cons_self, by rw [hfm, z]⟩)
    have offF : a ∉ X.fs := fun hm => by
      obtain ⟨e, he, q⟩ := List.mem_filterMap.mp hm
      exact off (List.mem_filterMap.mpr ⟨e, List.mem_cons_of_mem _ he, q⟩)
    have SA := JA.suite geA dA na offL offF
    -- one clause after the other
    have go : ∀ {hs : List ExceptHandler} {m : List (Value × Nat × Suite)}, NamedOk X hs m → wNamed X.K Wout D m cls d σ' H' → wpAny (model X.prog X.w) X.A (handleBy (.ref a) X.env hs) (SP X pins D) X.xe { s' with heap := hA } := by
      intro hs m hk
      induction hk with
      | nil =>
        intro w
        obtain ⟨_, _, _, oe, vs, T, _, _, he, _, hd, h1, _⟩ := id flA
        refine wpAny_handleBy_nil ?_
        unfold PySem.passOn
        refine wpAny_bind (wpAny_field he hd h1 ?_)
        rw [if_neg (show ¬ ((Value.ref T == Value.none) = true) from by simp)]
        have on : wpAny (model X.prog X.w) X.A (setFlight (.ref a) X.env.frame) (fun _ s4 => wpAny (model X.prog X.w) X.A (throw (.ref a) : Sem Flow) (SP X pins D) X.xe s4) X.xe { s' with heap := hA } := by
          rw [hfm]
          refine HandSPX.setFlight_upZ flA fun hB flB upB => wpAny_throw (tk _ _ ?_)
          exact ⟨a, B, sI, pins, σ', H', cls, d, rfl, J, nb, (up.trans upA).trans upB, .inr (.inr (by rw [hst]; exact flB)), na, os, ag, w⟩
        first
          | exact wpAny_bind (wpAny_pure (wpAny_bind on))
          | exact wpAny_bind on
      | @cons x n c i ts b₀ suite np pos' hs2 m2 hc hi hl hsu r ih =>
        intro w
        obtain ⟨b, hb1, yes, no⟩ := w
        refine wpAny_handleBy_cons (codeAny_handlers_test ?_) (by intro q; cases q)
        have isCls : PySem.W.Looks (model X.prog X.w) hA (typeOf (.ref a)) cls := fun A Q E s k q => wpAny_typeOf_ref (k _ _ geA) (by rw [zA.1]; exact q)
        have meets := PySem.W.exm_one (M := model X.prog X.w) JA.kIn isCls hb1
        have named : ∀ {Q : Value → Shared → Prop} {E : Value → Shared → Prop}, Q c { s' with heap := hA } → wpAny (model X.prog X.w) (X.A.mark (some (.ref a))) (eval (.Name x np) X.env) Q E { s' with heap := hA } := fun {Q E} q => by
          obtain ⟨hg, hdb, hm | ⟨hm, hv, hnn⟩⟩ := hc
          · exact ld_glob (X := X.suite a ((a, oA) :: (X.pn ++ pins))) SA hg hm q hdb
          · exact ld_blt (X := X.suite a ((a, oA) :: (X.pn ++ pins))) SA hg hm hv q hnn hdb
        refine named (meets.here ?_)
        cases b with
        | false =>
          show wpAny _ X.A (handleBy (.ref a) X.env hs2) _ _ _
          exact ih (no rfl)
        | true =>
          refine codeAny_handlers_suite_as ?_
          refine HandSPX.lands_againZ flA fun hB flB upB => ?_
          have JB : Inv X pins σ' H' { s' with heap := hB } := J.landed nb flB.1 ((up.trans upA).trans upB) os ag
          obtain ⟨oB, vsB, geB, zB, dB⟩ := flB.there
          have SB := JB.suite geB dB na offL offF
          refine store_ok (X := X.suite a ((a, oB) :: (X.pn ++ pins))) (v := .ref a) SB hN hi (.inl hl) rfl (fun s5 S5 => ?_) (.inr hl)
          refine wpAny_mono ((hsu a oB cls d (X.pn ++ pins) zB ⟨_, dB⟩).run [] s5 _ H' _ S5 (yes rfl a na)) (fun f s6 hsp => ?_) (fun _ _ z => False.elim z)
          have fin : ∀ {σ6 : L2.St} {H6 : Hp} {Q : Shared → Prop}, Inv (X.suite a ((a, oB) :: (X.pn ++ pins))) [] σ6 H6 s6 → (∀ s7, Inv X pins (σ6.set i none) H6 s7 → Q s7) →
              wpAny (model X.prog X.w) X.A (do bindName X.env n .none; unbindBehindTheSuite X.env n pos') (fun _ s7 => Q s7) X.xe s6 := fun {σ6 H6 Q} S6 hq => gone_ok (S6.unsuite ok) hN hi hl hq
          cases f with
          | ret u =>
            obtain ⟨v6, σ6, H6, S6, r6, q6⟩ := hsp
            exact fin S6 fun s7 J7 => ⟨_, _, _, J7, r6, q6⟩
          | next =>
            obtain ⟨σ6, H6, S6, q6⟩ := hsp
            exact fin S6 fun s7 J7 => ⟨_, _, J7, q6⟩
          | brk =>
            obtain ⟨σ6, H6, S6, q6⟩ := hsp
            exact fin S6 fun s7 J7 => ⟨_, _, J7, q6⟩
          | cont =>
            obtain ⟨σ6, H6, S6, q6⟩ := hsp
            exact fin S6 fun s7 J7 => ⟨_, _, J7, q6⟩
    exact go hh w
  refine wpAny_mono ((hbody (wNamed X.K Wout D l) (X.pn ++ pins) _ caught PassesOwn.looking).run [] s σ H D (I.toTry _) h) (fun f s1 hsp => ?_) (fun e s1 he => he)
  cases f with
  | ret u =>
    obtain ⟨v, σ', H', J', r, q⟩ := hsp
    exact ⟨v, σ', H', J'.ofTry ok, r, q⟩
  | next =>
    obtain ⟨σ', H', J', q⟩ := hsp
    exact wpAny_execs_nil ⟨σ', H', J'.ofTry ok, q⟩
  | brk =>
    obtain ⟨σ', H', J', q⟩ := hsp
    exact ⟨σ', H', J'.ofTry ok, q⟩
  | cont =>
    obtain ⟨σ', H', J', q⟩ := hsp
    exact ⟨σ', H', J'.ofTry ok, q⟩
end
/-! ### isinstance of a caught error that has a dict -/
structure IsC (K : PySem.W.Frag) (D : Addr) : Prop where
  cl : (PySem.W.clsIn K D).isSome = true
  ga : PySem.W.findIn K (.ref D) "__getattribute__" = some (some (.builtin "BaseException.__getattribute__"))
  gt : ∃ gt, PySem.W.findIn K (.ref D) "__getattr__" = some gt
  sb : PySem.W.subIn K (.ref D) (.type "BaseException") = some true
  ca : PySem.W.findIn K (.ref D) "__class__" = some (some (.builtin "object.__class__"))
  sn : PySem.W.specialIn K (.builtin "object.__class__") "__get__" = some (some (.builtin "getset_descriptor.__get__"))
  tk : PySem.W.takesIn K (.builtin "object.__class__") = some true
  mo : PySem.W.mroIn K D (.type "object") = some true
/-- isinstance(e, c): e the error that the suite holds, its class at D, its own dict at dd -/
def rIsX (K : PySem.W.Frag) (a : Addr) (cls : Value) (d : Option Addr) : List V → Hp → VK → Prop := fun xs H Q => ∃ (D : Addr) (c : V) (cv : Value) (b : Bool) (dd : Addr) (fs : List (Str × V)), IsC K D ∧ cls = .ref D ∧ d = some dd ∧ H dd = some (.xd fs) ∧ xs = [.ref a, c] ∧ ClsV c cv ∧ PySem.W.kitOne K (.ref D) cv = some b ∧ Q (.bl b) H
theorem call_isX {X : Cx} {a : Addr} {cls : Value} {d : Option Addr} {oe : Obj} {pn : List (Addr × Obj)} (hz : Zc cls d oe) (hf : ∃ vs, oe.data = .fields vs) : CallR (X.suite a ((a, oe) :: pn)) (.builtin "isinstance") (rIsX X.K a cls d) := by
  intro pins s σ H xs us Q I r h
  obtain ⟨D, c, cv, b, dd, fs, C, rfl, rfl, hdd, rfl, hcv, e, q⟩ := h
  cases r with
  | cons rx rr =>
    cases rr with
    | cons rt rr =>
      cases rr
      cases rx
      have ec := hcv.eq rt
      subst ec
      obtain ⟨hget, _⟩ := I.pin (a, oe) (List.mem_append.mpr (.inl List.mem_cons_self))
      obtain ⟨vs, hv⟩ := hf
      have hx : ObjOk X.prog X.w H s.heap dd (.xd fs) := I.hok dd _ hdd
      obtain ⟨mA, hns, _⟩ := hx
      obtain ⟨od, ho, _⟩ := lookIn_ns hns
      obtain ⟨gt, hgt⟩ := C.gt
      have J : PySem.W.InstAt s.heap a oe D (some od) := ⟨hget, hz.1, by unfold PySem.W.notCls; rw [hv] <;> rfl, by rw [hz.2]; exact ho⟩
      exact PySem.W.kia_one (PySem.W.kitx_exc C.cl C.ga hgt C.sb C.ca C.sn C.tk C.mo) I.kIn J e (by cases hcv <;> exact fun z => nomatch z) fun tk => ⟨.bl b, H, I.kept (t' := tk) fun _ _ z => z, rfl, q⟩
/-! ### an error of one field is made -/
/-- __init__(self, f): self.f = f -/
def sp_init1 (K : PySem.W.Frag) (C : Addr) (f : Str) : Sp := fun vs H Q _ => ∃ (a : Addr) (y : V), vs = [.ref a, y] ∧ H a = some (exo a C none) ∧ ∀ dx, H dx = none → dx ≠ a → Q .non (upd (upd H dx (exd dx [(f, y)])) a (exo a C (some dx)))
theorem mk1_at {K : PySem.W.Frag} {C : Addr} {f : Str} {y : V} {H1 : Hp} {Q : XK} (k : ∀ d, H1 d = none → Q (.ref C) (some d) (upd H1 d (.xd [(f, y)]))) : ([y] : List V).length ≤ 1000 ∧ ∀ a, H1 a = none → sp_init1 K C f (.ref a :: ([y] ++ [])) (upd H1 a (exo a C none))
      (fun v H2 => v = .non ∧ ∃ (d : Addr) (fs : List (Str × V)), H2 a = some (exo a C (some d)) ∧ H2 d = some (exd d fs) ∧ H1 d = none ∧ Q (.ref C) (some d) (upd (del H2 a) d (.xd fs))) (fun _ _ _ => False) := by
  refine ⟨by simp, fun a na => ⟨a, y, rfl, upd_same, fun dx ndx ne => ⟨rfl, dx, [(f, y)], upd_same, ?_, ?_, ?_⟩⟩⟩
  · rw [upd_ne ne, upd_same]
  · rw [upd_ne ne] at ndx
    exact ndx
  · rw [upd_ne ne] at ndx
    have e : upd (del (upd (upd (upd H1 a (exo a C none)) dx (exd dx [(f, y)])) a (exo a C (some dx))) a) dx (.xd [(f, y)]) = upd H1 dx (.xd [(f, y)]) := by
      funext b
      by_cases hb : b = dx
      · rw [hb, upd_same, upd_same]
      · rw [upd_ne hb, upd_ne hb]
        by_cases ha : b = a
        · rw [ha, del_same, na]
        · rw [del_ne ha, upd_ne ha, upd_ne hb, upd_ne ha]
    rw [e]
    exact k dx ndx
end Lw

namespace Lw
open PySem PySem.Spec PyProof.Rows L2
section
open PySem.W PySem.Calls
variable {prog : Program} {w : World} {A : Around} {E : Value → Shared → Prop} {s : Shared}
/-- a tuple's items are collected for sorted -/
theorem collect_tup {l : Addr} {vs : List Value} {Q : List Value → Shared → Prop} (hl : IsTup s.heap l vs.toArray) (hz : vs.length ≤ sizeLine)
    (h : Q vs { s with heap := (s.heap.push (seqObj "list" #[] 0)).update s.heap.objs.size (Obj.mapSeq (· ++ vs.toArray)) }) : wpAny (model prog w) A (collect (.ref l)) Q E s := by
  obtain ⟨o, ho, hc, n, hd⟩ := id hl
  have own : (s.heap.push (seqObj "list" #[] 0)).get? l = some o := Heap.get?_push_of_some _ ho
  have new : (s.heap.push (seqObj "list" #[] 0)).get? s.heap.objs.size = some (seqObj "list" #[] 0) := Heap.get?_push_size _ rfl
  unfold collect
  refine wpAny_bind (wpAny_runValue (codeAny_builtin entry_proto_collect' ?_))
  show wpAny _ _ (do again (.builtin "list.__iadd__" ⟨[← newList [], .ref l], []⟩)) _ _ s
  refine wpAny_bind (wpAny_newList (wpAny_pure ⟨Code.quiet_builtin _ (by decide +kernel), codeAny_builtin entry_list_iadd' ?_⟩))
  show wpAny _ _ (Builtin.List.listExtendWith (.ref s.heap.objs.size) (.ref l) (.ref s.heap.objs.size)) _ _ { s with heap := s.heap.push (seqObj "list" #[] 0) }
  unfold Builtin.List.listExtendWith
  refine wpAny_bind (wpAny_typeOf (T := "tuple") ⟨o, own, hc⟩ ?_)
  have isT : (Value.type "tuple" == Value.type "tuple") = true := rfl
  rw [if_pos (by rw [isT, Bool.or_true])]
  refine wpAny_bind (listItems_at own hd (wpAny_bind (listItems_at (xs := #[]) (n := 0) new rfl ?_)))
  rw [if_neg (by simp)]
  refine wpAny_bind (listUpdate_at (xs := #[]) (n := 0) new rfl (wpAny_pure ?_) (Nat.zero_le _) (by show (#[] ++ vs.toArray).size ≤ sizeLine + 1; simp only [Array.size_append, List.size_toArray, List.length_nil]; omega))
  refine wpAny_bind (wpAny_load (get?_update_seq new _) ?_)
  show wpAny _ _ (pure ((#[] : Array Value) ++ vs.toArray).toList) Q E _
  have e : ((#[] : Array Value) ++ vs.toArray).toList = vs := by simp
  rw [e]
  exact wpAny_pure h
/-- sorted(t), t a tuple: a new list, the sorted one -/
theorem sorted_tup {κ : PyProof.Rows.KeyKind} {l : Addr} {vs : List Value} {Q : Value → Shared → Prop} (hl : IsTup s.heap l vs.toArray) (hL : vs.length ≤ sizeLine) (S : SortsAt prog w A.in1.in1 { s with heap := sortingHeap (copyHeap s.heap vs) (s.heap.objs.size + 1) vs } κ vs)
    (h : Q (.ref (s.heap.objs.size + 1)) { s with heap := sortedAll s.heap vs (sortVals κ false vs vs).toArray }) : wpAny (model prog w) A (call (.builtin "sorted") [.ref l]) Q E s := by
  refine call_function_entry_kw kind_sorted plain_sorted entry_sorted (args_sorted1 _) ?_
  unfold Builtin.«sorted»
  refine wpAny_bind (m := checkCount "sorted" 1 1 _) (wpAny_pure (wpAny_bind (collect_tup hl hL (wpAny_bind (wpAny_newList ?_ hL)))))
  have hsz : ((s.heap.push (seqObj "list" #[] 0)).update s.heap.objs.size (Obj.mapSeq (· ++ vs.toArray))).objs.size = s.heap.objs.size + 1 := by
    rw [Heap.size_update, size_push']
  show wpAny _ _ _ _ _ { s with heap := copyHeap s.heap vs }
  rw [hsz]
  refine wpAny_bind (wpAny_holding (wpAny_call_entry_kw slot_list_sort ⟨_, copyHeap_at s.heap vs, rfl⟩ entry_list_sort ?_ (args_list_sort _)))
  exact list_sort_vals (s := { s with heap := copyHeap s.heap vs }) (copyHeap_at s.heap vs) S hL ⟨.none, rfl, wpAny_pure ⟨_, rfl, h⟩⟩
theorem sorted_dataT {β : Type} {vs : List Value} {bs : List β} {enc : β → PyData} {R : Value → β → Prop} {l : Addr} {Q : Value → Shared → Prop} (hl : IsTup s.heap l vs.toArray) (e : EachIs R vs bs) (er : EachIs (fun v b => ∃ as, Reads s.heap v (enc b) as) vs bs) (hal : AllAlike (bs.map enc)) (hk : Sortable (bs.map enc)) (hL : bs.length ≤ sizeLine)
    (hu : ∀ b, b ∈ bs → A.units + 2 + (enc b).depth < cLine) (h : ∀ out, out.length = bs.length → EachIs R out (bs.mergeSort (dataLe false enc)) → Q (.ref (s.heap.objs.size + 1)) { s with heap := sortedAll s.heap vs (List.toArray out) }) :
    wpAny (model prog w) A (call (.builtin "sorted") [.ref l]) Q E s := by
  have old : EachIs (fun v b => ∃ as, Reads (sortingHeap (copyHeap s.heap vs) (s.heap.objs.size + 1) vs) v (enc b) as) vs bs := er.mono fun _ _ ⟨as, r⟩ => ⟨as, PyProof.Rows.Reads.keeps (fun _ _ => sorting_copy_old) r⟩
  refine sorted_tup hl (by rw [e.length]; exact hL) (SortsAt.data (s := { s with heap := sortingHeap (copyHeap s.heap vs) (s.heap.objs.size + 1) vs }) (each_map (R := fun v d => ∃ as, Reads (sortingHeap (copyHeap s.heap vs) (s.heap.objs.size + 1) vs) v d as) enc old) hal hk (bound_map hu)) ?_
  exact h _ (by rw [sortVals_length false rfl]; exact e.length) (sortVals_data false e old hal)
end
end Lw

namespace Lw
open PySem PySem.Spec PyProof.Rows L2
/-! ### sorted of a list or a tuple of data that are alike -/
open PySem.W in
def rSortedM (K : PySem.W.Frag) : List V → Hp → VK → Prop := fun vs H Q => ∃ (β : Type) (a : Addr) (bs : List β) (cv : β → V) (enc : β → PyData), vs = [.ref a] ∧ (SqL K H a (bs.map cv) ∨ SqT K H a (bs.map cv)) ∧ (∀ b ∈ bs, Dp K H (cv b) (enc b)) ∧
  AllAlike (bs.map enc) ∧ Sortable (bs.map enc) ∧ (∀ b ∈ bs, (enc b).depth ≤ 60) ∧ ∀ p, H p = none → Q (.ref p) (upd H p (.lst ((bs.mergeSort (dataLe false enc)).map cv)))
section
open PySem.W
theorem each_rel {β : Type} {cv : β → V} : ∀ {bs : List β} {its : List Value}, Vals (bs.map cv) its → EachIs (fun u b => RelV (cv b) u) its bs
  | [], _, r => by
    cases r
    exact .nil
  | b :: bs, _, r => by
    cases r with
    | cons h t => exact .cons h (each_rel t)
theorem rel_each {β : Type} {cv : β → V} : ∀ {bs : List β} {its : List Value}, EachIs (fun u b => RelV (cv b) u) its bs → Vals (bs.map cv) its
  | _, _, .nil => .nil
  | _, _, .cons h t => .cons h (rel_each t)
theorem each_and {α β : Type} {R S : α → β → Prop} : ∀ {as : List α} {bs : List β}, EachIs R as bs → (∀ b ∈ bs, ∀ a, R a b → S a b) → EachIs S as bs
  | _, _, .nil, _ => .nil
  | _, _, .cons h t, k => .cons (k _ List.mem_cons_self _ h) (each_and t fun b hb => k b (List.mem_cons_of_mem _ hb))
theorem cr_sortedM {X : Cx} (hu : X.A.units + 64 < cLine) : CallR X (.builtin "sorted") (rSortedM X.K) := by
  intro pins s σ H vs us Q I r h
  obtain ⟨β, a, bs, cv, enc, rfl, hq, hd, hal, hk, hdep, q⟩ := h
  obtain ⟨u, rfl, rx⟩ := vals1 r
  cases rx
  have fin : ∀ (its : List Value), bs.length ≤ sizeLine → ∀ out : List Value, out.length = bs.length → EachIs (fun u b => RelV (cv b) u) out (bs.mergeSort (dataLe false enc)) →
      EP X pins σ Q (.ref (s.heap.objs.size + 1)) { s with heap := sortedAll s.heap its out.toArray } := fun its hz out ho he => by
    obtain ⟨ep, hat⟩ := sortedAll_at s.heap its out.toArray
    refine ⟨.ref _, upd H (s.heap.objs.size + 1) (.lst ((bs.mergeSort (dataLe false enc)).map cv)), I.laid (t' := s.toks) (fun _ _ => sortedAll_old) (Nat.le_succ _) ⟨?_, out, ep, rel_each he, hat⟩, rfl, q _ (I.hok.fresh (Nat.le_succ _))⟩
    rw [List.length_map, List.length_mergeSort]
    exact hz
  have units : ∀ b, b ∈ bs → X.A.units + 2 + (enc b).depth < cLine := fun b hb => by
    have := hdep b hb
    omega
  rcases hq with hq | hq
  · obtain ⟨its, rv, hl, hz⟩ := I.list hq
    have hn := rv.length
    rw [List.length_map] at hz hn
    have e := each_rel rv
    refine sorted_data hl.isList e (each_and e fun b hb v hv => Dp.reads I _ _ _ (hd b hb) hv) hal hk (by omega) units fun out ho he => fin its (by omega) out ho he
  · obtain ⟨its, rv, hl, hz⟩ := I.tuple hq
    have hn := rv.length
    rw [List.length_map] at hz hn
    have e := each_rel rv
    refine sorted_dataT hl e (each_and e fun b hb v hv => Dp.reads I _ _ _ (hd b hb) hv) hal hk (by omega) units fun out ho he => fin its (by omega) out ho he
end
/-! ### enumerate of a tuple -/
open Sem (wp) in
open AutoSeq1 (wpAny_loadPart') in
theorem meets_enum_tup (t : Addr) (items : Array Value) (n : Nat) (dct : Option Addr) (sl : Array (Option Value)) :
    Meets (Builtin.«enumerate.__new__» ⟨[.type "enumerate", .ref t], []⟩) (fun _ R s => s.heap.get? t = some { cls := .type "tuple", dict := dct, data := .seq items n, slots := sl } ∧
      R (.ok (.ret (.ref (s.heap.push { cls := .type "tuple_iterator", data := .fields #[.ref t, .int 0 0] }).objs.size)))
        { s with heap := (s.heap.push { cls := .type "tuple_iterator", data := .fields #[.ref t, .int 0 0] }).push { cls := .type "enumerate", data := .fields #[.none, .bool false, .ref s.heap.objs.size, rawInt 0, .none, .none] } }) :=
  .of_wp fun prog w A R s h => by
    obtain ⟨hp, g, d, tk, os⟩ := s
    obtain ⟨hl, h⟩ := h
    have hsub := sub_enumerate
    have hT : Heap.IsTuple (Shared.heap ⟨hp, g, d, tk, os⟩) t items := ⟨_, hl, rfl, n, rfl⟩
    wp_walk using wpAny_loadPart' hl
    refine wpAny_stack_any fun st => wpAny_pure ?_
    split
    · rename_i c _ _ _ _ _
      cases (c == Value.type "enumerate") <;> (wp_walk using wpAny_loadPart' hl, wpAny_pyIter_tuple hT; exact ⟨_, rfl, h⟩)
    · wp_walk using wpAny_loadPart' hl, wpAny_pyIter_tuple hT
      exact ⟨_, rfl, h⟩
theorem call_enum_tup {prog : Program} {w : World} {A : Around} {E : Value → Shared → Prop} {s : Shared} {t : Addr} {items : Array Value} {Q : Value → Shared → Prop} (hT : s.heap.IsTuple t items)
    (h : ∀ h', IsEnum h' (s.heap.objs.size + 1) s.heap.objs.size 0 .none → h'.IsTupleIter s.heap.objs.size t 0 → (∀ b o, s.heap.get? b = some o → h'.get? b = some o) → Q (.ref (s.heap.objs.size + 1)) { s with heap := h' }) :
    wpAny (model prog w) A (call (.type "enumerate") [.ref t]) Q E s := by
  obtain ⟨⟨c, dct, dt, sl⟩, hl, hc, n, hd⟩ := hT
  obtain rfl : c = .type "tuple" := hc
  obtain rfl : dt = .seq items n := hd
  refine callType_new F.called_enumerate (by decide) (F.typeCall_enumerate_1 _) (F.newCall_enumerate_1 _) (fun obj => F.args_object_init_2 obj _) F.entry_enumerate_new (meets_enum_tup t items n dct sl) ⟨hl, ?_⟩
  have hz : (s.heap.push { cls := .type "tuple_iterator", data := .fields #[.ref t, .int 0 0] }).objs.size = s.heap.objs.size + 1 := Heap.size_push ..
  show _ ∧ _
  rw [hz]
  have he : IsEnum ((s.heap.push { cls := .type "tuple_iterator", data := .fields #[.ref t, .int 0 0] }).push { cls := .type "enumerate", data := .fields #[.none, .bool false, .ref s.heap.objs.size, rawInt 0, .none, .none] }) (s.heap.objs.size + 1) s.heap.objs.size 0 .none := by
    have z := Heap.get?_push_size (s.heap.push { cls := .type "tuple_iterator", data := .fields #[.ref t, .int 0 0] }) (o := { cls := .type "enumerate", data := .fields #[.none, .bool false, .ref s.heap.objs.size, rawInt 0, .none, .none] }) rfl
    rw [hz] at z
    exact z
  exact ⟨⟨_, he, rfl⟩, h _ he ⟨_, Heap.get?_push_of_some _ (Heap.get?_push_size _ rfl), rfl, rfl⟩ fun b o x => Heap.get?_push_of_some _ (Heap.get?_push_of_some _ x)⟩
/-- the tuple at a as it stands, each item in a new pair -/
def IteT (K : PySem.W.Frag) (a : Addr) : It :=
  ⟨fun i H => ∃ (xs : List V) (x : V), SqT K H a xs ∧ xs[i]? = some x, fun i H v H' => ∃ T x, v = .ref T ∧ H T = none ∧ H' = upd H T (.tup [.int (i : Nat), x]) ∧ ∀ xs, SqT K H a xs → xs[i]? = some x, fun i H => ∃ xs : List V, SqT K H a xs ∧ xs.length = i⟩
theorem turn_enumT {P : Program} {w : World} {K : PySem.W.Frag} {elts : List Expr} {kk : Nat} {tpos : Pos} (a e it : Addr) (hai : a ≠ it) (hae : a ≠ e) :
    Turn P w K (.Tuple elts kk tpos) (IteT K a) [e, it] e (fun i h => (∃ old, IsEnum h e it ((i : Nat) : Int) old) ∧ h.IsTupleIter it a i ∧ e ≠ it) where
  mem := by simp
  obj := fun i h st b hb => by
    obtain ⟨⟨old, he⟩, ⟨o, ho, hc, hd⟩, _⟩ := st
    rcases List.mem_cons.mp hb with z | z
    · rw [z]
      exact ⟨_, he, fun v q => nomatch q⟩
    · rw [List.mem_singleton.mp z]
      exact ⟨o, ho, fun v q => by rw [hd] at q; cases q⟩
  keep := fun i h h' st k => let ⟨⟨old, he⟩, hi, hne⟩ := st; ⟨⟨old, k e (by simp) _ he⟩, hi.at fun o q => k it (by simp) o q, hne⟩
  item := by
    intro X hP hw hK hc i pins s σ H E I hf st hg
    subst hP hw hK
    obtain ⟨⟨old, he⟩, hit, hne⟩ := st
    obtain ⟨xs, x, hq, hx⟩ := hg
    obtain ⟨its, rv, tp, hz⟩ := I.tuple hq
    obtain ⟨u, hu, ru⟩ := rv.get hx
    have hel : e < s.heap.objs.size := Heap.lt_size he
    have hil : it < s.heap.objs.size := by
      obtain ⟨_, q, _⟩ := hit
      exact Heap.lt_size q
    have hiz : i < its.toArray.size := by
      rw [List.size_toArray]
      exact (List.getElem?_eq_some_iff.mp hu).1
    have hhd : X.A.in1.handled = none := I.ok.hd hc
    refine wpAny_pyNext_enum_itemD (Draws.tuple hhd it a hai its.toArray) he ⟨hit, tp⟩ hiz hne (by simp [hne, Ne.symm hae]) fun x' h' tk hPx ho hst hT hsz hk => ?_
    have ex : x' = u := by
      rw [show its.toArray[i]? = some u by simpa using hu] at hPx
      exact (Option.some.inj hPx).symm
    subst ex
    refine ⟨_, rfl, wpAny_letOwnedTupleGo_enum (s := { s with heap := h', toks := tk + 1 }) ho fun h'' he' sb => ?_⟩
    have hT2 : h''.get? s.heap.objs.size = some { cls := .type "tuple", data := .seq #[.int i tk, x'] } := (sb.2 _ (Nat.ne_of_gt hel)).trans hT
    have new : ObjOk X.prog X.w (upd H s.heap.objs.size (.tup [.int (i : Nat), x])) h'' s.heap.objs.size (.tup [.int (i : Nat), x]) :=
      ⟨by show 2 ≤ sizeLine; decide, [.int i tk, x'], .cons ⟨_, rfl⟩ (.cons ru .nil), ⟨_, hT2, rfl, _, rfl⟩⟩
    have I1 : Inv X pins σ (upd H s.heap.objs.size (.tup [.int (i : Nat), x])) { s with heap := h'', toks := tk + 1 } :=
      I.turnedNew (ch := [e, it]) (fun b ob hb q => (sb.2 b (fun z => hb (by simp [z]))).trans (hk b ob (fun z => hb (by simp [z])) (fun z => hb (by simp [z])) q)) hf (Nat.le_refl _) new
    refine ⟨.ref s.heap.objs.size, _, I1, rfl, ⟨_, x, rfl, I.hok.fresh (Nat.le_refl _), rfl, fun ys hy => ?_⟩, ⟨⟨x', ?_⟩, hst.1.at fun o q => (sb.2 it (Ne.symm hne)).trans q, hne⟩, fun b hb => ?_⟩
    · rw [I.tuple_inj hy hq]
      exact hx
    · have e1 : ((i + 1 : Nat) : Int) = (i : Int) + 1 := by omega
      rw [e1]
      exact he'
    · have hb' : b < s.heap.objs.size := by
        rcases List.mem_cons.mp hb with z | z
        · rw [z]
          exact hel
        · rw [List.mem_singleton.mp z]
          exact hil
      rw [upd_ne (Nat.ne_of_lt hb')]
      exact (hf b hb).1
  done := by
    intro X hP hw hK hc i pins s σ H E I hf st hg
    subst hP hw hK
    obtain ⟨⟨old, he⟩, hit, hne⟩ := st
    obtain ⟨xs, hq, hx⟩ := hg
    obtain ⟨its, rv, tp, hz⟩ := I.tuple hq
    obtain ⟨f0, f1, f2, f3, f4, f5⟩ := hf it (by simp)
    have hl := rv.length
    obtain rfl : i = its.toArray.size := by rw [List.size_toArray]; omega
    have hhd : X.A.in1.handled = none := I.ok.hd hc
    exact wpAny_pyNext_enum_endD (Draws.tuple hhd it a hai its.toArray) he ⟨hit, tp⟩ fun h' eb => ⟨rfl, I.turned (t' := s.toks) (fun b o hb q => eb b o hb q) f0 f1 f3 f4 f5⟩
  self := fun A i s Q E st h => let ⟨⟨_, he⟩, _⟩ := st; wpAny_pyIter_enum he h
end Lw

namespace Lw
open PySem PySem.Spec PyProof.Rows L2
/-! ### enumerate of a list or a tuple -/
def iEnumS (K : PySem.W.Frag) (ta : TA) : TI := fun σ H R => ta σ H fun vs H1 => ∃ a xs, vs = [.ref a] ∧ ((SqL K H1 a xs ∧ R (Ite K a) H1) ∨ (SqT K H1 a xs ∧ R (IteT K a) H1))
theorem pi_enumS {X : Cx} {e : Expr} {ta : TA} {p pos tpos : Pos} {elts : List Expr} {kk : Nat} (hg : Gl X "enumerate") (hm : X.mg "enumerate" = none) (ha : PA X [e] ta) (hs : starEach [e] X.env = [(false, eval e X.env)] := by rfl) :
    PI X (.Tuple elts kk tpos) (.Call (.Name "enumerate" p) [e] [] pos) (iEnumS X.K ta) := by
  refine ⟨fun pins s σ H R I h => ?_⟩
  refine Call_ (ld_blt I hg hm boot_enumerate (PyProof.Rows.callWith_type1 (thn (ha.run pos pins s σ H _ I h) fun us s1 ⟨vs, H1, I1, r1, q1⟩ => ?_) hs rfl))
  obtain ⟨a, xs, ex, q1⟩ := q1
  subst ex
  cases r1 with
  | cons r rr =>
    cases rr
    cases r
    have end_ : ∀ b, b ∈ [s1.heap.objs.size + 1, s1.heap.objs.size] → s1.heap.objs.size ≤ b := fun b hb => by
      have e' : b = s1.heap.objs.size + 1 ∨ b = s1.heap.objs.size := by simpa using hb
      rcases e' with z | z
      · rw [z]; exact Nat.le_add_right _ _
      · rw [z]; exact Nat.le_refl _
    rcases q1 with ⟨hq, q⟩ | ⟨hq, q⟩
    · obtain ⟨its, rv, p', hz⟩ := I1.list hq
      refine call_enumerate_list p'.isList fun h' he hit hsz hk => wpAny_pyIter_enum he ?_
      have I2 : Inv X pins σ H1 { s1 with heap := h' } := I1.kept (t' := s1.toks) hk
      exact ⟨s1.heap.objs.size + 1, [s1.heap.objs.size + 1, s1.heap.objs.size], _, _, H1, rfl, I2, turn_enum a (s1.heap.objs.size + 1) s1.heap.objs.size, ⟨⟨.none, he⟩, hit, Nat.succ_ne_self _⟩, fun b hb => I1.fpOk (end_ b hb) (I1.hok.fresh (end_ b hb)), q⟩
    · obtain ⟨its, rv, tp, hz⟩ := I1.tuple hq
      have hlt : a < s1.heap.objs.size := by
        obtain ⟨o, ho, _⟩ := id tp
        exact Heap.lt_size ho
      refine call_enum_tup tp fun h' he hit hk => wpAny_pyIter_enum he ?_
      have I2 : Inv X pins σ H1 { s1 with heap := h' } := I1.kept (t' := s1.toks) hk
      exact ⟨s1.heap.objs.size + 1, [s1.heap.objs.size + 1, s1.heap.objs.size], _, _, H1, rfl, I2, turn_enumT a (s1.heap.objs.size + 1) s1.heap.objs.size (Nat.ne_of_lt hlt) (Nat.ne_of_lt (Nat.lt_succ_of_lt hlt)), ⟨⟨.none, he⟩, hit, Nat.succ_ne_self _⟩, fun b hb => I1.fpOk (end_ b hb) (I1.hok.fresh (end_ b hb)), q⟩
section
variable {K : PySem.W.Frag} {a : Addr} {xs : List V}
theorem walk_enumT : Walk (IteT K a) xs.length (fun H => SqT K H a xs) (YPair (fun i => some (.int (i : Nat))) (fun i => xs[i]?)) := by
  refine ⟨fun i _ hi q => ⟨xs, xs[i], q, by simp [hi]⟩, fun _ q => ⟨xs, q, rfl⟩, fun i H v H' _ q y => ?_⟩
  obtain ⟨T, x, h1, h2, h3, h4⟩ := y
  exact ⟨T, .int (i : Nat), x, h1, h2, h3, rfl, h4 xs q⟩
end
section
open Evl
variable {K : PySem.W.Frag} {σ : L2.St} {H : Hp} {D : Ends} {te : TE} {tu tz : TS} {x : V}
theorem s_forEn {a : Addr} {xs : List V} {j k : Nat} (h : Ev te σ H (.ref a)) (hx : SqL K H a xs ∨ SqT K H a xs) (Pv : Nat → L2.St → Hp → Prop) (h0 : ∀ H1, Ex H H1 → Pv 0 σ H1) (hl : ∀ i σ' H', Pv i σ' H' → Ex H H')
    (hs : ∀ i x σ' H' T, xs[i]? = some x → Pv i σ' H' → H' T = none → tu { D with nx := Pv (i + 1), ct := Pv (i + 1), bk := D.nx } ((σ'.set j (some (.int (i : Nat)))).set k (some x)) (upd H' T (.tup [.int (i : Nat), x])))
    (hd : ∀ σ' H', Pv xs.length σ' H' → D.nx σ' H') : tFor (iEnumS K (tCons te tNil)) (gTup K 2 (gCons (gName j) (gCons (gName k) gNil))) tu D σ H := by
  refine h H (Ex.refl H) _ fun H1 e => ⟨a, xs, rfl, ?_⟩
  have go : ∀ i x σ' H' H2, i < xs.length → Pv i σ' H' → YPair (fun i => some (.int (i : Nat))) (fun i => xs[i]?) i H' x H2 → gTup K 2 (gCons (gName j) (gCons (gName k) gNil)) x σ' H2 fun σ2 H2 => tu { D with nx := Pv (i + 1), ct := Pv (i + 1), bk := D.nx } σ2 H2 := fun i x σ' H' H2 hi p y => by
    obtain ⟨T, x1, x2, rfl, nT, rfl, e1, e2⟩ := y
    cases e1
    exact ⟨T, _, rfl, st_of upd_same, rfl, _, _, rfl, _, _, rfl, rfl, hs i x2 σ' H' T e2 p nT⟩
  rcases hx with hx | hx
  · exact .inl ⟨ex_l e hx, for_it walk_enum Pv (h0 H1 e) (fun i σ' H' _ p => ex_l (hl i σ' H' p) hx) go hd⟩
  · exact .inr ⟨ex_t e hx, for_it walk_enumT Pv (h0 H1 e) (fun i σ' H' _ p => ex_t (hl i σ' H' p) hx) go hd⟩
theorem q_forEn {a : Addr} {xs : List V} {j k : Nat} (h : Ev te σ H (.ref a)) (hx : SqL K H a xs ∨ SqT K H a xs) (Pv : Nat → L2.St → Hp → Prop) (h0 : ∀ H1, Ex H H1 → Pv 0 σ H1) (hl : ∀ i σ' H', Pv i σ' H' → Ex H H')
    (hs : ∀ i x σ' H' T, xs[i]? = some x → Pv i σ' H' → H' T = none → tu { D with nx := Pv (i + 1), ct := Pv (i + 1), bk := tz D } ((σ'.set j (some (.int (i : Nat)))).set k (some x)) (upd H' T (.tup [.int (i : Nat), x])))
    (hd : ∀ σ' H', Pv xs.length σ' H' → tz D σ' H') : tSeq (tFor (iEnumS K (tCons te tNil)) (gTup K 2 (gCons (gName j) (gCons (gName k) gNil))) tu) tz D σ H := s_forEn (D := { D with nx := tz D }) h hx Pv h0 hl hs hd
/-! ### a slice of a list or a tuple -/
def EvS (te : TE) (K : PySem.W.Frag) (σ : L2.St) (H : Hp) (xs : List V) : Prop := ∀ H1, Ex H H1 → ∀ Q : VK, (∀ p H2, Ex H1 H2 → (SqL K H2 p xs ∨ SqT K H2 p xs) → Q (.ref p) H2) → te σ H1 Q
theorem cutV_to (xs : List V) (k : Nat) : cutV xs none (some (k : Int)) = xs.take k := by
  unfold cutV HT.sIx
  simp only [List.drop_zero, Nat.sub_zero]
  have : ¬ ((k : Int) < 0) := by omega
  simp [this]
theorem es_sl {tl th : TO} {a : Addr} {xs : List V} {lo hi : Option Int} (h : Ev te σ H (.ref a)) (h1 : EvO tl σ H lo) (h2 : EvO th σ H hi) (hs : SqL K H a xs ∨ SqT K H a xs) :
    EvS (tSl (fun x lo hi H Q => rSlL K x lo hi H Q ∨ rSlA K x lo hi H Q) te tl th) K σ H (cutV xs lo hi) := fun H1 e Q q =>
  h H1 e _ fun H2 e2 => h1 H2 (e.trans e2) _ fun H3 e3 => h2 H3 ((e.trans e2).trans e3) _ fun H4 e4 => by
    have e14 := (e2.trans e3).trans e4
    rcases hs with hs | hs
    · exact .inl ⟨a, xs, rfl, ex_l (e.trans e14) hs, fun p hp => q p _ (e14.trans (Ex.new hp)) (.inl (sq_of upd_same))⟩
    · refine .inr ⟨a, xs, rfl, ex_t (e.trans e14) hs, fun hw => ?_, fun hw p hp => q p _ (e14.trans (Ex.new hp)) (.inr (st_of upd_same))⟩
      have : cutV xs lo hi = xs := by
        unfold cutV
        rw [hw.1, hw.2, List.drop_zero, Nat.sub_zero, List.take_of_length_le (Nat.le_refl _)]
      rw [this] at q
      exact q a _ e14 (.inr (ex_t (e.trans e14) hs))
theorem ev_inS {ta tb : TE} {neg : Bool} {xs : List V} (ha : Ev ta σ H x) (hb : EvS tb K σ H xs) (hx : flatV x = true) (hf : xs.all flatV = true) : Ev (tOp (rIn K neg) ta tb) σ H (.bl (if neg then !inV x xs else inV x xs)) := fun H1 e Q q =>
  ha H1 e _ fun H2 e2 => hb H2 (e.trans e2) _ fun p H3 e3 hp => ⟨p, xs, rfl, hp, hx, hf, q H3 (e2.trans e3)⟩
theorem inV_strs (s : Str) (ws : List Str) : inV (.str s) (ws.map V.str) = decide (s ∈ ws) := by
  induction ws with
  | nil => rfl
  | cons w r ih =>
    unfold inV at ih ⊢
    rw [List.map_cons, List.any_cons, ih, Bool.eq_iff_iff]
    rw [Bool.or_eq_true, decide_eq_true_iff, decide_eq_true_iff, List.mem_cons]
    have : eqV (.str w) (.str s) = true ↔ s = w := by
      show (w == s) = true ↔ _
      rw [beq_iff_eq]
      exact eq_comm
    rw [this]
theorem flat_strs (ws : List Str) : (ws.map V.str).all flatV = true := by
  rw [List.all_map, List.all_eq_true]
  intro x _
  rfl
end
theorem dp_ex {K : PySem.W.Frag} {H H' : Hp} (e : Evl.Ex H H') : ∀ (d : PyData) (v : V), Dp K H v d → Dp K H' v d := by
  intro d v h
  exact Dp.rec (motive_1 := fun v d _ => Dp K H' v d) (motive_2 := fun vs ds _ => DpAll K H' vs ds) .non (fun b => .bl b) (fun i => .int i) (fun s => .str s) (fun hs _ ih => .lst (Evl.ex_l e hs) ih) (fun hs _ ih => .tup (Evl.ex_t e hs) ih) .nil (fun _ _ h1 h2 => .cons h1 h2) h
end Lw

namespace Lw
open PySem PySem.Spec PyProof.Rows L2
open PySem.W (dataLe dataLe_str)
/-! ### what goods_of answers -/
inductive GR
  | cnt
  | nm (s : Str)
  | tw (s : Str)
  | ok
  deriving DecidableEq
def scan : List Str → List Str → GR
  | _, [] => .ok
  | seen, s :: r => if vn s = false then .nm s else if s ∈ seen then .tw s else scan (seen ++ [s]) r
def gres (ws : List Str) : GR := if ws.length < 1 ∨ 5 < ws.length then .cnt else scan [] ws
theorem scan_step {ws : List Str} {i : Nat} {s : Str} (h : ws[i]? = some s) : scan (ws.take i) (ws.drop i) = if vn s = false then .nm s else if s ∈ ws.take i then .tw s else scan (ws.take (i + 1)) (ws.drop (i + 1)) := by
  have hi := (List.getElem?_eq_some_iff.mp h)
  obtain ⟨hi, e⟩ := hi
  rw [List.drop_eq_getElem_cons hi, e, scan, List.take_add_one, h]
  rfl
theorem scan_end (ws : List Str) : scan (ws.take ws.length) (ws.drop ws.length) = .ok := by
  rw [List.drop_length]
  rfl
theorem gres_in {ws : List Str} (h1 : 1 ≤ ws.length) (h5 : ws.length ≤ 5) : gres ws = scan (ws.take 0) (ws.drop 0) := by
  unfold gres
  rw [if_neg (by omega)]
  rfl
theorem scan_ok : ∀ (r seen : List Str), seen.Nodup → (scan seen r = .ok ↔ (∀ s ∈ r, vn s = true) ∧ (seen ++ r).Nodup)
  | [], seen, h => by
    rw [List.append_nil]
    exact ⟨fun _ => ⟨fun _ h => (nomatch h), h⟩, fun _ => rfl⟩
  | s :: r, seen, h => by
    rw [scan]
    by_cases h1 : vn s = false
    · rw [if_pos h1]
      refine ⟨fun h => (nomatch h), fun k => ?_⟩
      rw [k.1 s List.mem_cons_self] at h1
      cases h1
    · rw [if_neg h1]
      by_cases h2 : s ∈ seen
      · rw [if_pos h2]
        refine ⟨fun h => (nomatch h), fun k => ?_⟩
        exact absurd rfl ((List.nodup_append.mp k.2).2.2 s h2 s List.mem_cons_self)
      · rw [if_neg h2]
        have hn : (seen ++ [s]).Nodup := List.nodup_append.mpr ⟨h, by simp, fun a ha b hb e => by
          rw [List.mem_singleton] at hb
          rw [e, hb] at ha
          exact h2 ha⟩
        rw [scan_ok r (seen ++ [s]) hn, List.append_assoc]
        have : vn s = true := by simpa using h1
        refine ⟨fun k => ⟨fun t ht => ?_, k.2⟩, fun k => ⟨fun t ht => k.1 t (List.mem_cons_of_mem _ ht), k.2⟩⟩
        rcases List.mem_cons.mp ht with rfl | ht
        · exact this
        · exact k.1 t ht
theorem gres_ok {ws : List Str} : gres ws = .ok ↔ (1 ≤ ws.length ∧ ws.length ≤ 5) ∧ (∀ s ∈ ws, vn s = true) ∧ ws.Nodup := by
  unfold gres
  by_cases h : ws.length < 1 ∨ 5 < ws.length
  · rw [if_pos h]
    exact ⟨fun h => (nomatch h), fun k => by omega⟩
  · rw [if_neg h, scan_ok ws [] List.nodup_nil]
    exact ⟨fun k => ⟨by omega, k⟩, fun k => k.2⟩
/-- in order -/
def srt (ws : List Str) : List Str := ws.mergeSort (dataLe false PyData.str)
theorem srt_eq (ws : List Str) : srt ws = ws.mergeSort fun a b => decide (a.cps.toList ≤ b.cps.toList) := by
  unfold srt
  rw [show dataLe false PyData.str = dataLe false (fun b : Str => .str (id b)) from rfl, dataLe_str]
  rfl
theorem srt_perm (ws : List Str) : (srt ws).Perm ws := List.mergeSort_perm ws _
theorem srt_len (ws : List Str) : (srt ws).length = ws.length := (srt_perm ws).length_eq
theorem srt_mem {ws : List Str} {s : Str} : s ∈ srt ws ↔ s ∈ ws := (srt_perm ws).mem_iff
theorem srt_sorted (ws : List Str) : (srt ws).Pairwise fun a b => decide (a.cps.toList ≤ b.cps.toList) = true := by
  rw [srt_eq]
  refine List.pairwise_mergeSort (fun a b c h1 h2 => ?_) (fun a b => ?_) ws
  · rw [decide_eq_true_iff] at h1 h2 ⊢
    exact List.le_trans h1 h2
  · rw [Bool.or_eq_true, decide_eq_true_iff, decide_eq_true_iff]
    exact List.le_total _ _
theorem srt_idem (ws : List Str) : srt (srt ws) = srt ws := by
  rw [srt_eq (srt ws)]
  exact List.mergeSort_of_pairwise (srt_sorted ws)
theorem gres_srt {ws : List Str} (h : gres ws = .ok) : gres (srt ws) = .ok := by
  rw [gres_ok] at h ⊢
  rw [srt_len]
  exact ⟨h.1, fun s hs => h.2.1 s (srt_mem.mp hs), (srt_perm ws).nodup_iff.mpr h.2.2⟩
/-! ### the contracts -/
def TxtOk (ws : List Str) : Prop := ∀ s ∈ ws, s.length ≤ 1000 ∧ SOk s
theorem srt_ok {ws : List Str} (h : TxtOk ws) : TxtOk (srt ws) := fun s hs => h s (srt_mem.mp hs)
def SqS (K : PySem.W.Frag) (H : Hp) (a : Addr) (ws : List Str) : Prop := SqL K H a (ws.map V.str) ∨ SqT K H a (ws.map V.str)
theorem sqs_ex {K : PySem.W.Frag} {H H' : Hp} {a : Addr} {ws : List Str} (e : Evl.Ex H H') (h : SqS K H a ws) : SqS K H' a ws := h.elim (fun h => .inl (Evl.ex_l e h)) fun h => .inr (Evl.ex_t e h)
def goodsAt (CB CN CD : Addr) (ws : List Str) (H1 : Hp) (Q : VK) (E : XK) : Prop := match gres ws with
  | .cnt => ∀ d, H1 d = none → E (.ref CB) (some d) (upd H1 d (.xd [("count", .int (ws.length : Int))]))
  | .nm s => ∀ d, H1 d = none → E (.ref CN) (some d) (upd H1 d (.xd [("name", .str s)]))
  | .tw s => ∀ d, H1 d = none → E (.ref CD) (some d) (upd H1 d (.xd [("name", .str s)]))
  | .ok => ∀ p, H1 p = none → Q (.ref p) (upd H1 p (.tup ((srt ws).map V.str)))
def sp_goods (K : PySem.W.Frag) (CB CN CD : Addr) : Sp := fun vs H Q E => ∃ (a : Addr) (ws : List Str), vs = [.ref a] ∧ SqS K H a ws ∧ TxtOk ws ∧ ws.length ≤ 1000 ∧ ∀ H1, Evl.Ex H H1 → goodsAt CB CN CD ws H1 Q E
/-- a class of the module -/
theorem pe_cls {X : Cx} {x : Str} {p : Pos} {C : Addr} (hg : Gl X x) (hm : X.mg x = some (.ref C)) (hdb : (x == ("__debug__" : Str)) = false := by decide) : PE X (.Name x p) (tC (.ref C)) := pe_gv hg ⟨_, hm, rfl⟩ hdb
/-- a class of errors with one field -/
structure ErC (P : Program) (w : World) (K : PySem.W.Frag) (mg : Str → Option Value) (base : Heap) (x f : Str) (C fI : Addr) (fd : FuncData) : Prop where
  O : OexC K C
  X : XfC K C
  I : IsC K C
  i : PySem.W.findIn K (.ref C) "__init__" = some (some (.ref fI))
  t : PySem.W.typeIn K (.ref fI) = some (.type "function")
  no : PySem.W.findIn K (.ref C) f = some none
  g : mg x = some (.ref C)
  G : FnOk P w K mg base CX0 1 fI fd ["self", f] (sp_init1 K C f)
  b : Binds K fd ["self", f] []
/-- what is told, what is due -/
def TellAt (H : Hp) (p : Addr) (ws : List Str) : Prop := match gres ws with
  | .cnt => H p = some (.lst [.str "count", .int (ws.length : Int), .bl true])
  | .nm s => H p = some (.lst [.str "name", .str s, .bl true])
  | .tw s => H p = some (.lst [.str "twice", .str s, .bl true])
  | .ok => ∃ t, H p = some (.lst [.str "goods", .ref t]) ∧ H t = some (.tup ((srt ws).map V.str))
def tellD (ws : List Str) : PyData := match gres ws with
  | .cnt => .list [.str "count", .int (ws.length : Int), .bool true]
  | .nm s => .list [.str "name", .str s, .bool true]
  | .tw s => .list [.str "twice", .str s, .bool true]
  | .ok => .list [.str "goods", .tuple ((srt ws).map PyData.str)]
theorem TellAt.ex {H H' : Hp} {p : Addr} {ws : List Str} (e : Evl.Ex H H') (h : TellAt H p ws) : TellAt H' p ws := by
  unfold TellAt at h ⊢
  split at h
  · exact e _ _ h
  · exact e _ _ h
  · exact e _ _ h
  · obtain ⟨t, h1, h2⟩ := h
    exact ⟨t, e _ _ h1, e _ _ h2⟩
theorem TellAt.dp {K : PySem.W.Frag} {H : Hp} {p : Addr} {ws : List Str} (h : TellAt H p ws) : Dp K H (.ref p) (tellD ws) := by
  unfold TellAt at h
  unfold tellD
  split at h
  · exact .lst (Evl.sq_of h) (.cons (.str _) (.cons (.int _) (.cons (.bl _) .nil)))
  · exact .lst (Evl.sq_of h) (.cons (.str _) (.cons (.str _) (.cons (.bl _) .nil)))
  · exact .lst (Evl.sq_of h) (.cons (.str _) (.cons (.str _) (.cons (.bl _) .nil)))
  · obtain ⟨t, h1, h2⟩ := h
    exact .lst (Evl.sq_of h1) (.cons (.str _) (.cons (dp_strsT (Evl.st_of h2)) .nil))
theorem TellAt.head {H : Hp} {p : Addr} {ws : List Str} (h : TellAt H p ws) : ∃ (tag : Str) (r : List V), H p = some (.lst (.str tag :: r)) ∧ SOk tag ∧ (gres ws ≠ .ok → tag ≠ "goods") ∧ (gres ws = .ok → tag = "goods" ∧ ∃ t, r = [.ref t] ∧ H t = some (.tup ((srt ws).map V.str))) := by
  have lit : ∀ {z : Str}, (z.cps.toList.all fun c => decide (c < 0x110000)) = true → SOk z := fun {z} k c hc => by
    have := List.all_eq_true.mp k c hc
    exact of_decide_eq_true this
  unfold TellAt at h
  cases hg : gres ws with
  | cnt =>
    rw [hg] at h
    exact ⟨_, _, h, lit (by decide +kernel), (fun _ => by decide +kernel), (fun k => nomatch k)⟩
  | nm s =>
    rw [hg] at h
    exact ⟨_, _, h, lit (by decide +kernel), (fun _ => by decide +kernel), (fun k => nomatch k)⟩
  | tw s =>
    rw [hg] at h
    exact ⟨_, _, h, lit (by decide +kernel), (fun _ => by decide +kernel), (fun k => nomatch k)⟩
  | ok =>
    rw [hg] at h
    obtain ⟨t, h1, h2⟩ := h
    exact ⟨_, _, h1, lit (by decide +kernel), (fun k => absurd rfl k), fun _ => ⟨rfl, t, rfl, h2⟩⟩
theorem TellAt.srt {H : Hp} {p : Addr} {ws : List Str} (h : TellAt H p ws) (hg : gres ws = .ok) : TellAt H p (srt ws) := by
  unfold TellAt at h ⊢
  rw [gres_srt hg]
  rw [hg] at h
  rw [srt_idem]
  exact h
theorem perm_strs {ys : List V} {ws : List Str} (h : ys.Perm (ws.map V.str)) : ∃ zs : List Str, ys = zs.map V.str ∧ zs.Perm ws := by
  let g : V → Str := fun v => match v with
    | .str z => z
    | _ => ""
  refine ⟨ys.map g, ?_, ?_⟩
  · rw [List.map_map]
    refine (List.map_id ys).symm.trans (List.map_congr_left fun v hv => ?_)
    obtain ⟨z, _, rfl⟩ := List.mem_map.mp (h.mem_iff.mp hv)
    rfl
  · have := h.map g
    rw [List.map_map] at this
    rw [show ws.map (g ∘ V.str) = ws from (List.map_congr_left fun z _ => rfl).trans (List.map_id ws)] at this
    exact this
/-- texts of few signs, all below 128 -/
def Asc (m : Nat) (ws : List Str) : Prop := ∀ z ∈ ws, z.length ≤ m ∧ ∀ c ∈ z.cps.toList, c < 128
theorem Asc.ok {m : Nat} {ws : List Str} (h : Asc m ws) (hm : m ≤ 1000) : TxtOk ws := fun z hz => ⟨Nat.le_trans (h z hz).1 hm, fun c hc => by
  have := (h z hz).2 c hc
  omega⟩
theorem asc_upper {z : Str} (h : ∀ c ∈ z.cps.toList, c < 128) : (Txt.upper z).length = z.length ∧ ∀ c ∈ (Txt.upper z).cps.toList, c < 128 := by
  rw [PyProof.Rows.upper_ascii h]
  refine ⟨by simp [Str.length], fun c hc => ?_⟩
  simp only [Array.toList_map, List.mem_map] at hc
  obtain ⟨d, hd, rfl⟩ := hc
  have := h d hd
  unfold PyProof.Rows.up1
  split <;> omega
theorem tellD_good {ws : List Str} (h : TxtOk ws) : GoodD 2 (tellD ws) := by
  have hs : ∀ {s : Str} {r : List Str}, scan r ws = .nm s ∨ scan r ws = .tw s → s ∈ ws := fun {s r} => by
    induction ws generalizing r with
    | nil => rintro (h | h) <;> cases h
    | cons x l ih =>
      rw [scan]
      split
      · rintro (h | h) <;> cases h
        exact List.mem_cons_self
      · split
        · rintro (h | h) <;> cases h
          exact List.mem_cons_self
        · exact fun k => List.mem_cons_of_mem _ (ih (fun s hs => h s (List.mem_cons_of_mem _ hs)) k)
  have gs : ∀ {s : Str}, gres ws = .nm s ∨ gres ws = .tw s → SOk s := fun {s} k => by
    unfold gres at k
    split at k
    · rcases k with k | k <;> cases k
    · exact (h s (hs k)).2
  have lit : ∀ {z : Str}, (z.cps.toList.all fun c => decide (c < 0x110000)) = true → SOk z := fun {z} k c hc => by
    have := List.all_eq_true.mp k c hc
    exact of_decide_eq_true this
  have g : GoodD 2 (tellD ws) := by
    unfold tellD
    split
    · refine good_list (n := 1) fun d hd => ?_
      simp only [List.mem_cons, List.not_mem_nil, or_false] at hd
      rcases hd with rfl | rfl | rfl
      · exact good_str (lit (by decide +kernel))
      · exact good_int _
      · exact good_bool _
    · rename_i s hg
      refine good_list (n := 1) fun d hd => ?_
      simp only [List.mem_cons, List.not_mem_nil, or_false] at hd
      rcases hd with rfl | rfl | rfl
      · exact good_str (lit (by decide +kernel))
      · exact good_str (gs (.inl hg))
      · exact good_bool _
    · rename_i s hg
      refine good_list (n := 1) fun d hd => ?_
      simp only [List.mem_cons, List.not_mem_nil, or_false] at hd
      rcases hd with rfl | rfl | rfl
      · exact good_str (lit (by decide +kernel))
      · exact good_str (gs (.inr hg))
      · exact good_bool _
    · refine good_list (n := 1) fun d hd => ?_
      simp only [List.mem_cons, List.not_mem_nil, or_false] at hd
      rcases hd with rfl | rfl
      · exact good_str (lit (by decide +kernel))
      · exact good_strsT fun z hz => (srt_ok h z hz).2
  exact g
end Lw

namespace Lw
open PySem PySem.Spec PyProof.Rows L2
open PySem.W (dataLe dataLe_str)
/-! ### bundles by the places of their goods -/
def nextI (n : Nat) (L : List (List Nat)) : List (List Nat) := L.flatMap fun b => ((List.range n).filter fun g => b.isEmpty || decide (b.getLastD 0 < g)).map fun g => b ++ [g]
def layI (n : Nat) : Nat → List (List Nat)
  | 0 => [[]]
  | k + 1 => nextI n (layI n k)
def flatI (n k : Nat) : List (List Nat) := (List.range k).flatMap (layI n)
def allI (n : Nat) : List (List Nat) := flatI n (n + 1)
def fndI : Nat → List (List Nat)
  | 0 => [[]]
  | k + 1 => fndI k ++ (fndI k).map fun b => b ++ [k]
def upto {P : Nat → Bool} (n : Nat) (h : (List.range n).all P = true) (i : Nat) (hi : i < n) : P i = true := List.all_eq_true.mp h i (List.mem_range.mpr hi)
theorem lay_end (n : Nat) (hn : n < 6) : layI n 6 = [] := by
  have := upto (P := fun n => decide (layI n 6 = [])) 6 (by decide +kernel) n hn
  exact of_decide_eq_true this
theorem flat_all (n k : Nat) (hn : n < 6) (hk : k < 7) (h : layI n k = []) : flatI n k = allI n := by
  have := upto (P := fun n => (List.range 7).all fun k => decide (layI n k = [] → flatI n k = allI n)) 6 (by decide +kernel) n hn
  exact of_decide_eq_true (upto (P := fun k => decide (layI n k = [] → flatI n k = allI n)) 7 this k hk) h
theorem lay_in (n k : Nat) (hn : n < 6) (hk : k < 7) : ∀ b ∈ layI n k, b.length ≤ 5 ∧ ∀ i ∈ b, i < n := by
  have := upto (P := fun n => (List.range 7).all fun k => decide (∀ b ∈ layI n k, b.length ≤ 5 ∧ ∀ i ∈ b, i < n)) 6 (by decide +kernel) n hn
  exact of_decide_eq_true (upto (P := fun k => decide (∀ b ∈ layI n k, b.length ≤ 5 ∧ ∀ i ∈ b, i < n)) 7 this k hk)
theorem lay_len (n k : Nat) (hn : n < 6) (hk : k < 7) : (layI n k).length ≤ 32 ∧ (flatI n k).length ≤ 32 := by
  have := upto (P := fun n => (List.range 7).all fun k => decide ((layI n k).length ≤ 32 ∧ (flatI n k).length ≤ 32)) 6 (by decide +kernel) n hn
  exact of_decide_eq_true (upto (P := fun k => decide ((layI n k).length ≤ 32 ∧ (flatI n k).length ≤ 32)) 7 this k hk)
theorem all_in (n : Nat) (hn : n < 6) : ∀ b ∈ allI n, b.length ≤ 5 ∧ ∀ i ∈ b, i < n := by
  have := upto (P := fun n => decide (∀ b ∈ allI n, b.length ≤ 5 ∧ ∀ i ∈ b, i < n)) 6 (by decide +kernel) n hn
  exact of_decide_eq_true this
theorem all_nodup (n : Nat) (hn : n < 6) : (allI n).Nodup := by
  have := upto (P := fun n => decide (allI n).Nodup) 6 (by decide +kernel) n hn
  exact of_decide_eq_true this
theorem all_self (n : Nat) (hn : n < 6) : ∀ b ∈ allI n, ((List.range n).filter fun i => decide (i ∈ b)) = b := by
  have := upto (P := fun n => decide (∀ b ∈ allI n, ((List.range n).filter fun i => decide (i ∈ b)) = b)) 6 (by decide +kernel) n hn
  exact of_decide_eq_true this
theorem fnd_in (n : Nat) (hn : n < 6) : (fndI n).length ≤ 32 ∧ ∀ b ∈ fndI n, b.length ≤ 5 ∧ ∀ i ∈ b, i < n := by
  have := upto (P := fun n => decide ((fndI n).length ≤ 32 ∧ ∀ b ∈ fndI n, b.length ≤ 5 ∧ ∀ i ∈ b, i < n)) 6 (by decide +kernel) n hn
  exact of_decide_eq_true this
/-- the places of what was found, among all -/
theorem fnd_at (n : Nat) (hn : n < 6) : ((fndI n).map fun b => (allI n).idxOf b).isPerm (List.range (allI n).length) = true ∧ ∀ b ∈ fndI n, b ∈ allI n := by
  have := upto (P := fun n => ((fndI n).map fun b => (allI n).idxOf b).isPerm (List.range (allI n).length) && decide (∀ b ∈ fndI n, b ∈ allI n)) 6 (by decide +kernel) n hn
  rw [Bool.and_eq_true] at this
  exact ⟨this.1, of_decide_eq_true this.2⟩
/-- less, by length and then in order -/
def ltI (a b : List Nat) : Bool := decide (a.length < b.length) || (decide (a.length = b.length) && decide (a < b))
theorem fnd_le (n : Nat) (hn : n < 6) : ∀ a ∈ fndI n, ∀ b ∈ fndI n, (!ltI b a) = decide ((allI n).idxOf a ≤ (allI n).idxOf b) := by
  have := upto (P := fun n => decide (∀ a ∈ fndI n, ∀ b ∈ fndI n, (!ltI b a) = decide ((allI n).idxOf a ≤ (allI n).idxOf b))) 6 (by decide +kernel) n hn
  exact of_decide_eq_true this
/-! ### and by the goods themselves -/
def Inc (ws : List Str) : Prop := ws.Pairwise fun a b => a.cps.toList < b.cps.toList
def fI (ws : List Str) (i : Nat) : Str := ws.getD i ""
def bagI (ws : List Str) (b : List Nat) : List Str := b.map (fI ws)
theorem fI_at {ws : List Str} {i : Nat} {s : Str} (h : ws[i]? = some s) : fI ws i = s := by
  unfold fI
  rw [List.getD_eq_getElem?_getD, h]
  rfl
theorem ws_eq (ws : List Str) : ws = (List.range ws.length).map (fI ws) := by
  apply List.ext_getElem?
  intro i
  rw [List.getElem?_map]
  by_cases h : i < ws.length
  · rw [List.getElem?_range h, Option.map_some, List.getElem?_eq_getElem h, fI_at (List.getElem?_eq_getElem h)]
  · rw [List.getElem?_eq_none (by omega), List.getElem?_eq_none (by simp; omega)]
    rfl
theorem inc_lt {ws : List Str} (h : Inc ws) {i j : Nat} (hi : i < ws.length) (hj : j < ws.length) : (fI ws i).cps.toList < (fI ws j).cps.toList ↔ i < j := by
  have key : ∀ {i j : Nat} (hi : i < ws.length) (hj : j < ws.length), i < j → (fI ws i).cps.toList < (fI ws j).cps.toList := fun {i j} hi hj hij => by
    rw [fI_at (List.getElem?_eq_getElem hi), fI_at (List.getElem?_eq_getElem hj)]
    exact List.pairwise_iff_getElem.mp h i j hi hj hij
  constructor
  · intro hl
    rcases Nat.lt_trichotomy i j with h1 | h1 | h1
    · exact h1
    · subst h1
      exact absurd hl (List.lt_irrefl _)
    · exact absurd (List.lt_trans hl (key hj hi h1)) (List.lt_irrefl _)
  · exact key hi hj
theorem inc_inj {ws : List Str} (h : Inc ws) {i j : Nat} (hi : i < ws.length) (hj : j < ws.length) (e : fI ws i = fI ws j) : i = j := by
  rcases Nat.lt_trichotomy i j with h1 | h1 | h1
  · exact absurd (e ▸ (inc_lt h hi hj).mpr h1) (List.lt_irrefl _)
  · exact h1
  · exact absurd (e ▸ (inc_lt h hj hi).mpr h1) (List.lt_irrefl _)
theorem bag_inj {ws : List Str} (h : Inc ws) : ∀ {a b : List Nat}, (∀ i ∈ a, i < ws.length) → (∀ i ∈ b, i < ws.length) → bagI ws a = bagI ws b → a = b
  | [], [], _, _, _ => rfl
  | [], _ :: _, _, _, e => by cases e
  | _ :: _, [], _, _, e => by cases e
  | x :: a, y :: b, ha, hb, e => by
    have e' : fI ws x = fI ws y ∧ bagI ws a = bagI ws b := List.cons.inj e
    rw [inc_inj h (ha x List.mem_cons_self) (hb y List.mem_cons_self) e'.1, bag_inj h (fun i hi => ha i (List.mem_cons_of_mem _ hi)) (fun i hi => hb i (List.mem_cons_of_mem _ hi)) e'.2]
theorem srt_inc {ws : List Str} (h : ws.Nodup) : Inc (srt ws) := by
  have h1 := srt_sorted ws
  have h2 : (srt ws).Pairwise (· ≠ ·) := (srt_perm ws).nodup_iff.mpr h
  refine (h1.and h2).imp fun {a b} k => ?_
  have k1 := of_decide_eq_true k.1
  exact Classical.byContradiction fun z => k.2 (str_ext (List.le_antisymm k1 (List.not_lt.mp z)))
end Lw

namespace Lw
open PySem PySem.Spec PyProof.Rows L2
/-! ### lists of tuples of texts -/
def BagAt (H : Hp) (v : V) (b : List Str) : Prop := ∃ a, v = .ref a ∧ H a = some (.tup (b.map V.str))
def Bags (H : Hp) : List V → List (List Str) → Prop
  | [], [] => True
  | v :: vs, b :: bs => BagAt H v b ∧ Bags H vs bs
  | _, _ => False
theorem BagAt.ex {H H' : Hp} {v : V} {b : List Str} (e : Evl.Ex H H') (h : BagAt H v b) : BagAt H' v b := by
  obtain ⟨a, h1, h2⟩ := h
  exact ⟨a, h1, e _ _ h2⟩
theorem BagAt.put {H : Hp} {v : V} {b : List Str} {p : Addr} {xs : List V} {o : HO} (hp : H p = some (.lst xs)) (h : BagAt H v b) : BagAt (upd H p o) v b := by
  obtain ⟨a, h1, h2⟩ := h
  refine ⟨a, h1, (upd_ne fun z => ?_).trans h2⟩
  rw [z, hp] at h2
  cases h2
theorem Bags.imp {H H' : Hp} (k : ∀ v b, BagAt H v b → BagAt H' v b) : ∀ {vs : List V} {bs : List (List Str)}, Bags H vs bs → Bags H' vs bs
  | [], [], _ => trivial
  | _ :: _, _ :: _, h => ⟨k _ _ h.1, Bags.imp k h.2⟩
  | [], _ :: _, h => h.elim
  | _ :: _, [], h => h.elim
theorem Bags.ex {H H' : Hp} {vs : List V} {bs : List (List Str)} (e : Evl.Ex H H') (h : Bags H vs bs) : Bags H' vs bs := h.imp fun _ _ k => k.ex e
theorem Bags.put {H : Hp} {vs : List V} {bs : List (List Str)} {p : Addr} {xs : List V} {o : HO} (hp : H p = some (.lst xs)) (h : Bags H vs bs) : Bags (upd H p o) vs bs := h.imp fun _ _ k => k.put hp
theorem Bags.append {H : Hp} : ∀ {vs ws : List V} {bs cs : List (List Str)}, Bags H vs bs → Bags H ws cs → Bags H (vs ++ ws) (bs ++ cs)
  | [], _, [], _, _, h => h
  | _ :: _, _, _ :: _, _, h, k => ⟨h.1, Bags.append h.2 k⟩
  | [], _, _ :: _, _, h, _ => h.elim
  | _ :: _, _, [], _, h, _ => h.elim
theorem Bags.len {H : Hp} : ∀ {vs : List V} {bs : List (List Str)}, Bags H vs bs → vs.length = bs.length
  | [], [], _ => rfl
  | _ :: _, _ :: _, h => by rw [List.length_cons, List.length_cons, Bags.len h.2]
  | [], _ :: _, h => h.elim
  | _ :: _, [], h => h.elim
theorem Bags.at {H : Hp} : ∀ {vs : List V} {bs : List (List Str)} {i : Nat} {v : V}, Bags H vs bs → vs[i]? = some v → ∃ b, bs[i]? = some b ∧ BagAt H v b
  | [], [], _, _, _, h => by cases h
  | _ :: _, b :: _, 0, _, h, e => by
    cases e
    exact ⟨b, rfl, h.1⟩
  | _ :: _, _ :: _, i + 1, _, h, e => Bags.at (i := i) h.2 (by simpa using e)
  | [], _ :: _, _, _, h, _ => h.elim
  | _ :: _, [], _, _, h, _ => h.elim
def bagsD (bs : List (List Str)) : PyData := .list (bs.map fun b => .tuple (b.map PyData.str))
theorem Bags.dp {K : PySem.W.Frag} {H : Hp} {p : Addr} {vs : List V} {bs : List (List Str)} (hp : SqL K H p vs) (h : Bags H vs bs) : Dp K H (.ref p) (bagsD bs) := by
  refine .lst hp ?_
  clear hp
  induction vs generalizing bs with
  | nil =>
    cases bs with
    | nil => exact .nil
    | cons _ _ => exact h.elim
  | cons v vs ih =>
    cases bs with
    | nil => exact h.elim
    | cons b bs =>
      obtain ⟨a, rfl, ha⟩ := h.1
      exact .cons (dp_strsT (Evl.st_of ha)) (ih h.2)
theorem bagsD_good {bs : List (List Str)} (h : ∀ b ∈ bs, ∀ z ∈ b, SOk z) : GoodD 2 (bagsD bs) := good_list fun d hd => by
  obtain ⟨b, hb, rfl⟩ := List.mem_map.mp hd
  exact good_strsT (h b hb)
/-! ### [elt for x in list for y in tuple if test]: what comes is told by dat -/
section
open Evl
variable {K : PySem.W.Frag} {σ : L2.St} {H1 : Hp} {tt1 : TT} {te : TE} {tl tr : TE}
theorem lc2_bags {a b : Addr} {xs ys : List V} {jx jy : Nat} {vs vs1 : List Nat} (t : Nat → Nat → Bool) (d : Nat → Nat → List Str) (dat : Nat → Nat → List (List Str))
    (h : Ev tl σ H1 (.ref a)) (hx : SqL K H1 a xs) (hy : SqT K H1 b ys) (h00 : dat 0 0 = []) (hsx : ∀ i j, dat i (j + 1) = dat i j ++ if t i j = true then [d i j] else []) (hnx : ∀ i, i < xs.length → dat (i + 1) 0 = dat i ys.length) (hsm : ∀ i j, i ≤ xs.length → j ≤ ys.length → (dat i j).length ≤ 50000)
    (hw : ∀ x, wipe ((wipe σ vs).set jx (some x)) vs = wipe σ vs) (hw1 : ∀ x y, wipe ((wipe ((wipe σ vs).set jx (some x)) vs1).set jy (some y)) vs1 = wipe ((wipe σ vs).set jx (some x)) vs1)
    (hr : ∀ x H', Ex H1 H' → Ev tr ((wipe σ vs).set jx (some x)) H' (.ref b))
    (hT : ∀ i j x y H', xs[i]? = some x → ys[j]? = some y → Ex H1 H' → EvT tt1 ((wipe ((wipe σ vs).set jx (some x)) vs1).set jy (some y)) H' (t i j))
    (hE : ∀ i j x y H', xs[i]? = some x → ys[j]? = some y → Ex H1 H' → t i j = true → ∀ Q : VK, (∀ v H2, Ex H' H2 → BagAt H2 v (d i j) → Q v H2) → te ((wipe ((wipe σ vs).set jx (some x)) vs1).set jy (some y)) H' Q)
    {Q : VK} (k : ∀ p acc H', H1 p = none → Ex H1 H' → H' p = some (.lst acc) → Bags H' acc (dat xs.length 0) → Q (.ref p) H') :
    tLc2 (iList K tl) (gName jx) tYes (iTup K tr) (gName jy) tt1 te vs vs1 σ H1 Q := by
  refine h H1 (Ex.refl _) _ fun H2 e2 => ⟨a, rfl, ⟨xs, ex_l e2 hx⟩, fun D nD => ?_⟩
  have nD1 : H1 D = none := fresh_back e2 nD
  -- the word of the outer loop
  let Pv : Nat → Nat → Hp → Prop := fun i j H' => Ex H1 H' ∧ ∃ acc, H' D = some (.lst acc) ∧ Bags H' acc (dat i j)
  refine ⟨fun i m H' => m = xs.length - i ∧ i ≤ xs.length ∧ Pv i 0 H', ⟨xs.length, by simp, Nat.zero_le _, e2.trans (Ex.new nD), [], upd_same, by rw [h00]; trivial⟩, ?_⟩
  rintro i m H' ⟨rfl, hi, e', acc, hD, hB⟩
  by_cases hlt : i < xs.length
  · refine .inr ⟨⟨xs, xs[i], ex_l e' hx, by simp [hlt]⟩, Pv (i + 1) 0, fun H3 p => ⟨xs.length - (i + 1), by omega, rfl, hlt, p⟩, fun x H3 y => ?_⟩
    obtain ⟨rfl, hy2⟩ := y
    have hxi : xs[i]? = some x := hy2 xs (ex_l e' hx)
    refine ⟨hw x, ?_⟩
    unfold tYes
    simp only [if_true]
    refine hr x H3 e' H3 (Ex.refl _) _ fun H4 e4 => ⟨b, rfl, ⟨ys, ex_t (e'.trans e4) hy⟩, ?_⟩
    refine ⟨fun j m H' => m = ys.length - j ∧ j ≤ ys.length ∧ Pv i j H', ⟨ys.length, by simp, Nat.zero_le _, e'.trans e4, acc, e4 _ _ hD, hB.ex e4⟩, ?_⟩
    rintro j m H5 ⟨rfl, hj, e5, acc5, hD5, hB5⟩
    by_cases hjt : j < ys.length
    · refine .inr ⟨⟨ys, ys[j], ex_t e5 hy, by simp [hjt]⟩, Pv i (j + 1), fun H6 p => ⟨ys.length - (j + 1), by omega, rfl, hjt, p⟩, fun y H6 z => ?_⟩
      obtain ⟨rfl, hz2⟩ := z
      have hyj : ys[j]? = some y := hz2 ys (ex_t e5 hy)
      refine ⟨hw1 x y, ?_⟩
      refine hT i j x y H6 hxi hyj e5 H6 (Ex.refl _) _ fun H7 e7 => ?_
      cases ht : t i j with
      | true =>
        rw [if_pos rfl]
        refine hE i j x y H7 hxi hyj (e5.trans e7) ht _ fun v H8 e8 hv => ?_
        have hD8 := (e7.trans e8) _ _ hD5
        have hB8 := hB5.ex (e7.trans e8)
        refine ⟨acc5, hD8, sz_lt (by rw [hB5.len]; have := hsm i j hi hj; omega), (((e5.trans e7).trans e8)).mut nD1, _, upd_same, ?_⟩
        rw [hsx, ht, if_pos rfl]
        exact (Bags.append (ws := [v]) (cs := [d i j]) hB8 ⟨hv, trivial⟩).put hD8
      | false =>
        rw [if_neg (by simp)]
        refine ⟨e5.trans e7, acc5, e7 _ _ hD5, ?_⟩
        rw [hsx, ht, if_neg (by simp), List.append_nil]
        exact hB5.ex e7
    · have ej : j = ys.length := by omega
      subst ej
      refine .inl ⟨⟨ys, ex_t e5 hy, Nat.le_refl _⟩, e5, acc5, hD5, ?_⟩
      rw [hnx i hlt]
      exact hB5
  · have ei : i = xs.length := by omega
    subst ei
    exact .inl ⟨⟨xs, ex_l e' hx, Nat.le_refl _⟩, k D acc H' nD1 e' hD hB⟩
end
end Lw

namespace Lw
open PySem PySem.Spec PyProof.Rows L2
/-! ### rules whose written part is told, for blocks -/
section
variable {X : Cx}
theorem k_catA (K : PySem.W.Frag) (h : X.K = K := by rfl) : OpR X (binaryOp .Add) (rCatA K) := h ▸ op_catA
theorem k_ixT (K : PySem.W.Frag) (h : X.K = K := by rfl) : IxR X (rIxT K) := h ▸ ix_tup
theorem k_ixL (K : PySem.W.Frag) (h : X.K = K := by rfl) : IxR X (rIxL K) := h ▸ ix_list
theorem k_len (K : PySem.W.Frag) (h : X.K = K := by rfl) : CallR X (.builtin "len") (fun xs H Q => ∃ p ys, xs = [.ref p] ∧ (SqL K H p ys ∨ SqT K H p ys) ∧ Q (.int ys.length) H) := h ▸ call_len_seq
theorem k_listof (K : PySem.W.Frag) (h : X.K = K := by rfl) : CallR X (.type "list") (fun xs H Q => ∃ p ys, xs = [.ref p] ∧ (SqL K H p ys ∨ SqT K H p ys) ∧ ∀ l, H l = none → Q (.ref l) (upd H l (.lst ys))) := h ▸ call_list_of
theorem k_piT {tg l : Expr} {tl : TE} (K : PySem.W.Frag) (hl : PE X l tl) (h : X.K = K := by rfl) : PI X tg l (iTup K tl) := h ▸ pi_tup hl
theorem k_piL {tg l : Expr} {tl : TE} (K : PySem.W.Frag) (hl : PE X l tl) (h : X.K = K := by rfl) : PI X tg l (iList K tl) := h ▸ pi_list hl
theorem k_truth {a : Expr} {ta : TE} (K : PySem.W.Frag) (ha : PE X a ta) (he : ∀ whole, isTrue a X.env whole = (do let v ← whole; standAt a.pos; holding [v] (truthy v))) (h : X.K = K := by rfl) :
    PT X a (fun σ H Q => ta σ H fun x H' => ∃ k, TruV K x H' k ∧ Q k H') := h ▸ pt_truth ha he
end
/-! ### in, over data of a list or a tuple -/
def rInDS (K : PySem.W.Frag) (neg : Bool) : R2 := fun x y H Q => ∃ d ds, Dp K H x d ∧ (Dp K H y (.list ds) ∨ Dp K H y (.tuple ds)) ∧ SeqAt.shaped d = true ∧ SeqAt.shaped (.list ds) = true ∧ Q (.bl (if neg = true then !(ds.any fun z => PyData.eqv z d) else ds.any fun z => PyData.eqv z d)) H
theorem k_inD {X : Cx} (K : PySem.W.Frag) (hu : X.A.units + 65 < cLine) (h : X.K = K := by rfl) : OpR X (compareOp .In) (rInDS K false) := by
  subst h
  intro pins s σ H x y v u Q I rx ry h
  obtain ⟨d, ds, hd, he, sd, se, q⟩ := h
  obtain ⟨as, r1⟩ := Dp.reads I d x v hd rx
  have s1 := SeqAt.canLay_of_shaped se
  rcases he with he | he
  · obtain ⟨bs, r2⟩ := Dp.reads I (.list ds) y u he ry
    exact SeqAt.in_list_reads r2 r1 s1 (SeqAt.canLay_of_shaped sd) (room_in_shaped sd hu) ⟨.bl _, H, I, rfl, q⟩
  · obtain ⟨bs, r2⟩ := Dp.reads I (.tuple ds) y u he ry
    exact SeqAt.in_tuple_reads r2 r1 s1 (SeqAt.canLay_of_shaped sd) (room_in_shaped sd hu) ⟨.bl _, H, I, rfl, q⟩
theorem room65 {k : Nat} {A : Around} (r : Room k A) : A.units + 65 < cLine := by
  have := r.un
  omega
/-! ### the rows of the next layer -/
def okI (b : List Nat) (j : Nat) : Bool := b.isEmpty || decide (b.getLastD 0 < j)
def rowI (j : Nat) (b : List Nat) : List (List Nat) := ((List.range j).filter (okI b)).map fun g => b ++ [g]
def datI (n : Nat) (L : List (List Nat)) (i j : Nat) : List (List Nat) := (L.take i).flatMap (rowI n) ++ rowI j (L.getD i [])
theorem row_succ (j : Nat) (b : List Nat) : rowI (j + 1) b = rowI j b ++ if okI b j = true then [b ++ [j]] else [] := by
  unfold rowI
  rw [List.range_succ, List.filter_append, List.map_append]
  congr 1
  by_cases h : okI b j = true
  · rw [if_pos h, List.filter_cons_of_pos h]
    rfl
  · rw [if_neg h, List.filter_cons_of_neg h]
    rfl
theorem dat_succ (n : Nat) (L : List (List Nat)) (i j : Nat) : datI n L i (j + 1) = datI n L i j ++ if okI (L.getD i []) j = true then [L.getD i [] ++ [j]] else [] := by
  unfold datI
  rw [row_succ, List.append_assoc]
theorem dat_next (n : Nat) (L : List (List Nat)) (i : Nat) (hi : i < L.length) : datI n L (i + 1) 0 = datI n L i n := by
  unfold datI
  rw [List.take_add_one, List.getElem?_eq_getElem hi, List.flatMap_append, List.getD_eq_getElem?_getD (l := L) (i := i), List.getElem?_eq_getElem hi]
  simp [rowI]
theorem dat_end (n : Nat) (L : List (List Nat)) : datI n L L.length 0 = nextI n L := by
  unfold datI nextI
  rw [List.take_length]
  have : rowI 0 (L.getD L.length []) = [] := rfl
  rw [this, List.append_nil]
  rfl
theorem row_len (j : Nat) (b : List Nat) : (rowI j b).length ≤ j := by
  unfold rowI
  rw [List.length_map]
  exact Nat.le_trans (List.length_filter_le _ _) (by rw [List.length_range]; exact Nat.le_refl _)
theorem flat_len {α β : Type} (f : α → List β) (c : Nat) : ∀ l : List α, (∀ b ∈ l, (f b).length ≤ c) → (l.flatMap f).length ≤ c * l.length
  | [], _ => by simp
  | x :: l, h => by
    rw [List.flatMap_cons, List.length_append, List.length_cons, Nat.mul_succ]
    have h1 := h x List.mem_cons_self
    have h2 := flat_len f c l fun b hb => h b (List.mem_cons_of_mem _ hb)
    omega
theorem dat_len (n : Nat) (L : List (List Nat)) (i j : Nat) : (datI n L i j).length ≤ n * L.length + j := by
  unfold datI
  rw [List.length_append]
  have h1 := flat_len (rowI n) n (L.take i) fun b _ => row_len n b
  have h2 := row_len j (L.getD i [])
  have h3 : n * (L.take i).length ≤ n * L.length := Nat.mul_le_mul_left n (by rw [List.length_take]; omega)
  omega
theorem at_last {ws : List Str} {b : List Nat} (h : b ≠ []) : atI ((bagI ws b).map V.str) (-1) = some (.str (fI ws (b.getLastD 0))) := by
  have hl : 0 < b.length := List.length_pos_iff.mpr h
  unfold atI ixN
  have n1 : ¬ (0 : Int) ≤ -1 := by omega
  have n2 : -(((bagI ws b).map V.str).length : Int) ≤ -1 := by
    unfold bagI
    simp only [List.length_map]
    omega
  rw [if_neg n1, if_pos n2]
  have e : ((-1 : Int) + (((bagI ws b).map V.str).length : Int)).toNat = b.length - 1 := by
    unfold bagI
    simp only [List.length_map]
    omega
  rw [e]
  show ((bagI ws b).map V.str)[b.length - 1]? = _
  unfold bagI
  rw [List.getElem?_map, List.getElem?_map, List.getElem?_eq_getElem (by omega : b.length - 1 < b.length)]
  simp only [Option.map_some]
  congr 3
  rw [List.getLastD_eq_getLast?, List.getLast?_eq_getElem?, List.getElem?_eq_getElem (by omega : b.length - 1 < b.length)]
  rfl
end Lw

namespace Lw
open PySem PySem.Spec PyProof.Rows L2
open PySem.W (dataLe dataLe_str rowLt dataLt dataLt_tuple dataLt_cons dataLt_int dataLt_str alike alikeAll)
/-! ### items of a list, each told by a relation -/
def Rels {α : Type} (R : Hp → V → α → Prop) (H : Hp) : List V → List α → Prop
  | [], [] => True
  | v :: vs, b :: bs => R H v b ∧ Rels R H vs bs
  | _, _ => False
section
variable {α : Type} {R S : Hp → V → α → Prop}
theorem Rels.imp {H H' : Hp} (k : ∀ v b, R H v b → S H' v b) : ∀ {vs : List V} {bs : List α}, Rels R H vs bs → Rels S H' vs bs
  | [], [], _ => trivial
  | _ :: _, _ :: _, h => ⟨k _ _ h.1, Rels.imp k h.2⟩
  | [], _ :: _, h => h.elim
  | _ :: _, [], h => h.elim
theorem Rels.append {H : Hp} : ∀ {vs ws : List V} {bs cs : List α}, Rels R H vs bs → Rels R H ws cs → Rels R H (vs ++ ws) (bs ++ cs)
  | [], _, [], _, _, h => h
  | _ :: _, _, _ :: _, _, h, k => ⟨h.1, Rels.append h.2 k⟩
  | [], _, _ :: _, _, h, _ => h.elim
  | _ :: _, _, [], _, h, _ => h.elim
theorem Rels.len {H : Hp} : ∀ {vs : List V} {bs : List α}, Rels R H vs bs → vs.length = bs.length
  | [], [], _ => rfl
  | _ :: _, _ :: _, h => by rw [List.length_cons, List.length_cons, Rels.len h.2]
  | [], _ :: _, h => h.elim
  | _ :: _, [], h => h.elim
theorem Rels.at {H : Hp} : ∀ {vs : List V} {bs : List α} {i : Nat} {v : V}, Rels R H vs bs → vs[i]? = some v → ∃ b, bs[i]? = some b ∧ R H v b
  | [], [], _, _, _, h => by cases h
  | _ :: _, b :: _, 0, _, h, e => by
    cases e
    exact ⟨b, rfl, h.1⟩
  | _ :: _, _ :: _, i + 1, _, h, e => Rels.at (i := i) h.2 (by simpa using e)
  | [], _ :: _, _, _, h, _ => h.elim
  | _ :: _, [], _, _, h, _ => h.elim
theorem Rels.map {β : Type} {g : β → α} {T : Hp → V → β → Prop} {H : Hp} (k : ∀ v b, T H v b ↔ R H v (g b)) : ∀ {vs : List V} {bs : List β}, Rels T H vs bs ↔ Rels R H vs (bs.map g)
  | [], [] => Iff.rfl
  | _ :: _, _ :: _ => and_congr (k _ _) (Rels.map k)
  | [], _ :: _ => Iff.rfl
  | _ :: _, [] => Iff.rfl
theorem Rels.zip_mem {H : Hp} : ∀ {vs : List V} {bs : List α}, Rels R H vs bs → ∀ q ∈ vs.zip bs, R H q.1 q.2
  | [], _, _, q, h => by simp at h
  | _ :: _, [], _, q, h => by simp at h
  | v :: vs, b :: bs, k, q, h => by
    rw [List.zip_cons_cons] at h
    rcases List.mem_cons.mp h with rfl | h
    · exact k.1
    · exact Rels.zip_mem k.2 q h
theorem bags_rels {H : Hp} : ∀ {vs : List V} {bs : List (List Str)}, Bags H vs bs ↔ Rels BagAt H vs bs
  | [], [] => Iff.rfl
  | _ :: _, _ :: _ => and_congr Iff.rfl bags_rels
  | [], _ :: _ => Iff.rfl
  | _ :: _, [] => Iff.rfl
end
section
open Evl
variable {K : PySem.W.Frag} {σ : L2.St} {H1 : Hp} {te : TE}
/-- [elt for x in a list], each item told -/
theorem lc1_rels {α : Type} {R : Hp → V → α → Prop} (Rex : ∀ {H H' : Hp} {v : V} {b : α}, Ex H H' → R H v b → R H' v b) (Rput : ∀ {H : Hp} {p : Addr} {xs : List V} {o : HO} {v : V} {b : α}, H p = some (.lst xs) → R H v b → R (upd H p o) v b)
    {a : Addr} {xs : List V} {j : Nat} {vs : List Nat} (ds : List α) (hx : SqL K H1 a xs) (hl : ds.length = xs.length) (hz : xs.length ≤ 50000) (hw : ∀ x, wipe ((wipe σ vs).set j (some x)) vs = wipe σ vs)
    (hE : ∀ (i : Nat) (x : V) (d : α) (H' : Hp), xs[i]? = some x → ds[i]? = some d → Ex H1 H' → ∀ Q : VK, (∀ v H2, Ex H' H2 → R H2 v d → Q v H2) → te ((wipe σ vs).set j (some x)) H' Q)
    {Qd : Addr → Hp → Prop} (k : ∀ p acc H', H1 p = none → Ex H1 H' → H' p = some (.lst acc) → Rels R H' acc ds → Qd p H') :
    ∀ D, H1 D = none → ∃ W : Nat → Nat → Hp → Prop, (∃ m, W 0 m (upd H1 D (.lst []))) ∧ ∀ i m H, W i m H →
      ((Itl K a).stop i H ∧ Qd D H) ∨ ((Itl K a).go i H ∧ ∃ Nx : Hp → Prop, (∀ H', Nx H' → ∃ m', m' < m ∧ W (i + 1) m' H') ∧ ∀ x H', (Itl K a).yld i H x H' → gName j x (wipe σ vs) H' fun σ2 H2 => wipe σ2 vs = wipe σ vs ∧ tYes σ2 H2 fun b H3 =>
        if b = true then te σ2 H3 fun y H4 => ∃ acc, H4 D = some (.lst acc) ∧ acc.length < sizeLine ∧ Nx (upd H4 D (.lst (acc ++ [y]))) else Nx H3) := fun D nD => by
  refine lc_it (walk_list (xs := xs)) (fun i H' => Ex H1 H' ∧ ∃ acc, H' D = some (.lst acc) ∧ Rels R H' acc (ds.take i)) ⟨Ex.new nD, [], upd_same, trivial⟩ (fun i H' _ p => ex_l p.1 hx) (fun i x H' H2 hi ⟨e, acc, hD, hB⟩ y => ?_) (fun H' ⟨e, acc, hD, hB⟩ => ?_)
  · obtain ⟨rfl, hxi⟩ := y
    refine ⟨hw x, ?_⟩
    unfold tYes
    simp only [if_true]
    obtain ⟨d, hd⟩ : ∃ d, ds[i]? = some d := ⟨_, List.getElem?_eq_getElem (by omega : i < ds.length)⟩
    refine hE i x d H2 hxi hd e _ fun v H3 e3 hv => ?_
    have hD3 := e3 _ _ hD
    refine ⟨acc, hD3, sz_lt (by rw [hB.len, List.length_take]; omega), (e.trans e3).mut nD, _, upd_same, ?_⟩
    rw [List.take_add_one, hd]
    exact (Rels.append (ws := [v]) (cs := [d]) (hB.imp fun _ _ h => Rex e3 h) ⟨hv, trivial⟩).imp fun _ _ h => Rput hD3 h
  · rw [← hl, List.take_length] at hB
    exact k D acc H' nD e hD hB
end
section
open Evl
theorem eu_tupof {K : PySem.W.Frag} {σ : L2.St} {H : Hp} {xs : List V} {tl : TE} (h : EvL tl σ H xs) : EvU (tCB (fun xs H Q => ∃ p ys, xs = [.ref p] ∧ ((SqL K H p ys ∧ ∀ l, H l = none → Q (.ref l) (upd H l (.tup ys))) ∨ (SqT K H p ys ∧ Q (.ref p) H))) (tCons tl tNil)) σ H xs := fun H1 e Q q =>
  h H1 e _ fun p H2 np e2 hp => ⟨p, xs, rfl, .inl ⟨sq_of hp, fun l nl => q l _ (fresh_back e2 nl) (e2.trans (Ex.new nl)) upd_same⟩⟩
theorem el_listof {K : PySem.W.Frag} {σ : L2.St} {H : Hp} {a : Addr} {xs : List V} {te : TE} (h : Ev te σ H (.ref a)) (hx : SqL K H a xs ∨ SqT K H a xs) : EvL (tCB (fun xs H Q => ∃ p ys, xs = [.ref p] ∧ (SqL K H p ys ∨ SqT K H p ys) ∧ ∀ l, H l = none → Q (.ref l) (upd H l (.lst ys))) (tCons te tNil)) σ H xs := fun H1 e Q q =>
  h H1 e _ fun H2 e2 => ⟨a, xs, rfl, hx.elim (fun h => .inl (ex_l (e.trans e2) h)) (fun h => .inr (ex_t (e.trans e2) h)), fun l nl => q l _ (fresh_back e2 nl) (e2.trans (Ex.new nl)) upd_same⟩
end
/-! ### the order of bundles -/
theorem alike_strs : ∀ xs ys : List Str, alikeAll (xs.map PyData.str) (ys.map PyData.str) = true
  | [], _ => rfl
  | _ :: _, [] => rfl
  | _ :: xs, _ :: ys => by
    rw [List.map_cons, List.map_cons, alikeAll, alike_strs xs ys]
    rfl
theorem row_nil : rowLt [] [] = false := by
  unfold rowLt
  decide +kernel
theorem row_bag {ws : List Str} (hI : Inc ws) : ∀ {a b : List Nat}, (∀ i ∈ a, i < ws.length) → (∀ i ∈ b, i < ws.length) → rowLt ((bagI ws a).map PyData.str) ((bagI ws b).map PyData.str) = decide (a < b)
  | [], [], _, _ => by
    rw [show rowLt ((bagI ws []).map PyData.str) ((bagI ws []).map PyData.str) = false from row_nil]
    simp
  | [], y :: b, _, _ => by
    have e : rowLt [] (PyData.str (fI ws y) :: (bagI ws b).map PyData.str) = true := by
      unfold rowLt
      rw [PySem.W.toks_all_cons]
      simp only [PySem.W.keyToksAll]
      rw [lex_diff (O := itemOrd) (by simp)]
      rfl
    simpa [bagI] using e
  | x :: a, [], _, _ => by
    have e : rowLt (PyData.str (fI ws x) :: (bagI ws a).map PyData.str) [] = false := by
      unfold rowLt
      rw [PySem.W.toks_all_cons]
      simp only [PySem.W.keyToksAll]
      rw [lex_diff (O := itemOrd) (by simp)]
      rfl
    simpa [bagI] using e
  | x :: a, y :: b, ha, hb => by
    have e : rowLt ((bagI ws (x :: a)).map PyData.str) ((bagI ws (y :: b)).map PyData.str) = if fI ws x = fI ws y then rowLt ((bagI ws a).map PyData.str) ((bagI ws b).map PyData.str) else decide ((fI ws x).cps.toList < (fI ws y).cps.toList) := by
      show rowLt (.str (fI ws x) :: (bagI ws a).map PyData.str) (.str (fI ws y) :: (bagI ws b).map PyData.str) = _
      unfold rowLt
      rw [dataLt_cons (by simp [alike]), dataLt_str]
      simp only [PyData.eqv, beq_iff_eq]
    have hx := ha x List.mem_cons_self
    have hy := hb y List.mem_cons_self
    rw [e]
    by_cases h : x = y
    · rw [if_pos (by rw [h]), row_bag hI (fun i hi => ha i (List.mem_cons_of_mem _ hi)) (fun i hi => hb i (List.mem_cons_of_mem _ hi))]
      simp [h, List.cons_lt_cons_iff]
    · rw [if_neg fun z => h (inc_inj hI hx hy z)]
      simp only [inc_lt hI hx hy]
      simp [h, List.cons_lt_cons_iff]
/-- a pair of a length and a bundle -/
def PairAt (ws : List Str) (H : Hp) (v : V) (b : List Nat) : Prop := ∃ t ax, v = .ref t ∧ H t = some (.tup [.int (b.length : Int), .ref ax]) ∧ H ax = some (.tup ((bagI ws b).map V.str))
theorem PairAt.ex {ws : List Str} {H H' : Hp} {v : V} {b : List Nat} (e : Evl.Ex H H') (h : PairAt ws H v b) : PairAt ws H' v b := by
  obtain ⟨t, ax, h1, h2, h3⟩ := h
  exact ⟨t, ax, h1, e _ _ h2, e _ _ h3⟩
theorem PairAt.put {ws : List Str} {H : Hp} {v : V} {b : List Nat} {p : Addr} {xs : List V} {o : HO} (hp : H p = some (.lst xs)) (h : PairAt ws H v b) : PairAt ws (upd H p o) v b := by
  obtain ⟨t, ax, h1, h2, h3⟩ := h
  refine ⟨t, ax, h1, (upd_ne fun z => ?_).trans h2, (upd_ne fun z => ?_).trans h3⟩
  · rw [z, hp] at h2
    cases h2
  · rw [z, hp] at h3
    cases h3
/-! ### sorted pairs of a length and a bundle -/
def pairD (ws : List Str) (b : List Nat) : PyData := .tuple [.int (b.length : Int), .tuple ((bagI ws b).map PyData.str)]
theorem lt_pair {ws : List Str} (hI : Inc ws) {a b : List Nat} (ha : ∀ i ∈ a, i < ws.length) (hb : ∀ i ∈ b, i < ws.length) : dataLt (pairD ws a) (pairD ws b) = ltI a b := by
  unfold pairD
  rw [dataLt_tuple, dataLt_cons (by simp [alike]), dataLt_int, dataLt_cons (by simpa [alike] using alike_strs _ _)]
  have h1 : dataLt (.tuple ((bagI ws a).map PyData.str)) (.tuple ((bagI ws b).map PyData.str)) = decide (a < b) := by
    rw [dataLt_tuple]
    exact row_bag hI ha hb
  rw [h1, eqv_strsT]
  unfold ltI
  by_cases hl : a.length = b.length
  · have : PyData.eqv (.int (a.length : Int)) (.int (b.length : Int)) = true := by simp [PyData.eqv, hl]
    rw [if_pos this]
    by_cases hab : bagI ws a = bagI ws b
    · rw [if_pos (by rw [hab]; exact decide_eq_true rfl)]
      have e := bag_inj hI ha hb hab
      subst e
      rw [show PyProof.Rows.lexLt itemOrd (PySem.W.keyToksAll []) (PySem.W.keyToksAll []) = false from row_nil]
      simp
    · rw [if_neg (by rw [decide_eq_false hab]; simp)]
      simp [hl]
  · have : PyData.eqv (.int (a.length : Int)) (.int (b.length : Int)) = false := by
      simp only [PyData.eqv]
      exact beq_false_of_ne (by omega)
    rw [if_neg (by rw [this]; simp)]
    simp [hl]
theorem sort_pairs {ws : List Str} (hI : Inc ws) (hn : ws.length < 6) {γ : Type} (l : List (γ × List Nat)) (hl : l.map (·.2) = fndI ws.length) : (l.mergeSort (dataLe false fun q => pairD ws q.2)).map (·.2) = allI ws.length := by
  have hmem : ∀ q ∈ l, q.2 ∈ fndI ws.length := fun q hq => by
    rw [← hl]
    exact List.mem_map_of_mem hq
  have hin := (fnd_in ws.length hn).2
  obtain ⟨hp, hall⟩ := fnd_at ws.length hn
  have key : (l.mergeSort (dataLe false fun q => pairD ws q.2)).map (fun q => (allI ws.length).idxOf q.2) = (l.map fun q => (allI ws.length).idxOf q.2).mergeSort fun a b => decide (a ≤ b) := List.map_mergeSort fun a ha b hb => by
    show (!dataLt (pairD ws b.2) (pairD ws a.2)) = _
    rw [lt_pair hI (hin _ (hmem b hb)).2 (hin _ (hmem a ha)).2]
    exact fnd_le ws.length hn _ (hmem a ha) _ (hmem b hb)
  have hfst : (l.map fun q => (allI ws.length).idxOf q.2) = (fndI ws.length).map fun b => (allI ws.length).idxOf b := by
    rw [← hl, List.map_map]
    rfl
  have hr : ((fndI ws.length).map fun b => (allI ws.length).idxOf b).mergeSort (fun a b => decide (a ≤ b)) = List.range (allI ws.length).length := by
    refine List.Perm.eq_of_pairwise (le := fun a b : Nat => decide (a ≤ b) = true) (fun a b _ _ h1 h2 => ?_) (List.pairwise_mergeSort (fun a b c h1 h2 => ?_) (fun a b => ?_) _) ?_ ((List.mergeSort_perm _ _).trans (List.isPerm_iff.mp hp))
    · have := of_decide_eq_true h1
      have := of_decide_eq_true h2
      omega
    · have := of_decide_eq_true h1
      have := of_decide_eq_true h2
      exact decide_eq_true (by omega)
    · rcases Nat.le_total a b with h | h <;> simp [h]
    · exact (List.pairwise_le_range).imp fun h => decide_eq_true h
  rw [hfst, hr] at key
  have back : (l.mergeSort (dataLe false fun q => pairD ws q.2)).map (·.2) = ((l.mergeSort (dataLe false fun q => pairD ws q.2)).map (fun q => (allI ws.length).idxOf q.2)).map fun i => (allI ws.length).getD i [] := by
    rw [List.map_map]
    refine List.map_congr_left fun q hq => ?_
    have hq' := hall _ (hmem q ((List.mergeSort_perm l _).mem_iff.mp hq))
    show q.2 = (allI ws.length).getD ((allI ws.length).idxOf q.2) []
    have hlt := List.idxOf_lt_length_iff.mpr hq'
    rw [List.getD_eq_getElem?_getD, List.getElem?_eq_getElem hlt, List.getElem_idxOf hlt]
    rfl
  rw [back, key]
  apply List.ext_getElem?
  intro i
  rw [List.getElem?_map]
  by_cases h : i < (allI ws.length).length
  · rw [List.getElem?_range h, List.getElem?_eq_getElem h, Option.map_some, List.getD_eq_getElem?_getD, List.getElem?_eq_getElem h]
    rfl
  · rw [List.getElem?_eq_none (by simp; omega), List.getElem?_eq_none (by omega)]
    rfl
end Lw

namespace Lw
open PySem PySem.Spec PyProof.Rows L2 HT
/-! ### t[::-1] of a tuple -/
section
variable {prog : Program} {w : World} {A : Around} {E : Value → Shared → Prop} {s : Shared}
theorem adjust_rev (n : Nat) : Builtin.Slice.sliceAdjust none none (-1) (n : Int) = ((n : Int) - 1, -1) := by
  have h1 : ((-1 : Int) < 0) := by omega
  unfold Builtin.Slice.sliceAdjust
  simp only [h1, if_true]
theorem places_rev (n : Nat) : Builtin.Slice.slicePlaces ((n : Int) - 1) (-1) (-1) = n := by
  unfold Builtin.Slice.slicePlaces
  have h1 : ¬ ((-1 : Int) > 0) := by omega
  simp only [h1, if_false]
  have e : (n : Int) - 1 - -1 - 1 = (n : Int) - 1 := by omega
  rw [e, show (- -1 : Int) = 1 from rfl, Int.ediv_one]
  split <;> omega
theorem fm_some {α β : Type} (f : α → Option β) (g : α → β) : ∀ l : List α, (∀ a ∈ l, f a = some (g a)) → l.filterMap f = l.map g
  | [], _ => rfl
  | a :: l, h => by
    rw [List.filterMap_cons, h a List.mem_cons_self, List.map_cons]
    show g a :: l.filterMap f = _
    rw [fm_some f g l fun b hb => h b (List.mem_cons_of_mem _ hb)]
theorem pick_rev (xs : Array Value) : ((List.range xs.size).filterMap fun (k : Nat) => xs[((xs.size : Int) - 1 + (k : Int) * -1).toNat]?).toArray = xs.toList.reverse.toArray := by
  congr 1
  have e : ((List.range xs.size).filterMap fun (k : Nat) => xs[((xs.size : Int) - 1 + (k : Int) * -1).toNat]?) = (List.range xs.size).map fun k => xs.toList.reverse.getD k .none := by
    refine fm_some _ _ _ fun k hk => ?_
    have hk' := List.mem_range.mp hk
    have h2 : ((xs.size : Int) - 1 + (k : Int) * -1).toNat = xs.size - 1 - k := by omega
    rw [h2]
    show xs[xs.size - 1 - k]? = some (xs.toList.reverse.getD k .none)
    rw [List.getD_eq_getElem?_getD, List.getElem?_reverse (by simpa using hk'), Array.length_toList, Array.getElem?_toList, Array.getElem?_eq_getElem (by omega : xs.size - 1 - k < xs.size)]
    rfl
  rw [e]
  apply List.ext_getElem?
  intro i
  rw [List.getElem?_map]
  by_cases h : i < xs.size
  · rw [List.getElem?_range h, Option.map_some, List.getD_eq_getElem?_getD, List.getElem?_eq_getElem (by simpa using h)]
    rfl
  · rw [List.getElem?_eq_none (by simp; omega), List.getElem?_eq_none (by simp; omega)]
    rfl
theorem sliceApplied_rev {sl : Addr} {vl vu vs : Value} {n : Nat} {Q : Int × Int × Nat → Shared → Prop} (hs : s.heap.IsSliceOf sl vl vu vs) (pl : IsPart vl none) (pu : IsPart vu none) (ps : IsPart vs (some (-1)))
    (h : Q ((n : Int) - 1, -1, n) s) : wpAny (model prog w) A (Builtin.Slice.sliceApplied (.ref sl) (pure (n : Int))) Q E s := by
  obtain ⟨os, hos, hcs, hds⟩ := id hs
  unfold Builtin.Slice.sliceApplied Builtin.Slice.sliceFields
  refine wpAny_bind (wpAny_bind (wpAny_field hos hds (x := vl) rfl (wpAny_bind (wpAny_field hos hds (x := vu) rfl (wpAny_bind (wpAny_field hos hds (x := vs) rfl (wpAny_pure ?_)))))))
  refine wpAny_bind (slicePart_ ps ?_)
  show wpAny _ _ (if ((-1 : Int) == 0) = true then _ else _) _ _ s
  rw [if_neg (by decide)]
  refine wpAny_bind (slicePart_ pl (wpAny_bind (slicePart_ pu (wpAny_bind (wpAny_pure ?_)))))
  show wpAny _ _ (match Builtin.Slice.sliceAdjust none none (-1) (n : Int) with | (lo, hi) => pure (lo, (-1 : Int), Builtin.Slice.slicePlaces lo hi (-1))) _ _ s
  rw [adjust_rev]
  show wpAny _ _ (pure ((n : Int) - 1, (-1 : Int), Builtin.Slice.slicePlaces ((n : Int) - 1) (-1) (-1))) _ _ s
  rw [places_rev]
  exact wpAny_pure h
theorem getItem_tuple_rev {t sl : Addr} {items : Array Value} {vl vu vs : Value} {Q : Value → Shared → Prop} (ht : IsTup s.heap t items) (hs : s.heap.IsSliceOf sl vl vu vs) (pl : IsPart vl none) (pu : IsPart vu none) (ps : IsPart vs (some (-1)))
    (h : Q (.ref s.heap.objs.size) { s with heap := s.heap.push { cls := .type "tuple", data := .seq items.toList.reverse.toArray } })
    (hsz : items.size ≤ sizeLine) : wpAny (model prog w) A (getItem (.ref t) (.ref sl)) Q E s := by
  have hok : sizeOk (.seq items.toList.reverse.toArray) := by
    show items.toList.reverse.toArray.size ≤ sizeLine
    rw [List.size_toArray, List.length_reverse, Array.length_toList]
    exact hsz
  obtain ⟨os, hos, hcs, hds⟩ := id hs
  have isS : s.TypeIs (.ref sl) "slice" := ⟨os, hos, hcs⟩
  unfold getItem
  try with_reducible refine wpAny_holding ?_
  first | refine wpAny_bind (wpAny_pure ?_) | skip
  refine wpAny_bind (wpAny_sequenceKey ht.typeIs (by decide) ?_)
  refine wpAny_bind (wpAny_callSpecial?_slot (name := Str.ofString "__getitem__") ht.typeIs PyProof.Rows.slot_tuple_getitem (wpAny_call_entry PyProof.Rows.slot_tuple_getitem ht.typeIs entry_tuple_getitem ?_ (args_tuple_getitem _ _)))
  show wpAny _ _ (Builtin.Tuple.tupleItemsOf (.ref t) >>= _) _ _ s
  refine wpAny_bind (tupleItemsOf_ ht ?_)
  refine wpAny_bind (wpAny_typeOf isS ?_)
  rw [if_pos (by decide)]
  refine wpAny_bind (sliceApplied_rev hs pl pu ps ?_)
  have no : ¬ ((((items.size : Int) - 1 == 0) && ((-1 : Int) == 1) && (items.size == items.size)) = true) := by
    rw [show ((-1 : Int) == 1) = false from by decide, Bool.and_false, Bool.false_and]
    simp
  show wpAny _ _ (if ((((items.size : Int) - 1 == 0) && ((-1 : Int) == 1) && (items.size == items.size)) = true) then _ else _) _ _ s
  rw [if_neg no, pick_rev]
  first
    | exact wpAny_bind (m := Builtin.Tuple.tupleExact _) (wpAny_newObj_type (wpAny_pure ⟨_, rfl, wpAny_pure h⟩) hok)
    | exact wpAny_bind (m := Builtin.Tuple.tupleExact _) (wpAny_newObj_type (wpAny_bind (wpAny_pure (wpAny_pure ⟨_, rfl, wpAny_pure h⟩))) hok)
    | exact wpAny_bind (wpAny_bind (m := Builtin.Tuple.tupleExact _) (wpAny_newObj_type (wpAny_pure (wpAny_pure ⟨_, rfl, wpAny_pure h⟩)) hok))
    | exact wpAny_bind (wpAny_bind (m := Builtin.Tuple.tupleExact _) (wpAny_newObj_type (wpAny_pure ⟨_, rfl, wpAny_pure h⟩) hok))
end
section
variable {X : Cx}
def tRevT (K : PySem.W.Frag) (te : TE) : TE := fun σ H Q => te σ H fun x H1 => ∃ a xs, x = .ref a ∧ SqT K H1 a xs ∧ ∀ p, H1 p = none → Q (.ref p) (upd H1 p (.tup xs.reverse))
theorem pe_revT {e : Expr} {te : TE} {k : Nat} {p1 p2 p3 pos : Pos} (he : PE X e te) : PE X (.Subscript e (.Slice none none (some (.UnaryOp .USub (.Constant (.int 1) k p1) p2)) p3) pos) (tRevT X.K te) := by
  refine ⟨fun pins s σ H Q I h => ?_⟩
  refine Subscript_ (thn (he.run pins s σ H _ I h) fun v s1 ⟨x, H1, I1, r1, q1⟩ => ?_)
  obtain ⟨a, xs, ex, hx, q⟩ := q1
  subst ex
  cases r1
  have hst : PO X (some (.UnaryOp .USub (.Constant (.int 1) k p1) p2)) (tPart (tUn (rU fun i => .int (-i)) (tC (.int 1)))) := po_some (pe_un un_neg pe_int)
  refine wpAny_Slice (thn (po_none.run pins s1 σ H1 (fun o H2 => o = none ∧ H2 = H1) I1 ⟨rfl, rfl⟩) fun vl s2 ⟨l, H2, I2, pl, el, e2⟩ => ?_)
  subst el e2
  refine thn (po_none.run pins s2 σ H2 (fun o H3 => o = none ∧ H3 = H2) I2 ⟨rfl, rfl⟩) fun vu s3 ⟨u, H3, I3, pu, eu, e3⟩ => ?_
  subst eu e3
  refine thn (hst.run pins s3 σ H3 (fun o H4 => o = some (-1) ∧ H4 = H3) I3 ⟨1, rfl, -1, rfl, rfl, rfl⟩) fun vs s4 ⟨o, H4, I4, ps, eo, e4⟩ => ?_
  subst eo e4
  have I5 : Inv X pins σ H4 { s4 with heap := s4.heap.push { cls := .type "slice", data := .fields #[vl, vu, vs] } } := I4.kept (t' := s4.toks) fun b ob q => Heap.get?_push_of_some _ q
  obtain ⟨its, r, tp, hz⟩ := I5.tuple hx
  have hlen := r.length
  show wpAny (model X.prog X.w) X.A (subscriptTail e (.Slice none none (some (.UnaryOp .USub (.Constant (.int 1) k p1) p2)) p3) (.ref a) (.ref s4.heap.objs.size)) (EP X pins σ Q) X.xe { s4 with heap := s4.heap.push { cls := .type "slice", data := .fields #[vl, vu, vs] } }
  refine tail_any (ops := [.ref a, .ref s4.heap.objs.size]) tp.typeIs (PyProof.Rows.slot_tuple_getitem.lookup) ?_ (by with_unfolding_all rfl)
  refine getItem_tuple_rev tp (Heap.IsSliceOf.new _ vl vu vs) pl pu ps ?_ (by rw [List.size_toArray]; omega)
  refine ⟨.ref _, _, I5.laid (t' := s4.toks) (o := .tup xs.reverse) (fun b ob q => Heap.get?_push_of_some _ q) (Nat.le_refl _) ?_, rfl, q _ (I5.hok.fresh (Nat.le_refl _))⟩
  exact ⟨by rw [List.length_reverse]; exact hz, _, r.reverse, ⟨_, Heap.get?_push_size _ rfl, rfl, _, rfl⟩⟩
end
end Lw

namespace Lw
open PySem PySem.Spec PyProof.Rows L2
/-! ### values that stand apart from the state -/
/-- what may stand in a tuple -/
def It1 (st : Addr) (H : Hp) (v : V) : Prop := (∃ z, v = .str z ∧ SOk z) ∨ (∃ i, v = .int i) ∨ v = .non ∨ (∃ a, ∃ zs : List Str, v = .ref a ∧ Ap H st a (.tup (zs.map V.str)) ∧ ∀ z ∈ zs, SOk z) ∨ (∃ a, ∃ zs : List Str, v = .ref a ∧ Ap H st a (.lst (zs.map V.str)) ∧ ∀ z ∈ zs, SOk z)
def It0 (st : Addr) (H : Hp) (v : V) : Prop := (∃ z, v = .str z ∧ SOk z) ∨ (∃ i, v = .int i) ∨ v = .non ∨ (∃ a, ∃ zs : List Str, v = .ref a ∧ Ap H st a (.tup (zs.map V.str)) ∧ ∀ z ∈ zs, SOk z)
theorem It0.to1 {st : Addr} {H : Hp} {v : V} (h : It0 st H v) : It1 st H v := by
  rcases h with h | h | h | h
  · exact .inl h
  · exact .inr (.inl h)
  · exact .inr (.inr (.inl h))
  · exact .inr (.inr (.inr (.inl h)))
theorem It0.kp {st : Addr} {H H' : Hp} {v : V} (k : Kp st H H') (h : It0 st H v) : It0 st H' v := by
  rcases h with h | h | h | ⟨a, zs, h1, h2, h3⟩
  · exact .inl h
  · exact .inr (.inl h)
  · exact .inr (.inr (.inl h))
  · exact .inr (.inr (.inr ⟨a, zs, h1, k _ _ h2, h3⟩))
/-- any value -/
def Cd (st : Addr) (H : Hp) (v : V) : Prop := (∃ a xs, v = .ref a ∧ Ap H st a (.tup xs) ∧ ∀ x ∈ xs, It1 st H x) ∨ (∃ z, v = .str z) ∨ v = .non ∨ (∃ b, v = .bl b) ∨ (∃ i, v = .int i) ∨ (∃ a xs, v = .ref a ∧ Ap H st a (.lst xs)) ∨ (∃ a kvs, v = .ref a ∧ Ap H st a (.dK kvs))
theorem It1.kp {st : Addr} {H H' : Hp} {v : V} (k : Kp st H H') (h : It1 st H v) : It1 st H' v := by
  rcases h with h | h | h | ⟨a, zs, h1, h2, h3⟩ | ⟨a, zs, h1, h2, h3⟩
  · exact .inl h
  · exact .inr (.inl h)
  · exact .inr (.inr (.inl h))
  · exact .inr (.inr (.inr (.inl ⟨a, zs, h1, k _ _ h2, h3⟩)))
  · exact .inr (.inr (.inr (.inr ⟨a, zs, h1, k _ _ h2, h3⟩)))
theorem Cd.kp {st : Addr} {H H' : Hp} {v : V} (k : Kp st H H') (h : Cd st H v) : Cd st H' v := by
  rcases h with ⟨a, xs, h1, h2, h3⟩ | h | h | h | h | ⟨a, xs, h1, h2⟩ | ⟨a, xs, h1, h2⟩
  · exact .inl ⟨a, xs, h1, k _ _ h2, fun x hx => (h3 x hx).kp k⟩
  · exact .inr (.inl h)
  · exact .inr (.inr (.inl h))
  · exact .inr (.inr (.inr (.inl h)))
  · exact .inr (.inr (.inr (.inr (.inl h))))
  · exact .inr (.inr (.inr (.inr (.inr (.inl ⟨a, xs, h1, k _ _ h2⟩)))))
  · exact .inr (.inr (.inr (.inr (.inr (.inr ⟨a, xs, h1, k _ _ h2⟩)))))
theorem It1.dp {K : PySem.W.Frag} {st : Addr} {H : Hp} {v : V} (h : It1 st H v) : ∃ d, Dp K H v d ∧ GoodD 1 d := by
  rcases h with ⟨z, rfl, hz⟩ | ⟨i, rfl⟩ | rfl | ⟨a, zs, rfl, h2, h3⟩ | ⟨a, zs, rfl, h2, h3⟩
  · exact ⟨_, .str z, good_str hz⟩
  · exact ⟨_, .int i, good_int i⟩
  · exact ⟨_, .non, good_none⟩
  · exact ⟨_, dp_strsT (Evl.st_of h2.1), good_strsT h3⟩
  · exact ⟨_, dp_strs (Evl.sq_of h2.1), good_strs h3⟩
theorem its_dp {K : PySem.W.Frag} {st : Addr} {H : Hp} : ∀ {xs : List V}, (∀ x ∈ xs, It1 st H x) → ∃ ds, DpAll K H xs ds ∧ ∀ d ∈ ds, GoodD 1 d
  | [], _ => ⟨[], .nil, fun _ h => by cases h⟩
  | x :: xs, h => by
    obtain ⟨d, h1, h2⟩ := (h x List.mem_cons_self).dp (K := K)
    obtain ⟨ds, h3, h4⟩ := its_dp (K := K) fun y hy => h y (List.mem_cons_of_mem _ hy)
    refine ⟨d :: ds, .cons h1 h3, fun e he => ?_⟩
    rcases List.mem_cons.mp he with rfl | he
    · exact h2
    · exact h4 e he
section
variable {K : PySem.W.Frag} {st a b : Addr} {H : Hp} {n : Nat} {xs ys : List V} {Q : VK}
theorem catA_ap (D : DS H st n) (ha : Ap H st a (.tup xs)) (hb : Ap H st b (.tup ys)) (hl : xs.length + ys.length ≤ 100000) (q : ∀ r H', DS H' st n → Kp st H H' → Ap H' st r (.tup (xs ++ ys)) → Q (.ref r) H') : rCatA K (.ref a) (.ref b) H Q := by
  refine ⟨a, b, xs, ys, rfl, rfl, Evl.st_of ha.1, Evl.st_of hb.1, Evl.sz_of hl, fun h0 => ?_, fun _ h0 => ?_, fun _ _ p np => ?_⟩
  · subst h0
    exact q b H D (Kp.refl _ _) hb
  · subst h0
    refine q a H D (Kp.refl _ _) ?_
    rw [List.append_nil]
    exact ha
  · exact q p _ (D.new np) (D.newK np) (D.fresh np)
theorem slA_ap {k : Nat} (D : DS H st n) (ha : Ap H st a (.tup xs)) (q : ∀ r H', DS H' st n → Kp st H H' → Ap H' st r (.tup (xs.take k)) → Q (.ref r) H') : rSlA K (.ref a) none (some (k : Int)) H Q := by
  refine ⟨a, xs, rfl, Evl.st_of ha.1, fun hw => ?_, fun _ p np => ?_⟩
  · refine q a H D (Kp.refl _ _) ?_
    rw [← cutV_to]
    have : cutV xs none (some (k : Int)) = xs := by
      unfold cutV
      rw [hw.1, hw.2, List.drop_zero, Nat.sub_zero, List.take_of_length_le (Nat.le_refl _)]
    rw [this]
    exact ha
  · rw [cutV_to]
    exact q p _ (D.new np) (D.newK np) (D.fresh np)
end
end Lw

namespace Lw
open PySem PySem.Spec PyProof.Rows L2
open PySem.Froz (SD sObj TxOk addTx tailTx)
/-! ### sets of texts -/
/-- at a: a set that holds the texts l -/
def SetT (P : Program) (w : World) (h : Heap) (a : Addr) (l : List Str) : Prop :=
  ∃ D : SD, h.get? a = some (sObj "set" D) ∧ TxOk P w D l ∧ l.Nodup ∧ Ris D.2.2.place.toList ∧ (w.params.followText "set-order" = true ∨ D.2.2.led = true)
theorem SetT.at {P : Program} {w : World} {h h' : Heap} {a : Addr} {l : List Str} (k : ∀ o, h.get? a = some o → h'.get? a = some o) (R : SetT P w h a l) : SetT P w h' a l := by
  obtain ⟨D, h1, r⟩ := R
  exact ⟨D, k _ h1, r⟩
theorem tail_ris (ep : Nat) (es : Array (Int × Value)) (t : SetTable) (d : Bool) (r : Ris t.place.toList) : Ris (tailTx ep es t d).2.2.place.toList := by
  unfold tailTx
  split
  · exact relayAll_ris _ _ _
  · exact r
theorem tail_led (ep : Nat) (es : Array (Int × Value)) (t : SetTable) (d : Bool) : (tailTx ep es t d).2.2.led = t.led := by
  unfold tailTx
  split
  · exact relayAll_led _ _ _
  · rfl
theorem addTx_ris (z : Int) (v : Value) (D : SD) (r : Ris D.2.2.place.toList) : Ris (addTx z v D).2.2.place.toList := by
  refine tail_ris _ _ _ _ ?_
  have h1 := layNew_ris D.2.2 D.1 z v r
  split
  · exact h1
  · exact h1
theorem addTx_led (z : Int) (v : Value) (D : SD) : (addTx z v D).2.2.led = D.2.2.led := by
  refine (tail_led _ _ _ _).trans ?_
  have h1 := layNew_led D.2.2 D.1 z v
  split
  · exact h1
  · exact h1
section
variable {P : Program} {w : World} {A : Around} {E : Value → Shared → Prop} {s : Shared} {a : Addr} {l : List Str} {k : Str} {u : Tok} {Q : Bool → Shared → Prop}
/-- a text that is there already is added: nothing comes of it -/
theorem old_add {D : SD} (ho : s.heap.get? a = some (sObj "set" D)) (F : TxOk P w D l) (hk : k ∈ l) (hb : l.length < scanBound) (h : Q false s) : wpAny (model P w) A (setAddHashed a (.str k u) (hashStr w k)) Q E s := by
  obtain ⟨es, ep, t⟩ := D
  have hd : (sObj "set" (es, ep, t)).data = .set es ep t := rfl
  have hf : t.fits es.size = true := F.fit
  have hel : ElemsOf (strKind P w) es.toList := F.el
  have hsz : es.size = l.length := F.sz
  have hkey : (strKind P w).is k (.str k u) = true := PySem.Froz.is_str k u
  obtain ⟨e, he, hie⟩ := (F.mem k).mp hk
  unfold setAddHashed setAddHashedIn
  refine wpAny_holding (wpAny_bind (wpAny_setState_of ho hd hf ?_))
  dsimp only
  rw [byScan_of rfl (by omega : es.size < scanBound) hel]
  simp only [↓reduceIte]
  unfold setAddByScan
  refine wpAny_bind (wpAny_bind (wpAny_rule (wpAny_bind (wpAny_setScan_of (knd := strKind P w) (k := k) hkey ho hd hf hel ?_))))
  cases hr : List.findIdx? (fun e => (strKind P w).is k e.2) es.toList with
  | none =>
    have := List.findIdx?_eq_none_iff.mp hr e he
    rw [hie] at this
    cases this
  | some j => exact wpAny_pure (wpAny_pure h)
theorem setT_add (R : SetT P w s.heap a l) (hb : l.length + 1 < scanBound)
    (h : ∀ b h' l', Heap.SameBut a s.heap h' → SetT P w h' a l' → (∀ z, z ∈ l' ↔ z = k ∨ z ∈ l) → l'.length ≤ l.length + 1 → Q b { s with heap := h' }) : wpAny (model P w) A (setAddHashed a (.str k u) (hashStr w k)) Q E s := by
  obtain ⟨D, ho, F, nd, r, hl⟩ := R
  by_cases hk : k ∈ l
  · refine old_add ho F hk (by omega) (h false s.heap l (Heap.SameBut.refl a s.heap) ⟨D, ho, F, nd, r, hl⟩ (fun z => ⟨.inr, fun q => q.elim (fun e => by rw [e]; exact hk) id⟩) (by omega))
  · refine PySem.Froz.add_x ho F hk hb (h true _ (k :: l) (Heap.SameBut.update s.heap a _) ⟨_, PySem.Froz.get_upd _ ho rfl, PySem.Froz.add_ok u F, List.nodup_cons.mpr ⟨hk, nd⟩, addTx_ris _ _ _ r, ?_⟩ (fun z => List.mem_cons) (Nat.le_refl _))
    rw [addTx_led]
    exact hl
end
section
variable {P : Program} {w : World} {A : Around} {I S : Addr} {fp wr : List Addr} {G : Array GenState → Array GenState → Prop} {n : Nat} {Pv : Nat → Value → Prop} {St : Nat → Shared → Prop} {R : Result → Shared → Prop}
/-- the texts of an iterator go into the set -/
theorem set_takes (W : WalksS P w A.in1 I fp wr G n Pv St) (out : S ∉ fp) (ws : List Str) (hn : n = ws.length) (hb : n + 1 < scanBound) (hval : ∀ i v, Pv i v → ∃ k u, ws[i]? = some k ∧ v = .str k u) :
    ∀ (m i : Nat) (s : Shared) (l : List Str), i + m = n → St i s → SetT P w s.heap S l → (∀ z, z ∈ l ↔ z ∈ ws.take i) → l.length ≤ i →
      (∀ s' l', Moved (S :: wr) G s s' → SetT P w s'.heap S l' → (∀ z, z ∈ l' ↔ z ∈ ws) → l'.length ≤ n → R (.ok (.ret .none)) s') →
      codeAny (model P w) A (.builtin "set.update.loop" ⟨[.ref S, .ref I], []⟩) R s := by
  have off : S ∉ wr := fun h => out (W.sub _ h)
  have more : ∀ b ∈ wr, b ∈ S :: wr := fun b h => List.mem_cons_of_mem _ h
  intro m
  induction m with
  | zero =>
    intro i s l hi hst hS hl hc hR
    obtain rfl : i = n := by omega
    refine codeAny_builtin F.entry_set_update_loop ?_
    rw [Around.under_plainId F.plain_set_update_loop _]
    show wpAny _ A.in1 (pyNext (.ref I) >>= _) _ _ s
    refine wpAny_bind (W.done s _ _ hst fun s' hm => wpAny_pure ?_)
    rw [List.take_of_length_le (Nat.le_of_eq hn.symm)] at hl
    exact hR s' l (hm.mono more) (hS.at fun o e => hm.heap S o off e) hl hc
  | succ m ih =>
    intro i s l hi hst hS hl hc hR
    refine codeAny_builtin F.entry_set_update_loop ?_
    rw [Around.under_plainId F.plain_set_update_loop _]
    show wpAny _ A.in1 (pyNext (.ref I) >>= _) _ _ s
    refine wpAny_bind (W.item i s _ _ (by omega) hst fun v s' hP hst' hm => ?_)
    obtain ⟨z, u, hz, rfl⟩ := hval i v hP
    show wpAny _ A.in1 (holding [Value.str z u] (setAdd S (.str z u)) >>= _) _ _ s'
    refine wpAny_bind (wpAny_holding ?_)
    unfold setAdd
    refine wpAny_holding (wpAny_bind ((strKind P w).pyHash (k := z) (PySem.Froz.is_str z u) ?_))
    refine setT_add (s := { s' with toks := s'.toks + 1 }) (l := l) (hS.at fun o e => hm.heap S o off e) (by omega) fun b h' l' sb hS2 hl2 hc2 => ?_
    refine wpAny_pure ⟨plainId_quiet F.plain_set_update_loop _, ih (i + 1) _ l' (by omega) (W.frame _ s' _ _ hst' (Nat.le_succ _) fun b hb o e => (sb.2 b fun q : b = S => out (by rw [← q]; exact hb)).trans e) hS2 (fun y => ?_) (by omega) fun s2 l2 hm2 => ?_⟩
    · rw [hl2 y, hl y, List.take_add_one, hz, List.mem_append]
      simp [or_comm]
    · exact hR s2 l2 (Moved.trans W.gtrans ((hm.mono more).then_heap (Nat.le_succ _) fun b o hb e => (sb.2 b fun q : b = S => hb (by rw [q]; exact List.mem_cons_self)).trans e) hm2)
end
section
variable {P : Program} {w : World} {A : Around} {E : Value → Shared → Prop} {s : Shared}
/-- set(x): the new set, then its __init__ -/
theorem callType_set {x : Value} {Q : Value → Shared → Prop}
    (h : wpAny (model P w) A.in1.in1 (Builtin.«set.__init__» ⟨[.ref s.heap.objs.size, x], []⟩)
        (fun fin s' => match fin with | .done f => wants (fun r s₂ => r = .none ∧ Q (.ref s.heap.objs.size) s₂) E (.ok f) s' | .again c' => c'.quiet = true ∧ codeAny (model P w) A.in1 c' (wants (fun r s₂ => r = .none ∧ Q (.ref s.heap.objs.size) s₂) E) s')
        (fun e s' => wants (fun r s₂ => r = .none ∧ Q (.ref s.heap.objs.size) s₂) E (.error e) s') { s with heap := s.heap.push { cls := .type "set", dict := none, data := .set #[] 0 (.fresh 0 0 (!w.params.followText "set-order")) } }) :
    wpAny (model P w) A (call (.type "set") [x]) Q E s := by
  have ft := F.called_set
  obtain ⟨c, tl, hmro⟩ := ft.mro
  have hmade := ft.made
  have hsub := ft.sub
  have hct := F.typeCall_set_1 x
  refine wpAny_call (codeAny_of_tree ?_)
  show wpAny _ _ (callAny (.type "set") _) _ _ _
  refine wpAny_pure ⟨Code.quiet_builtin _ (by decide +kernel), codeAny_builtin F.entry_type_call ?_⟩
  rw [Around.under_plain (weight_type_call_type "set" [x] []) rfl]
  have h1 := ft.notType
  have h2 := ft.canCreate
  repeat (any_goals (first | assumption | wp_step))
  refine codeAny_mono (code_set_led1 x (E := E) (Q₁ := fun obj s₁ => obj = .ref s.heap.objs.size ∧ s₁ = { s with heap := s.heap.push { cls := .type "set", dict := none, data := .set #[] 0 (.fresh 0 0 (!w.params.followText "set-order")) } }) ⟨rfl, rfl⟩) fun r s₁ hr => ?_
  cases r with
  | error e => exact hr
  | ok fl =>
    cases fl with
    | ret obj =>
      obtain ⟨rfl, rfl⟩ := hr
      have isSet : Shared.TypeIs { s with heap := s.heap.push { cls := .type "set", dict := none, data := .set #[] 0 (.fresh 0 0 (!w.params.followText "set-order")) } } (.ref s.heap.objs.size) "set" := ⟨_, Heap.get?_push_size _ rfl, rfl⟩
      have hli := ft.init.lookup
      have hbi := ft.init.bind (.ref s.heap.objs.size)
      repeat (any_goals (first | assumption | wp_step))
      refine codeAny_mono (codeAny_call_builtin (R := wants (fun r s₂ => r = .none ∧ Q (.ref s.heap.objs.size) s₂) E) ft.init.plain F.entry_set_init (check_set_init_1 isSet h)) fun r2 s2 hr2 => ?_
      cases r2 with
      | error e => exact hr2
      | ok fl2 =>
        cases fl2 with
        | ret r =>
          obtain ⟨rfl, hq⟩ := hr2
          repeat (any_goals (first | assumption | wp_step))
        | _ => exact hr2.elim
    | _ => exact hr.elim
/-- set(list of texts) -/
theorem call_setTx {p : Addr} {items : Array Value} {ws : List Str} {Q : Value → Shared → Prop} (hh : A.handled = none) (hl : s.heap.IsList p items) (hn : items.size = ws.length) (hb : ws.length + 1 < scanBound) (hval : ∀ (i : Nat) (v : Value), items[i]? = some v → ∃ k u, ws[i]? = some k ∧ v = .str k u)
    (h : ∀ (h' : Heap) (tk : Nat) (l : List Str), SetT P w h' s.heap.objs.size l → (∀ z, z ∈ l ↔ z ∈ ws) → l.length ≤ ws.length → (∀ b o, s.heap.get? b = some o → h'.get? b = some o) → Q (.ref s.heap.objs.size) { s with heap := h', toks := tk }) :
    wpAny (model P w) A (call (.type "set") [.ref p]) Q E s := by
  refine callType_set ?_
  have hS : (s.heap.push { cls := .type "set", dict := none, data := .set #[] 0 (.fresh 0 0 (!w.params.followText "set-order")) }).get? s.heap.objs.size = some { cls := .type "set", dict := none, data := .set #[] 0 (.fresh 0 0 (!w.params.followText "set-order")) } := Heap.get?_push_size _ rfl
  obtain ⟨ol, hol, hcl, nl, hdl⟩ := hl
  obtain ⟨ocls, odict, odata, oslots⟩ := ol
  simp only at hcl hdl
  subst hcl
  subst hdl
  have own : (s.heap.push { cls := .type "set", dict := none, data := .set #[] 0 (.fresh 0 0 (!w.params.followText "set-order")) }).get? p = some { cls := .type "list", dict := odict, data := .seq items nl, slots := oslots } := Heap.get?_push_of_some _ hol
  have isL : (s.heap.push { cls := .type "set", dict := none, data := .set #[] 0 (.fresh 0 0 (!w.params.followText "set-order")) }).IsList p items := ⟨_, own, rfl, nl, rfl⟩
  have s1 := F.sub_list_set
  have s2 := F.sub_list_frozenset
  have s3 : (Value.type "list" == Value.type "dict") = false := by decide
  unfold Builtin.«set.__init__» noKeywords Builtin.Frozenset.updateFrom
  generalize hPI : pyIter = PI
  wp_walk
  subst hPI
  refine wpAny_pyIter_list isL ?_
  refine wpAny_bind (wpAny_runValue ?_)
  have lt : p < s.heap.objs.size := Heap.lt_size hol
  have hz : (s.heap.push { cls := .type "set", dict := none, data := .set #[] 0 (.fresh 0 0 (!w.params.followText "set-order")) }).objs.size = s.heap.objs.size + 1 := Heap.size_push ..
  have calm : A.in1.in1.in1.handled = none := by simp [hh]
  have neI : p ≠ (s.heap.push { cls := .type "set", dict := none, data := .set #[] 0 (.fresh 0 0 (!w.params.followText "set-order")) }).objs.size := by
    rw [hz]
    exact Nat.ne_of_lt (Nat.lt_succ_of_lt lt)
  have outS : s.heap.objs.size ∉ [(s.heap.push { cls := .type "set", dict := none, data := .set #[] 0 (.fresh 0 0 (!w.params.followText "set-order")) }).objs.size, p] := by
    rw [hz]
    intro q
    rcases List.mem_cons.mp q with q | q
    · exact absurd q (Nat.ne_of_lt (Nat.lt_succ_self _))
    · exact absurd (List.mem_singleton.mp q) (Nat.ne_of_gt lt)
  refine set_takes ((Walks.list calm _ p neI items).toS) outS ws hn (by omega) hval items.size 0 _ [] (by omega) ⟨⟨_, Heap.get?_push_size _ rfl, rfl, rfl⟩, isL.push _⟩ ⟨(#[], 0, .fresh 0 0 (!w.params.followText "set-order")), Heap.get?_push_of_some _ hS, PySem.Froz.TxOk.nil (by rfl), List.nodup_nil, List.Pairwise.nil, ?_⟩ (fun z => by simp) (Nat.le_refl _) fun s' l' hm hS' hl' hc' => ?_
  · show _ ∨ (!w.params.followText "set-order") = true
    cases w.params.followText "set-order" <;> simp
  · obtain ⟨h', g2, d2, tk2, os2⟩ := s'
    have e1 : g2 = s.gens := hm.gens
    have e2 : d2 = s.drawn := hm.drawn
    have e3 : os2 = s.os := hm.os
    subst e1 e2 e3
    refine wpAny_pure (wpAny_pure ⟨rfl, h h' tk2 l' hS' hl' (by omega) fun b o e => hm.heap b o ?_ (Heap.get?_push_of_some _ (Heap.get?_push_of_some _ e))⟩)
    have lb := Heap.lt_size e
    rw [hz]
    intro q
    rcases List.mem_cons.mp q with q | q
    · exact absurd q (Nat.ne_of_lt lb)
    · exact absurd (List.mem_singleton.mp q) (Nat.ne_of_lt (Nat.lt_succ_of_lt lb))
end
end Lw

namespace Lw
open PySem PySem.Spec PyProof.Rows L2
open PySem.Froz (SD sObj TxOk addTx tailTx)
theorem perm_of_same : ∀ {l bs : List Str}, l.Nodup → (∀ z ∈ l, z ∈ bs) → bs.length ≤ l.length → bs.Perm l
  | [], bs, _, _, h => by
    rw [List.length_eq_zero_iff.mp (Nat.le_zero.mp h)]
  | x :: l, bs, nd, h, hl => by
    obtain ⟨hx, nd'⟩ := List.nodup_cons.mp nd
    have hm := h x List.mem_cons_self
    refine (List.perm_cons_erase hm).trans (List.Perm.cons x (perm_of_same nd' (fun z hz => ?_) ?_))
    · exact (List.mem_erase_of_ne fun e => hx (by rw [← e]; exact hz)).mpr (h z (List.mem_cons_of_mem _ hz))
    · rw [List.length_erase_of_mem hm]
      rw [List.length_cons] at hl
      omega
theorem srt_congr {a b : List Str} (h : a.Perm b) : srt a = srt b := by
  refine List.Perm.eq_of_pairwise (le := fun a b : Str => decide (a.cps.toList ≤ b.cps.toList) = true) (fun x y _ _ h1 h2 => ?_) (srt_sorted a) (srt_sorted b) (((srt_perm a).trans h).trans (srt_perm b).symm)
  exact str_ext (List.le_antisymm (of_decide_eq_true h1) (of_decide_eq_true h2))
theorem isStr_eq {z k : Str} {u : Tok} (h : Value.isStrOf z (.str k u) = true) : z = k := by
  unfold Value.isStrOf at h
  have := eq_of_beq h
  first
    | exact this
    | exact this.symm
/-- the text of a value -/
def strOf : Value → Str
  | .str k _ => k
  | _ => ""
section
open PySem.W PySem.Calls
variable {P : Program} {w : World} {A : Around} {E : Value → Shared → Prop} {s : Shared}
theorem each_str : ∀ {vs : List Value}, (∀ v ∈ vs, ∃ k u, v = .str k u) → EachIs (fun v (z : Str) => ∃ u, v = .str z u) vs (vs.map strOf)
  | [], _ => .nil
  | v :: vs, h => by
    obtain ⟨k, u, rfl⟩ := h v List.mem_cons_self
    exact .cons ⟨u, rfl⟩ (each_str fun y hy => h y (List.mem_cons_of_mem _ hy))
/-- sorted(s), s a set of texts: a new list -/
theorem sorted_setTx {a : Addr} {l : List Str} {Q : Value → Shared → Prop} (R : SetT P w s.heap a l) (hh : A.handled = none) (hb : l.length < 1000) (hu : A.units + 64 < cLine)
    (h : ∀ s' p (out : List Value) (c : Nat), (∀ b o, s.heap.get? b = some o → s'.heap.get? b = some o) → s'.gens = s.gens → s'.os = s.os → s.heap.objs.size ≤ p → s'.heap.get? p = some (seqObj "list" out.toArray c) →
      EachIs (fun v (z : Str) => ∃ u, v = .str z u) out (srt l) → Q (.ref p) s') :
    wpAny (model P w) A (call (.builtin "sorted") [.ref a]) Q E s := by
  obtain ⟨⟨es, ep, t⟩, ho, F, nd, ri, led⟩ := R
  have hsz : es.size = l.length := F.sz
  have hsb : es.size < scanBound := by
    have : (1000 : Nat) < scanBound := by unfold scanBound; decide
    omega
  refine Calls.call_function_entry kind_sorted plain_sorted entry_sorted (args_sorted1 _) ?_
  unfold Builtin.«sorted»
  refine wpAny_bind (m := checkCount "sorted" 1 1 _) (wpAny_pure ?_)
  refine wpAny_bind (collect_set (A := A.in1) hh ⟨_, ho, rfl, rfl⟩ F.fit hsb ri led fun s1 vs k1 hz g1 o1 pm => ?_)
  have isStr : ∀ v ∈ vs, ∃ k u, v = .str k u := fun v hv => by
    obtain ⟨e, he, rfl⟩ := List.mem_map.mp (pm.mem_iff.mp hv)
    obtain ⟨⟨k, hk, _⟩, _⟩ := F.el e he
    have hk' : Value.isStrOf k e.2 = true := hk
    cases hv2 : e.2 with
    | str z u => exact ⟨z, u, rfl⟩
    | _ =>
      rw [hv2] at hk'
      cases hk'
  have hvl : vs.length = l.length := by rw [pm.length_eq, List.length_map, Array.length_toList]; exact hsz
  have pl : (vs.map strOf).Perm l := perm_of_same nd (fun z hz => by
    obtain ⟨e, he, hie⟩ := (F.mem z).mp hz
    have hv := pm.mem_iff.mpr (List.mem_map_of_mem he)
    obtain ⟨k, u, hk⟩ := isStr e.2 hv
    rw [hk] at hie hv
    have : z = k := by
      have h2 : Value.isStrOf z (.str k u) = true := hie
      exact (isStr_eq h2)
    rw [this]
    exact List.mem_map_of_mem (f := strOf) hv) (by rw [List.length_map, hvl]; exact Nat.le_refl _)
  have hlL : vs.length ≤ sizeLine := by rw [hvl]; exact Evl.sz_of (by omega)
  refine wpAny_bind (wpAny_newList ?_ hlL)
  have hoL : (s1.heap.push (seqObj "list" vs.toArray 0)).get? s1.heap.objs.size = some (seqObj "list" vs.toArray 0) := Heap.get?_push_size _ rfl
  have e := each_str isStr
  have er : ∀ h0 : Heap, EachIs (fun v (z : Str) => ∃ as, Reads h0 v (PyData.str z) as) vs (vs.map strOf) := fun h0 => e.mono fun v z ⟨u, hv⟩ => ⟨[], by rw [hv]; exact .str z u⟩
  refine wpAny_bind (wpAny_holding (wpAny_call_entry_kw slot_list_sort ⟨_, hoL, rfl⟩ entry_list_sort ?_ (args_list_sort _)))
  refine list_sort_vals (s := { s1 with heap := s1.heap.push (seqObj "list" vs.toArray 0) }) hoL (SortsAt.data (each_map (R := fun v d => ∃ as, Reads (sortingHeap (s1.heap.push (seqObj "list" vs.toArray 0)) s1.heap.objs.size vs) v d as) PyData.str (er _)) (AllAlike.of fun _ _ => rfl) (Sortable.others fun _ => ⟨(by intro h; cases h), (by intro _ h; cases h)⟩) (bound_map fun z hz => ?_)) hlL ?_
  · show A.units + 2 + (PyData.str z).depth < cLine
    simp only [PyData.depth]
    omega
  · refine ⟨.none, rfl, ?_⟩
    obtain ⟨c, hc⟩ := sortedHeap_at (vs := vs) (out := (sortVals (dataKind (sortingHeap (s1.heap.push (seqObj "list" vs.toArray 0)) s1.heap.objs.size vs) ((vs.map strOf).map PyData.str)) false vs vs).toArray) hoL
    refine wpAny_pure ⟨_, rfl, h _ s1.heap.objs.size _ c (fun b u e2 => ?_) g1 o1 hz hc ?_⟩
    · have q := k1 b u e2
      have lt := Heap.lt_size q
      show (sortedHeap (s1.heap.push (seqObj "list" vs.toArray 0)) s1.heap.objs.size vs _).get? b = some u
      rw [sortedHeap_old (Nat.ne_of_lt lt) (by rw [size_push']; exact Nat.lt_succ_of_lt lt)]
      exact Heap.get?_push_of_some _ q
    · rw [← srt_congr pl]
      exact sortVals_data false e (er _) (AllAlike.of fun _ _ => rfl)
end
end Lw

namespace Lw
open PySem PySem.Spec PyProof.Rows L2
/-! ### sets of texts, over the layer -/
def SetTO (P : Program) (w : World) (a : Addr) (l : List Str) : HO := .ext fun h => SetT P w h a l
def rSetTx (K : PySem.W.Frag) (P : Program) (w : World) : List V → Hp → VK → Prop := fun vs H Q => ∃ (p : Addr) (ws : List Str), vs = [.ref p] ∧ SqL K H p (ws.map V.str) ∧ ws.length < 1000 ∧ ∀ a l, H a = none → (∀ z, z ∈ l ↔ z ∈ ws) → l.Nodup → Q (.ref a) (upd H a (SetTO P w a l))
def rSortTx (P : Program) (w : World) : List V → Hp → VK → Prop := fun vs H Q => ∃ (a : Addr) (l : List Str), vs = [.ref a] ∧ H a = some (SetTO P w a l) ∧ l.length < 1000 ∧ ∀ p, H p = none → Q (.ref p) (upd H p (.lst ((srt l).map V.str)))
section
variable {X : Cx}
theorem SetT.nodup {P : Program} {w : World} {h : Heap} {a : Addr} {l : List Str} (R : SetT P w h a l) : l.Nodup := by
  obtain ⟨D, _, _, nd, _⟩ := R
  exact nd
theorem setTO_ok {P : Program} {w : World} {H : Hp} {h : Heap} {a : Addr} {l : List Str} (R : SetT P w h a l) : ObjOk P w H h a (SetTO P w a l) := by
  obtain ⟨D, h1, r⟩ := id R
  exact ⟨R, ⟨_, h1⟩, fun h2 h3 q k => SetT.at k q⟩
theorem setTO_get {pins : List (Addr × Obj)} {σ : L2.St} {H : Hp} {s : Shared} {a : Addr} {l : List Str} (I : L2.Inv X pins σ H s) (ha : H a = some (SetTO X.prog X.w a l)) : SetT X.prog X.w s.heap a l := by
  have x : ObjOk X.prog X.w H s.heap a (.ext fun h => SetT X.prog X.w h a l) := I.hok a _ ha
  exact x.1
theorem cr_setTx (hc : X.calm = true) : CallR X (.type "set") (rSetTx X.K X.prog X.w) := by
  intro pins s σ H vs us Q I r h
  obtain ⟨p, ws, rfl, hq, hl, q⟩ := h
  obtain ⟨u, rfl, rx⟩ := vals1 r
  cases rx
  obtain ⟨its, rv, tp, hz⟩ := I.list hq
  have hn : its.length = ws.length := by rw [← rv.length, List.length_map]
  refine call_setTx (I.ok.hd hc) tp.isList (ws := ws) (by rw [List.size_toArray]; exact hn) (by unfold scanBound; omega) (fun i v hv => ?_) fun h' tk l hS hm hc' kk => ?_
  · have hv' : its[i]? = some v := by simpa using hv
    have hi : i < ws.length := by
      rw [← hn]
      exact (List.getElem?_eq_some_iff.mp hv').1
    obtain ⟨v2, e2, r2⟩ := rv.get (i := i) (x := .str ws[i]) (by rw [List.getElem?_map, List.getElem?_eq_getElem hi]; rfl)
    rw [hv'] at e2
    cases e2
    obtain ⟨t, rfl⟩ := r2
    exact ⟨ws[i], t, List.getElem?_eq_getElem hi, rfl⟩
  · exact ⟨.ref _, _, I.laid (t' := tk) (o := SetTO X.prog X.w s.heap.objs.size l) (fun b o e => kk b o e) (Nat.le_refl _) (setTO_ok hS), rfl, q _ l (I.hok.fresh (Nat.le_refl _)) hm hS.nodup⟩
theorem vals_each : ∀ {out : List Value} {ws : List Str}, PySem.W.EachIs (fun v (z : Str) => ∃ u, v = .str z u) out ws → Vals (ws.map V.str) out
  | _, _, .nil => .nil
  | _, _, .cons h t => .cons h (vals_each t)
theorem cr_sortTx (hc : X.calm = true) (hu : X.A.units + 64 < cLine) : CallR X (.builtin "sorted") (rSortTx X.prog X.w) := by
  intro pins s σ H vs us Q I r h
  obtain ⟨a, l, rfl, ha, hl, q⟩ := h
  obtain ⟨u, rfl, rx⟩ := vals1 r
  cases rx
  refine sorted_setTx (setTO_get I ha) (I.ok.hd hc) hl hu fun s' p out c k g o hp hat he => ?_
  have rv := vals_each he
  have hz : ((srt l).map V.str).length ≤ sizeLine := by
    rw [List.length_map, srt_len]
    exact Evl.sz_of (by omega)
  have np : H p = none := I.hok.fresh hp
  have J : Inv X pins σ (upd H p (.lst ((srt l).map V.str))) { s with heap := s'.heap, gens := s'.gens, drawn := s'.drawn, toks := s'.toks } :=
    I.call (ch := []) (Un.laid k hp np) (I.hok.laid k hp ⟨hz, out, c, rv, hat⟩) (by rw [g]; exact I.bare) (fun _ z => nomatch z)
  have e : s' = { s with heap := s'.heap, gens := s'.gens, drawn := s'.drawn, toks := s'.toks } := by
    cases s'
    cases s
    cases o
    rfl
  rw [e]
  exact ⟨.ref p, _, J, rfl, q p np⟩
end
end Lw

namespace Lw
open PySem PySem.Spec PyProof.Rows L2
/-! ### without doubles, in order -/
def dd : List Str → List Str
  | [] => []
  | x :: r => if x ∈ r then dd r else x :: dd r
theorem dd_mem : ∀ {l : List Str} {z : Str}, z ∈ dd l ↔ z ∈ l
  | [], _ => Iff.rfl
  | x :: r, z => by
    unfold dd
    split
    · rw [dd_mem, List.mem_cons]
      exact ⟨.inr, fun h => h.elim (fun e => by rw [e]; assumption) id⟩
    · rw [List.mem_cons, List.mem_cons, dd_mem]
theorem dd_nodup : ∀ l : List Str, (dd l).Nodup
  | [] => List.nodup_nil
  | x :: r => by
    unfold dd
    split
    · exact dd_nodup r
    · rename_i h
      exact List.nodup_cons.mpr ⟨fun k => h (dd_mem.mp k), dd_nodup r⟩
def sd (l : List Str) : List Str := srt (dd l)
theorem len_le_of {l : List Str} (nd : l.Nodup) : ∀ {b : List Str}, (∀ z ∈ l, z ∈ b) → l.length ≤ b.length := fun {b} h => by
  induction l generalizing b with
  | nil => exact Nat.zero_le _
  | cons x r ih =>
    obtain ⟨hx, nd'⟩ := List.nodup_cons.mp nd
    have hm := h x List.mem_cons_self
    have := ih nd' (b := b.erase x) fun z hz => (List.mem_erase_of_ne fun e => hx (by rw [← e]; exact hz)).mpr (h z (List.mem_cons_of_mem _ hz))
    rw [List.length_erase_of_mem hm] at this
    have hp : 0 < b.length := List.length_pos_of_mem hm
    rw [List.length_cons]
    omega
theorem sd_of {l ws : List Str} (nd : l.Nodup) (h : ∀ z, z ∈ l ↔ z ∈ ws) : srt l = sd ws :=
  srt_congr (perm_of_same (dd_nodup ws) (fun z hz => (h z).mpr (dd_mem.mp hz)) (len_le_of nd fun z hz => dd_mem.mpr ((h z).mp hz)))
/-! ### the parts of a split text -/
theorem joinL_part {S : List Nat} : ∀ {ps : List (List Nat)} {p : List Nat}, p ∈ ps → p.length ≤ (TL.joinL S ps).length ∧ ∀ c ∈ p, c ∈ TL.joinL S ps
  | [], _, h => by cases h
  | [q], p, h => by
    rw [List.mem_singleton.mp h]
    exact ⟨Nat.le_refl _, fun c hc => hc⟩
  | q :: r :: t, p, h => by
    show p.length ≤ (q ++ (S ++ TL.joinL S (r :: t))).length ∧ ∀ c ∈ p, c ∈ q ++ (S ++ TL.joinL S (r :: t))
    rcases List.mem_cons.mp h with rfl | h
    · refine ⟨by rw [List.length_append]; omega, fun c hc => List.mem_append.mpr (.inl hc)⟩
    · obtain ⟨h1, h2⟩ := joinL_part (S := S) h
      refine ⟨by rw [List.length_append, List.length_append]; omega, fun c hc => List.mem_append.mpr (.inr (List.mem_append.mpr (.inr (h2 c hc))))⟩
theorem joinL_len {S : List Nat} (hS : 0 < S.length) : ∀ ps : List (List Nat), ps.length ≤ (TL.joinL S ps).length + 1
  | [] => Nat.zero_le _
  | [q] => by
    show 1 ≤ q.length + 1
    omega
  | q :: r :: t => by
    have := joinL_len hS (r :: t)
    show (q :: r :: t).length ≤ (q ++ (S ++ TL.joinL S (r :: t))).length + 1
    rw [List.length_append, List.length_append, List.length_cons]
    omega
theorem split_join_tl (x : Str) : TL.joinL [32] ((Txt.split x " ").map TL.tl) = x.cps.toList := by
  have e := StrLaws.join_split x " "
  have e2 := TL.tl_join " " (Txt.split x " ")
  rw [e] at e2
  rw [show TL.tl (" " : Str) = [32] by decide +kernel] at e2
  exact e2.symm
theorem split_part {x p : Str} (h : p ∈ Txt.split x " ") : p.length ≤ x.length ∧ ∀ c ∈ p.cps.toList, c ∈ x.cps.toList := by
  have := joinL_part (S := [32]) (List.mem_map_of_mem (f := TL.tl) h)
  rw [split_join_tl] at this
  refine ⟨?_, this.2⟩
  rw [len_tl, len_tl]
  exact this.1
theorem split_len (x : Str) : (Txt.split x " ").length ≤ x.length + 1 := by
  have := joinL_len (S := [32]) (by decide) ((Txt.split x " ").map TL.tl)
  rw [split_join_tl, List.length_map] at this
  rw [len_tl]
  exact this
theorem spl_ne : ∀ (S : List Nat) (l : List Nat) (k : Nat) (acc : List Nat), TL.spl S k acc l ≠ []
  | S, [], k, acc => by
    cases k <;> simp [TL.spl]
  | S, c :: r, 0, acc => by
    unfold TL.spl
    split
    · simp
    · exact spl_ne S r 0 _
  | S, c :: r, k + 1, acc => by
    unfold TL.spl
    exact spl_ne S r k acc
theorem split_ne (x : Str) : 0 < (Txt.split x " ").length := by
  refine List.length_pos_iff.mpr fun e => ?_
  have h := TL.split_spl x " " (by decide +kernel) (TL.kind_ok (by decide +kernel))
  rw [e] at h
  exact spl_ne _ _ _ _ h.symm
theorem join_split1 (x : Str) : Txt.join " " (Txt.split x " ") = x := by
  rw [TL.join_eq]
  exact StrLaws.join_split x " "
section
open Evl
variable {K : PySem.W.Frag} {P : Program} {w : World} {σ : L2.St} {H : Hp} {te : TE}
theorem el_sortset {p : Addr} {ws : List Str} (h : Ev te σ H (.ref p)) (hx : SqL K H p (ws.map V.str)) (hl : ws.length < 1000) : EvL (tCB (rSortTx P w) (tCons (tCB (rSetTx K P w) (tCons te tNil)) tNil)) σ H ((sd ws).map V.str) := fun H1 e Q q =>
  h H1 e _ fun H2 e2 => ⟨p, ws, rfl, ex_l (e.trans e2) hx, hl, fun a l na hm nd => by
    have hc : l.length ≤ ws.length := len_le_of nd fun z hz => (hm z).mp hz
    refine ⟨a, l, rfl, upd_same, by omega, fun r nr => ?_⟩
    rw [sd_of nd hm]
    exact q r _ (fresh_back (e2.trans (Ex.new na)) nr) ((e2.trans (Ex.new na)).trans (Ex.new nr)) upd_same⟩
end
end Lw

namespace Lw
open PySem PySem.Spec PyProof.Rows L2
def topS (i : Nat) : Stmt := PySem.Challenge.pw_bundlekinds_k13_bundle_texts.main.body.getD i (.Pass ⟨0, 0, 0, 0⟩)
abbrev s_law_draw : Stmt := topS 15
abbrev n_law_draw : List Str := ["_law_state", "_law_size", "_law_digit", "_law_cell", "_law_one"]
theorem sc_law_draw : FnScope n_law_draw ["_law_state", "_law_size"] (defScope s_law_draw) := ⟨rfl, rfl, rfl, by decide +kernel, rfl, by decide +kernel, by decide +kernel⟩
section
variable {P : Program} {w : World} {K : PySem.W.Frag} {mg : Str → Option Value} {base : Heap}
theorem ok_draw {f : Addr} {fd : FuncData} {k : Nat} (F : Fun K "_law_draw" "_law_draw" s_law_draw f fd) (m_int : mg "int" = none) (m_len : mg "len" = none) : FnOk P w K mg base CX0 (k + 1) f fd ["_law_state", "_law_size"] sp_draw := by
  refine F.ok sc_law_draw (fun vs H Q E h => ?_) (fun cdv A outer s H vs Q E hr h => ?_)
  · obtain ⟨st, size, n, rfl, _⟩ := h
    rfl
  · obtain ⟨st, size, n, rfl, ⟨q, r, bs, cs, c, D, hb, hcs, hc0, hcn⟩, hn, hs0, hs1, hQ⟩ := h
    refine ⟨_, (pss_cons (ps_augS (pv 0) pe_int pget_list pe_int ip_add set_list)
  (Evl.pss_cut (ps_while PassesOwn.never (PW.pt (pw_and (pt_cmpR (op_neD hr.units) (pe_ix ix_list (pv 0) pe_int (fun _ _ => rfl)) (pe_lst pa_nil) (nomark _)) (pw_and1 (pt_cmpR op_eq (pe_ix ix_list (pe_ix ix_list (pv 0) pe_int (fun _ _ => rfl)) pe_int (fun _ _ => rfl)) pe_int (nomark _)))))
   (pss_one (ps_asg (pe_slice sl_list (pe_ix ix_list (pv 0) pe_int (fun _ _ => rfl)) (po_some pe_int) po_none) (pg_sub (pv 0) pe_int set_list))))
  (pss_cons (ps_if (pt_cmpR (op_neD hr.units) (pe_ix ix_list (pv 0) pe_int (fun _ _ => rfl)) (pe_lst pa_nil) (nomark _))
   (pss_cons (ps_set (i := 2) sc_law_draw.nd rfl (by first | exact .inl rfl | exact .inr rfl) (pe_op op_mod (pe_callTy call_int1 (by rfl) m_int (by decide +kernel) (pa_cons (pe_ix ix_list (pe_ix ix_list (pv 0) pe_int (fun _ _ => rfl)) pe_int (fun _ _ => rfl)) pa_nil)) (pv 1)))
  (pss_cons (ps_asg (pe_op op_fdiv (pe_ix ix_list (pe_ix ix_list (pv 0) pe_int (fun _ _ => rfl)) pe_int (fun _ _ => rfl)) (pv 1)) (pg_sub (pe_ix ix_list (pv 0) pe_int (fun _ _ => rfl)) pe_int set_list))
  (pss_one (ps_ret (pv 2)))))
   pss_nil)
  (pss_cons (ps_set (i := 3) sc_law_draw.nd rfl (by first | exact .inl rfl | exact .inr rfl) (pe_op op_mod (pe_callTy call_int1 (by rfl) m_int (by decide +kernel) (pa_cons (pe_ix ix_list (pe_ix ix_list (pv 0) pe_int (fun _ _ => rfl)) (pe_op op_mod (pe_callTy call_int1 (by rfl) m_int (by decide +kernel) (pa_cons (pe_ix ix_list (pv 0) pe_int (fun _ _ => rfl)) pa_nil)) (pe_callB call_len_seq (by rfl) m_len PySem.boot_len (pa_cons (pe_ix ix_list (pv 0) pe_int (fun _ _ => rfl)) pa_nil))) (fun _ _ => rfl)) pa_nil)) pe_int))
  (pss_cons (ps_set (i := 4) sc_law_draw.nd rfl (by first | exact .inl rfl | exact .inr rfl) (pe_op op_mod (pe_callTy call_int1 (by rfl) m_int (by decide +kernel) (pa_cons (pe_op op_pow (pe_op op_add (pe_op op_add (pe_op op_mul (pv 3) pe_int) (pe_op op_mul (pe_ix ix_list (pv 0) pe_int (fun _ _ => rfl)) pe_int)) pe_int) pe_int) pa_nil)) pe_int))
  (pss_one (ps_ret (pe_op op_mod (pe_op op_mod (pe_callTy call_int1 (by rfl) m_int (by decide +kernel) (pa_cons (pe_op op_pow (pe_op op_add (pe_op op_add (pe_op op_mul (pv 4) pe_int) (pe_op op_mul (pe_ix ix_list (pv 0) pe_int (fun _ _ => rfl)) pe_int)) pe_int) pe_int) pa_nil)) pe_int) (pv 1))))))))), ?_⟩
    refine ⟨.ref st, rfl, st, _, 2, .int c, rfl, rfl, .inl (.inl D.st'), rfl, c, 1, rfl, rfl, st, _, 2, 2, rfl, rfl, D.st', rfl, ?_⟩
    refine ⟨fun σ' H' => ∃ q' bs', σ' = L2.start n_law_draw [.ref st, .int size] ∧ DX H' st q' r bs' cs (c + 1) ∧ (∀ b ∈ bs', 0 ≤ b) ∧ Kp st H H', ?_, ?_⟩
    · refine ⟨fun m σ' H' => ∃ q' bs', m = bs'.length ∧ σ' = L2.start n_law_draw [.ref st, .int size] ∧ DX H' st q' r bs' cs (c + 1) ∧ (∀ b ∈ bs', 0 ≤ b) ∧ Kp st H H', ⟨bs.length, q, bs, rfl, rfl, D.count, hb, D.countK⟩, ?_⟩
      rintro m σ' H' ⟨q', bs', rfl, rfl, D', hb', kp⟩
      refine ⟨.ref st, rfl, st, _, 0, .ref q', rfl, rfl, .inl (.inl D'.st'), rfl, Nat.zero_le _, fun p np => ?_⟩
      have D2 : DX (upd H' p (.lst [])) st q' r bs' cs (c + 1) := D'.new np
      have kp2 : Kp st H (upd H' p (.lst [])) := kp.trans (D'.newK np)
      refine ⟨_, _, dp_ints (.inl (.inl D2.q')), dp_empty (.inl (.inl upd_same)), sh_ints _, sh_empty, _, rfl, ?_⟩
      rw [eqv_nil_map]
      cases bs' with
      | nil => exact ⟨q', [], rfl, D2, hb', kp2⟩
      | cons b bs'' =>
        refine ⟨.ref st, rfl, st, _, 0, .ref q', rfl, rfl, .inl (.inl D2.st'), rfl, q', _, 0, .int b, rfl, rfl, .inl (.inl D2.q'), atI_nat (j := 0) rfl, rfl, _, rfl, ite2 (fun hz => ?_) (fun _ => ⟨q', b :: bs'', rfl, D2, hb', kp2⟩)⟩
        refine ⟨_, fun σ2 H2 h => ⟨bs''.length, Nat.lt_succ_self _, h⟩, ?_⟩
        refine ⟨.ref st, rfl, st, _, 0, .ref q', rfl, rfl, .inl (.inl D2.st'), rfl, 1, rfl, q', _, rfl, .inl (.inl D2.q'), fun t nt => ?_⟩
        have ec : cutV ((b :: bs'').map V.int) (some 1) none = bs''.map V.int := by
          unfold cutV
          rw [show HT.sIx ((b :: bs'').map V.int).length 0 (some 1) = 1 from by
            rw [show (1 : Int) = ((1 : Nat) : Int) from rfl, HT.sIx_nat, List.length_map, List.length_cons]
            omega, HT.sIx_none]
          show List.take (((b :: bs'').map V.int).length - 1) (bs''.map V.int) = _
          exact List.take_of_length_le (by simp)
        rw [ec]
        have D3 := D2.new (o := .lst (bs''.map V.int)) nt
        refine ⟨.ref st, rfl, st, _, 0, 0, rfl, rfl, D3.st', rfl, ?_⟩
        exact ⟨t, bs'', rfl, rfl, D2.swap nt, fun x hx => hb' x (List.mem_cons_of_mem _ hx), kp2.trans (D2.swapK nt)⟩
    · rintro σ' H' ⟨q', bs', rfl, D', hb', kp⟩
      refine ⟨.ref st, rfl, st, _, 0, .ref q', rfl, rfl, .inl (.inl D'.st'), rfl, Nat.zero_le _, fun p np => ?_⟩
      have D2 : DX (upd H' p (.lst [])) st q' r bs' cs (c + 1) := D'.new np
      have kp2 : Kp st H (upd H' p (.lst [])) := kp.trans (D'.newK np)
      refine ⟨_, _, dp_ints (.inl (.inl D2.q')), dp_empty (.inl (.inl upd_same)), sh_ints _, sh_empty, _, rfl, ?_⟩
      rw [eqv_nil_map]
      cases bs' with
      | cons b bs'' =>
        refine ⟨.ref st, rfl, st, _, 0, .ref q', rfl, rfl, .inl (.inl D2.st'), rfl, q', _, 0, .int b, rfl, rfl, .inl (.inl D2.q'), atI_nat (j := 0) rfl, .inl ⟨b, rfl, ?_⟩⟩
        refine ⟨.int size, rfl, b, size, rfl, rfl, hs0, ?_⟩
        refine ⟨.ref st, rfl, st, _, 0, .ref q', rfl, rfl, .inl (.inl D2.st'), rfl, q', _, 0, .int b, rfl, rfl, .inl (.inl D2.q'), atI_nat (j := 0) rfl, .int size, rfl, b, size, rfl, rfl, ⟨hs0, by omega⟩, ?_⟩
        refine ⟨.ref st, rfl, st, _, 0, .ref q', rfl, rfl, .inl (.inl D2.st'), rfl, q', _, 0, 0, rfl, rfl, D2.q', Evl.ixN_nat (j := 0) (by simp), ?_⟩
        refine ⟨.int (b % size), rfl, hQ (b % size) _ (Int.emod_nonneg _ (by omega)) (Int.emod_lt_of_pos _ hs0) ⟨q', r, (b / size) :: bs'', cs, c + 1, D2.own (ds := (b / size) :: bs''), ?_, hcs, by omega, by omega⟩ (kp2.trans (D2.ownK (ds := (b / size) :: bs'')))⟩
        intro x hx
        rcases List.mem_cons.mp hx with rfl | hx
        · exact Int.ediv_nonneg (hb' b List.mem_cons_self) (by omega)
        · exact hb' x (List.mem_cons_of_mem _ hx)
      | nil =>
        have hl : 0 < cs.length := List.length_pos_iff.mpr hcs
        have hi0 : 0 ≤ (c + 1) % (cs.length : Int) := Int.emod_nonneg _ (by omega)
        have hi1 : (c + 1) % (cs.length : Int) < cs.length := Int.emod_lt_of_pos _ (by omega)
        obtain ⟨j, hj⟩ : ∃ j : Nat, (c + 1) % (cs.length : Int) = (j : Int) := ⟨((c + 1) % (cs.length : Int)).toNat, by omega⟩
        have hjl : j < cs.length := by omega
        have hat : atI (cs.map V.int) ((c + 1) % ((cs.map V.int).length : Int)) = some (.int cs[j]) := by
          rw [List.length_map, hj]
          exact atI_nat (by rw [List.getElem?_map, List.getElem?_eq_getElem hjl]; rfl)
        refine ⟨.ref st, rfl, st, _, 1, .ref r, rfl, rfl, .inl (.inl D2.st'), rfl, .ref st, rfl, st, _, 2, .int (c + 1), rfl, rfl, .inl (.inl D2.st'), rfl, .inl ⟨c + 1, rfl, ?_⟩⟩
        refine ⟨.ref st, rfl, st, _, 1, .ref r, rfl, rfl, .inl (.inl D2.st'), rfl, r, _, rfl, .inl (.inl (.inl D2.r')), c + 1, _, rfl, rfl, ?_, ?_⟩
        · show (0 : Int) < ((cs.map V.int).length : Int)
          rw [List.length_map]
          omega
        refine ⟨r, _, _, .int cs[j], rfl, rfl, .inl (.inl D2.r'), hat, .inl ⟨cs[j], rfl, cs[j], 2147483647, rfl, rfl, (by omega : (0 : Int) < 2147483647), ?_⟩⟩
        have hm0 : 0 ≤ cs[j] % 2147483647 := Int.emod_nonneg _ (by omega)
        have hm1 : cs[j] % 2147483647 < 2147483647 := Int.emod_lt_of_pos _ (by omega)
        dsimp only
        generalize cs[j] % 2147483647 = m at hm0 hm1
        have hw1 : -(2 ^ 64 : Int) < 48271 ∧ (48271 : Int) < 2 ^ 64 := by decide
        have hw2 : -(2 ^ 64 : Int) < 69621 ∧ (69621 : Int) < 2 ^ 64 := by decide
        have hw3 : -(2 ^ 64 : Int) < 16807 ∧ (16807 : Int) < 2 ^ 64 := by decide
        have hw4 : -(2 ^ 64 : Int) < 40692 ∧ (40692 : Int) < 2 ^ 64 := by decide
        refine ⟨.int m, rfl, m, 48271, rfl, rfl, .inr hw1, ?_⟩
        refine ⟨.ref st, rfl, st, _, 2, .int (c + 1), rfl, rfl, .inl (.inl D2.st'), rfl, c + 1, 69621, rfl, rfl, .inr hw2, m * 48271, (c + 1) * 69621, rfl, rfl, m * 48271 + (c + 1) * 69621, 7, rfl, rfl, ?_⟩
        refine ⟨m * 48271 + (c + 1) * 69621 + 7, 5, rfl, rfl, ⟨by omega, by omega, ?_⟩, .inl ⟨_, rfl, _, 2147483647, rfl, rfl, (by omega : (0 : Int) < 2147483647), ?_⟩⟩
        · have : (2 : Nat) ^ 64 = 18446744073709551616 := by decide
          omega
        have hk0 : 0 ≤ (m * 48271 + (c + 1) * 69621 + 7) ^ (5 : Int).toNat % 2147483647 := Int.emod_nonneg _ (by omega)
        have hk1 : (m * 48271 + (c + 1) * 69621 + 7) ^ (5 : Int).toNat % 2147483647 < 2147483647 := Int.emod_lt_of_pos _ (by omega)
        dsimp only
        generalize (m * 48271 + (c + 1) * 69621 + 7) ^ (5 : Int).toNat % 2147483647 = k at hk0 hk1
        refine ⟨.int k, rfl, k, 16807, rfl, rfl, .inr hw3, ?_⟩
        refine ⟨.ref st, rfl, st, _, 2, .int (c + 1), rfl, rfl, .inl (.inl D2.st'), rfl, c + 1, 40692, rfl, rfl, .inr hw4, k * 16807, (c + 1) * 40692, rfl, rfl, k * 16807 + (c + 1) * 40692, 13, rfl, rfl, ?_⟩
        refine ⟨k * 16807 + (c + 1) * 40692 + 13, 5, rfl, rfl, ⟨by omega, by omega, ?_⟩, .inl ⟨_, rfl, _, 2147483629, rfl, rfl, (by omega : (0 : Int) < 2147483629), .int size, rfl, _, size, rfl, rfl, hs0, ?_⟩⟩
        · have : (2 : Nat) ^ 64 = 18446744073709551616 := by decide
          omega
        exact hQ _ _ (Int.emod_nonneg _ (by omega)) (Int.emod_lt_of_pos _ hs0) ⟨q', r, [], cs, c + 1, D2, hb', hcs, by omega, by omega⟩ kp2
end
end Lw

namespace Lw
open PySem PySem.Spec PyProof.Rows L2
abbrev s_law_start : Stmt := topS 14
abbrev n_law_start : List Str := ["_law_script", "_law_cell"]
theorem sc_law_start : FnScope n_law_start ["_law_script"] (defScope s_law_start) := ⟨rfl, rfl, rfl, by decide +kernel, rfl, by decide +kernel, by decide +kernel⟩
section
variable {P : Program} {w : World} {K : PySem.W.Frag} {mg : Str → Option Value} {base : Heap}
theorem ok_start {f : Addr} {fd : FuncData} {k : Nat} (F : Fun K "_law_start" "_law_start" s_law_start f fd) (m_abs : mg "abs" = none) (m_list : mg "list" = none) : FnOk P w K mg base CX0 (k + 1) f fd ["_law_script"] (sp_start K) := by
  refine F.ok sc_law_start (fun vs H Q E h => ?_) (fun cdv A outer s H vs Q E hr h => ?_)
  · obtain ⟨a, ns, rfl, _⟩ := h
    rfl
  · obtain ⟨a, ns, rfl, hS, hlen, hQ⟩ := h
    refine ⟨_, (pss_one (ps_ret (pe_lst (pa_cons (pe_lc (own := [("_law_cell", 1)]) (g := gName 1) (by rfl) sc_law_start.nd (pi_list (pv 0)) (blkOk_by (own := [("_law_cell", 1)]) (N := n_law_start) (sc := defScope s_law_start) (by decide +kernel)) (fun _ _ _ _ _ => pg_name (i := 1) sc_law_start.nd rfl (by first | exact .inl rfl | exact .inr rfl)) (fun _ _ _ _ _ => (pts_one (pt_cmpR op_ge (pe_callB call_abs (by rfl) m_abs (by decide +kernel) (pa_cons (pv 1) pa_nil)) (pe_op op_pow pe_int pe_int) (nomark _)))) (fun _ _ _ _ _ => (pe_callB call_abs (by rfl) m_abs (by decide +kernel) (pa_cons (pv 1) pa_nil)))) (pa_cons (pe_op op_cat (pe_callTy call_list_of (by rfl) m_list (by decide +kernel) (pa_cons (pv 0) pa_nil)) (pe_lst (pa_cons pe_int pa_nil))) (pa_cons pe_int pa_nil)))))), ?_⟩
    refine ⟨.ref a, rfl, a, rfl, ⟨_, hS⟩, fun D nD => ?_⟩
    refine lc_list (xs := ns.map V.int) (fun i H' => Same H H' ∧ ∃ bs : List Int, H' D = some (.lst (bs.map V.int)) ∧ (∀ b ∈ bs, 0 ≤ b) ∧ bs.length ≤ i) ⟨Evl.Ex.new nD, [], upd_same, (fun _ h => by simp at h), Nat.le_refl _⟩ (fun i H' _ p => p.1.seq hS) (fun i x H' hx p => ?_) (fun H1 p => ?_)
    · rw [List.getElem?_map] at hx
      cases hz : ns[i]? with
      | none =>
        rw [hz] at hx
        cases hx
      | some z =>
        rw [hz] at hx
        cases hx
        have hi : i < ns.length := (List.getElem?_eq_some_iff.mp hz).1
        obtain ⟨sm, bs, eD, hb, hl⟩ := p
        refine ⟨rfl, .int z, rfl, z, rfl, 10, 18, rfl, rfl, ⟨by decide, by decide, by decide⟩, _, _, rfl, rfl, _, rfl, ite2 (fun _ => ?_) (fun _ => ⟨sm, bs, eD, hb, by omega⟩)⟩
        refine ⟨.int z, rfl, z, rfl, _, eD, ?_, fun b o e => ?_, bs ++ [if z < 0 then -z else z], ?_, ?_, ?_⟩
        · rw [List.length_map]
          exact small1000 (by omega)
        · rw [upd_ne (ne_of_none e nD)]
          exact sm b o e
        · rw [upd_same, List.map_append]
          rfl
        · intro b h
          rcases List.mem_append.mp h with h | h
          · exact hb b h
          · rw [List.mem_singleton.mp h]
            split <;> omega
        · rw [List.length_append]
          show bs.length + 1 ≤ i + 1
          omega
    · obtain ⟨sm, bs, eD, hb, hl⟩ := p
      refine ⟨.ref a, rfl, a, _, rfl, .inl (sm.seq hS), fun l nl => ⟨by show (1 : Nat) ≤ sizeLine; decide, fun e ne => ?_⟩⟩
      have elD := ne_of_none eD nl
      have h1 : (upd H1 l (.lst (ns.map V.int))) D = some (.lst (bs.map V.int)) := (upd_ne elD).trans eD
      have nel : l ≠ e := ne_of_none upd_same ne
      have neD := ne_of_none h1 ne
      refine ⟨l, e, _, _, rfl, rfl, (upd_ne nel).trans upd_same, upd_same, ?_, fun r nr => ⟨by show (3 : Nat) ≤ sizeLine; decide, fun st nst => ?_⟩⟩
      · show (ns.map V.int).length + 1 ≤ sizeLine
        rw [List.length_map]
        exact Nat.le_of_lt (small1000 (by omega))
      · have h2 : (upd (upd H1 l (.lst (ns.map V.int))) e (.lst [V.int 5])) D = some (.lst (bs.map V.int)) := (upd_ne neD).trans h1
        have h3 := ne_of_none h2 nr
        have h4 := (upd_ne (o := .lst (ns.map V.int ++ [V.int 5])) h3).trans h2
        have h5 := ne_of_none h4 nst
        have h6 : (upd (upd (upd H1 l (.lst (ns.map V.int))) e (.lst [V.int 5])) r (.lst (ns.map V.int ++ [V.int 5]))) r = some (.lst (ns.map V.int ++ [V.int 5])) := upd_same
        have h7 := ne_of_none h6 nst
        have dx : DX (upd (upd (upd (upd H1 l (.lst (ns.map V.int))) e (.lst [V.int 5])) r (.lst (ns.map V.int ++ [V.int 5]))) st (.lst [.ref D, .ref r, .int 0])) st D r bs (ns ++ [5]) 0 := ⟨upd_same, (upd_ne h5).trans h4, by rw [upd_ne h7, upd_same, List.map_append]; rfl, h3, h5, h7⟩
        refine hQ st _ ⟨D, r, bs, ns ++ [5], 0, dx, hb, by simp, by omega, by omega⟩ fun b o eb => ?_
        have b1 := sm b o eb
        have b2 := (upd_ne (o := .lst (ns.map V.int)) (ne_of_none b1 nl)).trans b1
        have b3 := (upd_ne (o := .lst [V.int 5]) (ne_of_none b2 ne)).trans b2
        have b4 := (upd_ne (o := .lst (ns.map V.int ++ [V.int 5])) (ne_of_none b3 nr)).trans b3
        have b5 := ne_of_none b4 nst
        exact (ap_iff dx).mpr ⟨(upd_ne b5).trans b4, b5, ne_of_none eb nD, ne_of_none b3 nr⟩
end
end Lw

namespace Lw
open PySem PySem.Spec PyProof.Rows L2
abbrev s_law_signs : Stmt := topS 17
abbrev n_law_signs : List Str := ["_law_signs_here"]
theorem sc_law_signs : FnScope n_law_signs [] (defScope s_law_signs) := ⟨rfl, rfl, rfl, by decide +kernel, rfl, by decide +kernel, by decide +kernel⟩
section
variable {P : Program} {w : World} {K : PySem.W.Frag} {mg : Str → Option Value} {base : Heap}
/-- the signs -/
def sp_signs : Sp := fun vs H Q _ => vs = [] ∧ ∀ z : Str, z.length = 95 → SOk z → Q (.str z) H
theorem ok_signs {f : Addr} {fd : FuncData} {k : Nat} (F : Fun K "_law_signs" "_law_signs" s_law_signs f fd) : FnOk P w K mg base CX0 (k + 1) f fd [] sp_signs := by
  refine F.ok sc_law_signs (fun vs H Q E h => ?_) (fun cdv A outer s H vs Q E hr h => ?_)
  · obtain ⟨rfl, _⟩ := h
    rfl
  · obtain ⟨rfl, hQ⟩ := h
    refine ⟨_, (pss_cons (ps_set (i := 0) sc_law_signs.nd rfl (by first | exact .inl rfl | exact .inr rfl) pe_str)
  (pss_one (ps_ret (pe_op op_add_str (pv 0) pe_str)))), ?_⟩
    refine ⟨_, rfl, _, _, rfl, rfl, by decide +kernel, hQ _ (by decide +kernel) ?_⟩
    unfold SOk
    decide +kernel
end
end Lw

namespace Lw
open PySem PySem.Spec PyProof.Rows L2
abbrev s_valid_name : Stmt := topS 7
abbrev n_valid_name : List Str := ["text", "sign"]
theorem sc_valid_name : FnScope n_valid_name ["text"] (defScope s_valid_name) := ⟨rfl, rfl, rfl, by decide +kernel, rfl, by decide +kernel, by decide +kernel⟩
section
variable {P : Program} {w : World} {K : PySem.W.Frag} {mg : Str → Option Value} {base : Heap}
theorem ok_vn {f : Addr} {fd : FuncData} {k : Nat} (F : Fun K "valid_name" "valid_name" s_valid_name f fd) (m_len : mg "len" = none) (m_all : mg "all" = none)
    (m_LETTERS : ∃ u, mg "LETTERS" = some u ∧ RelV (.str LET) u) (m_DIGITS : ∃ u, mg "DIGITS" = some u ∧ RelV (.str DIG) u) (m_MOST_SIGNS : ∃ u, mg "MOST_SIGNS" = some u ∧ RelV (.int 6) u) : FnOk P w K mg base CX0 (k + 1) f fd ["text"] sp_vn := by
  refine F.ok sc_valid_name (fun vs H Q E h => ?_) (fun cdv A outer s H vs Q E hr h => ?_)
  · obtain ⟨z, rfl, _⟩ := h
    rfl
  · obtain ⟨z, rfl, hz, hok, hQ⟩ := h
    have hzl : z.length ≤ sizeLine := Nat.le_of_lt (small1000 hz)
    refine ⟨_, (pss_cons (ps_if (pt_not (pt_chain op_le op_le pe_int (pe_callB call_len_str (by rfl) m_len PySem.boot_len (pa_cons (pv 0) pa_nil)) (pe_gv (by rfl) m_MOST_SIGNS)))
   (pss_one (ps_ret pe_bl))
   pss_nil)
  (pss_cons (ps_if (pt_cmpR op_notIn_sign (pe_ix ix_str (pv 0) pe_int (fun _ _ => rfl)) (pe_gv (by rfl) m_LETTERS) rfl)
   (pss_one (ps_ret pe_bl))
   pss_nil)
  (pss_one (ps_ret (pe_callB (cr_all rfl) (by rfl) m_all (by decide +kernel) (pa_cons (pe_lc (own := [("sign", 1)]) (g := gName 1) (by rfl) sc_valid_name.nd (pi_str (pv 0)) (blkOk_by (own := [("sign", 1)]) (N := n_valid_name) (sc := defScope s_valid_name) (by decide +kernel)) (fun _ _ _ _ _ => pg_name (i := 1) sc_valid_name.nd rfl (by first | exact .inl rfl | exact .inr rfl)) (fun _ _ _ _ _ => pts_nil) (fun _ _ _ _ _ => (pe_or (pe_cmpR op_in_sign (pv 1) (pe_gv (by rfl) m_LETTERS) rfl) (pe_one (pe_cmpR op_in_sign (pv 1) (pe_gv (by rfl) m_DIGITS) rfl))))) pa_nil)))))), ?_⟩
    refine Evl.q_when (b := !(decide ((1 : Int) ≤ (z.length : Int)) && decide ((z.length : Int) ≤ 6))) (Evl.et_not (Evl.et_test (ev_chain Evl.ev_c (Evl.ev_cb (Evl.ea_cons (Evl.ev_var rfl) Evl.ea_nil) (rc_lenStr hzl)) Evl.rv_I0 (fun _ => Evl.ev_c) (fun _ => Evl.rv_I0)))) (fun hb H1 e1 => Evl.s_ret Evl.ev_c fun H2 e2 => ?_) (fun hb H1 e1 => ?_)
    · have e : vn z = false := by
        unfold vn
        rw [len_tl] at hb
        cases hc : z.cps.toList with
        | nil => rfl
        | cons c r =>
          rw [hc] at hb
          have h7 : ¬ ((c :: r).length ≤ 6) := by
            intro h
            rw [decide_eq_true (by simp only [List.length_cons]; omega : (1 : Int) ≤ ((c :: r).length : Int)), decide_eq_true (by omega : ((c :: r).length : Int) ≤ 6)] at hb
            cases hb
          rw [vnL_cons, decide_eq_false h7]
          rfl
      rw [← e]
      exact hQ H2 (e1.trans e2)
    · obtain ⟨c, r, hc⟩ : ∃ c r, z.cps.toList = c :: r := by
        cases hc : z.cps.toList with
        | nil =>
          rw [len_tl, hc] at hb
          cases hb
        | cons c r => exact ⟨c, r, rfl⟩
      have h6 : z.cps.toList.length ≤ 6 := by
        rw [len_tl] at hb
        by_cases h : (z.cps.toList.length : Int) ≤ 6
        · omega
        · rw [decide_eq_false h] at hb
          simp at hb
      have hvn : vn z = (isL c && z.cps.toList.all fun d => isL d || isD d) := by
        unfold vn
        rw [hc]
        rw [vnL_cons, decide_eq_true (hc ▸ h6)]
        rfl
      refine Evl.q_when (b := !isL c) (Evl.et_test (Evl.ev_op (Evl.ev_op (Evl.ev_var rfl) Evl.ev_c (Evl.rv_ixS (c := c) (by omega) (atI_nat (j := 0) (by rw [hc]; rfl)))) Evl.ev_c rv_nsign)) (fun hb H2 e2 => Evl.s_ret Evl.ev_c fun H3 e3 => ?_) (fun hb H2 e2 => ?_)
      · have e : vn z = false := by
          rw [hvn]
          have : isL c = false := by simpa using hb
          rw [this]
          rfl
        rw [← e]
        exact hQ H3 ((e1.trans e2).trans e3)
      · have hL : isL c = true := by simpa using hb
        refine Evl.s_ret (v := .bl (vn z)) (Evl.ev_is (ev_cbL (el_lcS (p := fun _ => true) (g := fun d => .bl (isL d || isD d)) (Evl.ev_var rfl) (by omega) (fun _ => rfl) (fun _ _ _ _ => et_yes) (fun d H3 _ _ _ => Evl.ev_orV (Evl.ev_op (Evl.ev_var rfl) Evl.ev_c rv_sign) (fun _ => Evl.ev_op (Evl.ev_var rfl) Evl.ev_c rv_sign))) (fun p H3 hp _ => rc_all (bs := z.cps.toList.map fun d => isL d || isD d) (.inl (.inl ?_)))) ?_) (fun H3 e3 => hQ H3 ((e1.trans e2).trans e3))
        · rw [hp, List.filter_eq_self.mpr fun _ _ => rfl, List.map_map]
          rfl
        · rw [hvn, hL, List.all_map]
          rfl
end
end Lw

namespace Lw
open PySem PySem.Spec PyProof.Rows L2
abbrev s_law_good : Stmt := topS 18
abbrev n_law_good : List Str := ["_law_word", "_law_letters", "_law_sign"]
theorem sc_law_good : FnScope n_law_good ["_law_word"] (defScope s_law_good) := ⟨rfl, rfl, rfl, by decide +kernel, rfl, by decide +kernel, by decide +kernel⟩
section
variable {P : Program} {w : World} {K : PySem.W.Frag} {mg : Str → Option Value} {base : Heap}
theorem ok_good {f : Addr} {fd : FuncData} {k : Nat} (F : Fun K "_law_good" "_law_good" s_law_good f fd) (m_len : mg "len" = none) : FnOk P w K mg base CX0 (k + 1) f fd ["_law_word"] sp_vn := by
  refine F.ok sc_law_good (fun vs H Q E h => ?_) (fun cdv A outer s H vs Q E hr h => ?_)
  · obtain ⟨z, rfl, _⟩ := h
    rfl
  · obtain ⟨z, rfl, hz, hok, hQ⟩ := h
    have hzl : z.length ≤ sizeLine := Nat.le_of_lt (small1000 hz)
    have hll := len_tl z
    refine ⟨_, (pss_cons (ps_set (i := 1) sc_law_good.nd rfl (by first | exact .inl rfl | exact .inr rfl) pe_str)
  (pss_cons (ps_if (PW.pt (pw_or (pt_cmpR op_lt (pe_callB call_len_str (by rfl) m_len PySem.boot_len (pa_cons (pv 0) pa_nil)) pe_int (nomark _)) (pw_or (pt_cmpR op_gt (pe_callB call_len_str (by rfl) m_len PySem.boot_len (pa_cons (pv 0) pa_nil)) pe_int (nomark _)) (pw_or1 (pt_cmpR op_notIn_sign (pe_ix ix_str (pv 0) pe_int (fun _ _ => rfl)) (pv 1) rfl)))))
   (pss_one (ps_ret pe_bl))
   pss_nil)
  (pss_one (ps_ret (pe_cmpR (op_eqD hr.units) (pe_lc (own := [("_law_sign", 2)]) (g := gName 2) (by rfl) sc_law_good.nd (pi_str (pv 0)) (blkOk_by (own := [("_law_sign", 2)]) (N := n_law_good) (sc := defScope s_law_good) (by decide +kernel)) (fun _ _ _ _ _ => pg_name (i := 2) sc_law_good.nd rfl (by first | exact .inl rfl | exact .inr rfl)) (fun _ _ _ _ _ => (pts_one (pt_cmpR op_notIn_sign (pv 2) (pe_op op_add_str (pv 1) pe_str) rfl))) (fun _ _ _ _ _ => (pv 2))) (pe_lst pa_nil) (nomark _)))))), ?_⟩
    refine Evl.q_asg Evl.ev_c fun H0 e0 => ?_
    refine Evl.q_when (b := decide ((z.length : Int) < 1) || (decide ((6 : Int) < (z.length : Int)) || !isL (z.cps.toList.headD 0))) (Evl.et_or (Evl.et_test (Evl.ev_op (Evl.ev_cb (Evl.ea_cons (Evl.ev_var rfl) Evl.ea_nil) (rc_lenStr hzl)) Evl.ev_c Evl.rv_I0)) fun h1 =>
      Evl.et_or (Evl.et_test (Evl.ev_op (Evl.ev_cb (Evl.ea_cons (Evl.ev_var rfl) Evl.ea_nil) (rc_lenStr hzl)) Evl.ev_c Evl.rv_I0)) fun h2 => Evl.et_test (Evl.ev_op (Evl.ev_op (Evl.ev_var rfl) Evl.ev_c (Evl.rv_ixS (c := z.cps.toList.headD 0) (by omega) (atI_nat (j := 0) ?_))) (Evl.ev_var rfl) rv_nsign)) (fun hb H1 e1 => Evl.s_ret Evl.ev_c fun H2 e2 => ?_) (fun hb H1 e1 => ?_)
    · have : 0 < z.cps.toList.length := by
        have := of_decide_eq_false h1
        omega
      cases hc : z.cps.toList with
      | nil =>
        rw [hc] at this
        cases this
      | cons c r => rfl
    · have e : vn z = false := by
        unfold vn
        rw [hll] at hb
        cases hc : z.cps.toList with
        | nil => rfl
        | cons c r =>
          rw [hc] at hb
          rw [vnL_cons]
          by_cases h7 : (c :: r).length ≤ 6
          · rw [decide_eq_false (by simp only [List.length_cons]; omega : ¬ ((c :: r).length : Int) < 1), decide_eq_false (by omega : ¬ (6 : Int) < ((c :: r).length : Int))] at hb
            have : isL c = false := by simpa using hb
            rw [this]
            simp
          · rw [decide_eq_false h7]
            rfl
      rw [← e]
      exact hQ H2 ((e0.trans e1).trans e2)
    · obtain ⟨c, r, hc⟩ : ∃ c r, z.cps.toList = c :: r := by
        cases hc : z.cps.toList with
        | nil =>
          rw [hll, hc] at hb
          cases hb
        | cons c r => exact ⟨c, r, rfl⟩
      have hb' := hb
      rw [hll, Bool.or_eq_false_iff, Bool.or_eq_false_iff] at hb'
      have h6 : z.cps.toList.length ≤ 6 := by
        have := of_decide_eq_false hb'.2.1
        omega
      have hL : isL c = true := by
        have := hb'.2.2
        rw [hc] at this
        simpa using this
      have hvn : vn z = z.cps.toList.all fun d => isL d || isD d := by
        unfold vn
        rw [hc]
        rw [vnL_cons, decide_eq_true (hc ▸ h6), hL]
        rfl
      refine Evl.s_ret (v := .bl (vn z)) (Evl.ev_is (Evl.ev_opLL (el_lcS (p := fun d => !(decide (d ∈ (LET ++ DIG).cps.toList))) (g := fun d => .str ⟨#[d]⟩) (Evl.ev_var rfl) (by omega) (fun _ => rfl) (fun d H3 _ _ => Evl.et_test (Evl.ev_op (Evl.ev_var rfl) (Evl.ev_op (Evl.ev_var rfl) Evl.ev_c (rv_addS (by decide))) rv_nsign)) (fun d H3 _ _ _ => Evl.ev_var rfl)) (Evl.el_lst Evl.ea_nil (by decide)) (fun p q H3 hp hq _ => rv_eqD (d := .list ((z.cps.toList.filter fun d => !(decide (d ∈ (LET ++ DIG).cps.toList))).map fun d => .str ⟨#[d]⟩)) (e := .list []) (fun H4 e4 => .lst (.inl (.inl (e4 _ _ hp))) (dp_map fun d _ => .str _)) (fun H4 e4 => .lst (.inl (.inl (e4 _ _ hq))) .nil) ?_ sh_empty)) ?_) (fun H3 e3 => hQ H3 ((e0.trans e1).trans e3))
      · rw [show ((z.cps.toList.filter fun d => !(decide (d ∈ (LET ++ DIG).cps.toList))).map fun d => PyData.str ⟨#[d]⟩) = ((z.cps.toList.filter fun d => !(decide (d ∈ (LET ++ DIG).cps.toList))).map fun d => (⟨#[d]⟩ : Str)).map PyData.str by rw [List.map_map]; rfl]
        refine (good_strs fun y hy => ?_).shaped (by decide)
        obtain ⟨d, hd, rfl⟩ := List.mem_map.mp hy
        intro c' hc'
        have : c' = d := by simpa using hc'
        rw [this]
        exact hok d (List.mem_filter.mp hd).1
      · rw [eqv_nil_map, hvn]
        congr 1
        rw [Bool.eq_iff_iff, decide_eq_true_iff, List.filter_eq_nil_iff, List.all_eq_true]
        have hm : ∀ d, d ∈ (LET ++ DIG).cps.toList ↔ (d ∈ LET.cps.toList ∨ d ∈ DIG.cps.toList) := fun d => by
          rw [show (LET ++ DIG).cps.toList = LET.cps.toList ++ DIG.cps.toList from TL.tl_append LET DIG, List.mem_append]
        constructor
        · intro h d hd
          have := h d hd
          simp only [Bool.not_eq_true', decide_eq_false_iff_not, Classical.not_not, hm] at this
          simpa [isL, isD] using this
        · intro h d hd
          have := h d hd
          simp only [isL, isD, Bool.or_eq_true, decide_eq_true_iff] at this
          simp only [Bool.not_eq_true', decide_eq_false_iff_not, Classical.not_not, hm]
          exact this
end
end Lw

namespace Lw
open PySem PySem.Spec PyProof.Rows L2
abbrev s_law_names : Stmt := topS 16
abbrev n_law_names : List Str := ["_law_state", "_law_count", "_law_signs_here", "_law_stem", "_law_k", "_law_letter", "_law_offset", "_law_stride", "_law_plan", "_law_step", "_law_whole", "_law_words", "_law_sign", "_law_back"]
theorem sc_law_names : FnScope n_law_names ["_law_state", "_law_count"] (defScope s_law_names) := ⟨rfl, rfl, rfl, by decide +kernel, rfl, by decide +kernel, by decide +kernel⟩
section
variable {P : Program} {w : World} {K : PySem.W.Frag} {mg : Str → Option Value} {base : Heap}
theorem ok_names {f f2 : Addr} {fd fd2 : FuncData} (F : Fun K "_law_names" "_law_names" s_law_names f fd)
    (F_law_draw : Fun K "_law_draw" "_law_draw" s_law_draw f2 fd2) (b_law_draw : Binds K fd2 ["_law_state", "_law_size"] []) (g_law_draw : mg "_law_draw" = some (.ref f2)) (G_law_draw : FnOk P w K mg base CX0 1 f2 fd2 ["_law_state", "_law_size"] sp_draw)
    (m_range : mg "range" = none) (m_str : mg "str" = none) (m_int : mg "int" = none) : FnOk P w K mg base CX0 2 f fd ["_law_state", "_law_count"] sp_names := by
  refine F.ok sc_law_names (fun vs H Q E h => ?_) (fun cdv A outer s H vs Q E hr h => ?_)
  · obtain ⟨st, count, n, rfl, _⟩ := h
    rfl
  · obtain ⟨st, count, n, rfl, D, hn, hc0, hc1, hQ⟩ := h
    refine ⟨_, (pss_cons (ps_set (i := 2) sc_law_names.nd rfl (by first | exact .inl rfl | exact .inr rfl) pe_str)
  (pss_cons (ps_set (i := 3) sc_law_names.nd rfl (by first | exact .inl rfl | exact .inr rfl) (pe_join pe_str (pe_lc (own := [("_law_k", 4)]) (g := gName 4) (by rfl) sc_law_names.nd (pi_range1 (by rfl) m_range (pa_cons (pe_call G_law_draw (hr.mono (by decide)) (by rfl) g_law_draw F_law_draw.kp b_law_draw .nil pass0 (pa_cons (pv 0) (pa_cons pe_int pa_nil))) pa_nil)) (blkOk_by (own := [("_law_k", 4)]) (N := n_law_names) (sc := defScope s_law_names) (by decide +kernel)) (fun _ _ _ _ _ => pg_name (i := 4) sc_law_names.nd rfl (by first | exact .inl rfl | exact .inr rfl)) (fun _ _ _ _ _ => pts_nil) (fun _ _ _ _ _ => (pe_ix ix_str (pv 2) (pe_call G_law_draw (hr.mono (by decide)) (by rfl) g_law_draw F_law_draw.kp b_law_draw .nil pass0 (pa_cons (pv 0) (pa_cons pe_int pa_nil))) (fun _ _ => rfl))))))
  (pss_cons (ps_set (i := 5) sc_law_names.nd rfl (by first | exact .inl rfl | exact .inr rfl) (pe_ix ix_str (pv 2) (pe_call G_law_draw (hr.mono (by decide)) (by rfl) g_law_draw F_law_draw.kp b_law_draw .nil pass0 (pa_cons (pv 0) (pa_cons pe_int pa_nil))) (fun _ _ => rfl)))
  (pss_cons (ps_set (i := 6) sc_law_names.nd rfl (by first | exact .inl rfl | exact .inr rfl) (pe_call G_law_draw (hr.mono (by decide)) (by rfl) g_law_draw F_law_draw.kp b_law_draw .nil pass0 (pa_cons (pv 0) (pa_cons pe_int pa_nil))))
  (pss_cons (ps_set (i := 7) sc_law_names.nd rfl (by first | exact .inl rfl | exact .inr rfl) (pe_ix ix_list (pe_lst (pa_cons pe_int (pa_cons pe_int (pa_cons pe_int (pa_cons pe_int (pa_cons pe_int (pa_cons pe_int pa_nil))))))) (pe_call G_law_draw (hr.mono (by decide)) (by rfl) g_law_draw F_law_draw.kp b_law_draw .nil pass0 (pa_cons (pv 0) (pa_cons pe_int pa_nil))) (fun _ _ => rfl)))
  (pss_cons (ps_set (i := 8) sc_law_names.nd rfl (by first | exact .inl rfl | exact .inr rfl) (pe_call G_law_draw (hr.mono (by decide)) (by rfl) g_law_draw F_law_draw.kp b_law_draw .nil pass0 (pa_cons (pv 0) (pa_cons pe_int pa_nil))))
  (pss_cons (ps_if (PW.pt (pw_or (pt_cmpR op_eq (pv 8) pe_int (nomark _)) (pw_or1 (PW.pt (pw_and (pt_cmpR op_eq (pv 8) pe_int (nomark _)) (pw_and1 (pt_cmpR op_gt (pv 1) pe_int (nomark _))))))))
   (pss_cons (ps_set (i := 9) sc_law_names.nd rfl (by first | exact .inl rfl | exact .inr rfl) (pe_op op_add pe_int (pe_call G_law_draw (hr.mono (by decide)) (by rfl) g_law_draw F_law_draw.kp b_law_draw .nil pass0 (pa_cons (pv 0) (pa_cons pe_int pa_nil)))))
  (pss_one (ps_ret (pe_lc (own := [("_law_k", 4)]) (g := gName 4) (by rfl) sc_law_names.nd (pi_range1 (by rfl) m_range (pa_cons (pv 1) pa_nil)) (blkOk_by (own := [("_law_k", 4)]) (N := n_law_names) (sc := defScope s_law_names) (by decide +kernel)) (fun _ _ _ _ _ => pg_name (i := 4) sc_law_names.nd rfl (by first | exact .inl rfl | exact .inr rfl)) (fun _ _ _ _ _ => pts_nil) (fun _ _ _ _ _ => (pe_op op_add_str (pv 5) (pe_callTy call_str_int (by rfl) m_str (by decide +kernel) (pa_cons (pe_op op_mul (pv 9) (pe_op op_add (pv 4) pe_int)) pa_nil))))))))
   pss_nil)
  (pss_cons (ps_if (pt_cmpR op_eq (pv 8) pe_int (nomark _))
   (pss_cons (ps_set (i := 10) sc_law_names.nd rfl (by first | exact .inl rfl | exact .inr rfl) (pe_op op_add_str (pv 5) (pe_join pe_str (pe_lc (own := [("_law_k", 4)]) (g := gName 4) (by rfl) sc_law_names.nd (pi_range1 (by rfl) m_range (pa_cons pe_int pa_nil)) (blkOk_by (own := [("_law_k", 4)]) (N := n_law_names) (sc := defScope s_law_names) (by decide +kernel)) (fun _ _ _ _ _ => pg_name (i := 4) sc_law_names.nd rfl (by first | exact .inl rfl | exact .inr rfl)) (fun _ _ _ _ _ => pts_nil) (fun _ _ _ _ _ => (pe_ix ix_str (pv 2) (pe_call G_law_draw (hr.mono (by decide)) (by rfl) g_law_draw F_law_draw.kp b_law_draw .nil pass0 (pa_cons (pv 0) (pa_cons pe_int pa_nil))) (fun _ _ => rfl)))))))
  (pss_one (ps_ret (pe_lc (own := [("_law_k", 4)]) (g := gName 4) (by rfl) sc_law_names.nd (pi_range1 (by rfl) m_range (pa_cons (pv 1) pa_nil)) (blkOk_by (own := [("_law_k", 4)]) (N := n_law_names) (sc := defScope s_law_names) (by decide +kernel)) (fun _ _ _ _ _ => pg_name (i := 4) sc_law_names.nd rfl (by first | exact .inl rfl | exact .inr rfl)) (fun _ _ _ _ _ => pts_nil) (fun _ _ _ _ _ => (pe_slice sl_str (pv 10) po_none (po_some (pe_op op_add (pv 4) pe_int))))))))
   pss_nil)
  (pss_cons (ps_set (i := 11) sc_law_names.nd rfl (by first | exact .inl rfl | exact .inr rfl) (pe_lst pa_nil))
  (pss_cons (ps_for PassesOwn.never rfl  (pi_range1 (by rfl) m_range (pa_cons (pv 1) pa_nil)) (pg_name (i := 4) sc_law_names.nd rfl (by first | exact .inl rfl | exact .inr rfl))
   (pss_cons (ps_set (i := 12) sc_law_names.nd rfl (by first | exact .inl rfl | exact .inr rfl) (pe_ix ix_str (pv 2) (pe_op op_mod (pe_callTy call_int1 (by rfl) m_int (by decide +kernel) (pa_cons (pe_op op_add (pv 6) (pe_op op_mul (pv 7) (pv 4))) pa_nil)) pe_int) (fun _ _ => rfl)))
  (pss_cons (ps_set (i := 13) sc_law_names.nd rfl (by first | exact .inl rfl | exact .inr rfl) (pe_ix ix_list (pe_lst (pa_cons (pv 3) (pa_cons pe_str pa_nil))) (pe_callTy call_int1 (by rfl) m_int (by decide +kernel) (pa_cons (pe_and (pe_cmpR op_gt (pv 8) pe_int (nomark _)) (pe_one (pe_cmpR op_eq (pe_op op_mod (pv 4) pe_int) pe_int (nomark _)))) pa_nil)) (fun _ _ => rfl)))
  (pss_one (ps_expr (pe_bm PySem.F.plainAttrs_list PySem.F.slot_list_append PySem.F.type_list_append mt_append (pv 11) (pa_cons (pe_ix ix_list (pe_lst (pa_cons (pe_op op_add_str (pe_op op_add_str (pv 5) (pv 13)) (pv 12)) (pa_cons (pe_op op_add_str (pv 12) (pv 13)) pa_nil))) (pe_op op_mod (pe_callTy call_int1 (by rfl) m_int (by decide +kernel) (pa_cons (pv 8) pa_nil)) pe_int) (fun _ _ => rfl)) pa_nil)))))))
  (pss_one (ps_ret (pv 11))))))))))))), ?_⟩
    have s36 : SG36.length ≤ sizeLine := by decide +kernel
    have l36 := sg36_len
    have l36' : SG36.cps.toList.length = 36 := by rw [← len_tl]; exact l36
    -- the stem
    refine ⟨⟨_, rfl⟩, .ref st, rfl, st, 5, n, rfl, D, by omega, by omega, by omega, fun d1 H1 d10 d11 D1 k1 => ⟨d1, rfl, by omega, by omega, fun Dl nD => ?_⟩⟩
    refine lc_signs (z := SG36) (size := 36) (m := n + 1) (fun _ => rfl) (fun _ => rfl) (fun _ => rfl) (by omega) (by omega) (by omega) (by omega) (by omega) D1 nD (fun H2 zs D2 k2 ap2 hl2 hy2 => ?_)
    obtain ⟨sl, sn, ss⟩ := stem_ok hy2
    refine ⟨_, Dl, zs, rfl, rfl, .inl (.inl (.inl ap2.1)), ?_, ?_⟩
    · rw [ss]
      show zs.length + zs.length * 0 ≤ 16777216
      omega
    have sl4 : (Txt.join "" zs).cps.toList.length ≤ 4 := by omega
    have D2' := D2.mono (m := n + 5) (by omega)
    have k12 := k1.trans k2
    clear D2 ap2 sl ss hy2 k1 k2 D1 hl2 nD
    revert sn sl4
    generalize Txt.join "" zs = stem
    intro sn sl4
    -- letter, offset, stride, plan
    refine ⟨.str SG36, rfl, .ref st, rfl, st, 26, n + 5, rfl, D2', by omega, by omega, by omega, fun d3 H3 d30 d31 D3 k3 => ?_⟩
    obtain ⟨j3, rfl⟩ : ∃ j : Nat, d3 = (j : Int) := ⟨d3.toNat, by omega⟩
    have hj3 : j3 < SG36.cps.toList.length := by omega
    have hc3 := List.getElem?_eq_getElem hj3
    obtain ⟨lN, lL⟩ := sg36_at hc3
    have lL' := (lL (by omega)).2
    refine ⟨SG36, _, _, rfl, rfl, s36, atI_nat hc3, ?_⟩
    generalize SG36.cps.toList[j3] = letter at lN lL' 
    refine ⟨.ref st, rfl, st, 26, n + 6, rfl, D3, by omega, by omega, by omega, fun offset H4 o0 o1 D4 k4 => ?_⟩
    refine ⟨Nat.le_trans (by decide : 6 ≤ 1000) (by decide), fun p np => ?_⟩
    refine ⟨.ref st, rfl, st, 6, n + 7, rfl, D4.new np, by omega, by omega, by omega, fun d5 H5 d50 d51 D5 k5 => ?_⟩
    have ap5 := k5 _ _ (D4.fresh np)
    obtain ⟨v5, hv5, hm5⟩ := atI_some (xs := [V.int 1, V.int 3, V.int 5, V.int 7, V.int 9, V.int 11]) d50 d51
    obtain ⟨stride, rfl, hstr⟩ : ∃ s : Int, v5 = .int s ∧ (s = 1 ∨ s = 3 ∨ s = 5 ∨ s = 7 ∨ s = 9 ∨ s = 11) := by
      simp only [List.mem_cons, List.not_mem_nil, or_false] at hm5
      rcases hm5 with rfl | rfl | rfl | rfl | rfl | rfl <;> exact ⟨_, rfl, by omega⟩
    refine ⟨p, _, _, _, rfl, rfl, .inl (.inl ap5.1), hv5, ?_⟩
    refine ⟨.ref st, rfl, st, 6, n + 8, rfl, D5, by omega, by omega, by omega, fun plan H6 p0 p1 D6 k6 => ?_⟩
    have kp6 : Kp st H H6 := (k12.trans (k3.trans (k4.trans (Kp.trans (D4.newK np) k5)))).trans k6
    clear k12 k3 k4 k5 k6 ap5 hv5 hm5 np D2' D3 D4 D5
    -- a letter and a number
    refine Evl.q_when (b := decide (V.int plan = V.int 4) || (decide (V.int plan = V.int 5) && decide ((6 : Int) < count))) (Evl.et_or (Evl.et_test (Evl.ev_op (Evl.ev_var rfl) Evl.ev_c (Evl.rv_eq rfl))) fun _ => Evl.et_and (Evl.et_test (Evl.ev_op (Evl.ev_var rfl) Evl.ev_c (Evl.rv_eq rfl))) fun _ => Evl.et_test (Evl.ev_op (Evl.ev_var rfl) Evl.ev_c Evl.rv_I0)) (fun hb H7 e7 => ?_) (fun hb H7 e7 => ?_)
    · have D7 := D6.ex e7
      have kp7 := kp6.trans (D6.exK e7)
      refine ⟨.ref st, rfl, st, 9, n + 9, rfl, D7, by omega, by omega, by omega, fun d8 H8 d80 d81 D8 k8 => ⟨1, d8, rfl, rfl, ?_⟩⟩
      have kp8 := kp7.trans k8
      obtain ⟨step, hst⟩ : ∃ s : Nat, 1 + d8 = (s : Int) := ⟨(1 + d8).toNat, by omega⟩
      have hs1 : 1 ≤ step ∧ step ≤ 9 := by omega
      have hlt : ∀ k : Nat, k < 9 → step * (k + 1) < 100 := fun k hk => Nat.lt_of_le_of_lt (Nat.mul_le_mul hs1.2 (by omega : k + 1 ≤ 9)) (by decide)
      have key := row_names (n := count.toNat) (f := fun k => (⟨#[letter]⟩ : Str) ++ Str.ofString (toString ((step * (k + 1) : Nat) : Int))) (fun k hk => by
        have hh := num_codes (step * (k + 1)) (hlt k (by omega))
        refine vn_of (c := letter) (r := (Str.ofString (toString ((step * (k + 1) : Nat) : Int))).cps.toList) (by rw [app_codes]; rfl) (by omega) lL' fun d hd => ?_
        unfold isN
        rw [hh.1 d hd]
        exact Bool.or_true _) (fun i k hik hk e => by
        have e2 := congrArg (fun z : Str => z.cps.toList) e
        simp only [app_codes] at e2
        have e3 := num_inj _ _ (hlt i (by omega)) (hlt k (by omega)) (List.append_cancel_left e2)
        have := Nat.eq_of_mul_eq_mul_left (by omega) e3
        omega)
      refine Evl.s_retL (Evl.el_lcR1 (fun _ => true) (fun k => .str ((⟨#[letter]⟩ : Str) ++ Str.ofString (toString ((step * (k + 1) : Nat) : Int)))) (Evl.ea_cons (Evl.ev_var rfl) Evl.ea_nil) (by omega) (fun _ => rfl) (fun i H1 _ _ => et_yes) (fun i H1 _ hi _ => ?_)) (fun q H9 nq e9 hq => ?_)
      · have hi9 : i < 9 := by omega
        have e1 : (1 + d8) * ((i : Int) + 1) = ((step * (i + 1) : Nat) : Int) := by
          rw [hst]
          push_cast
          rfl
        have hh := hlt i hi9
        refine Evl.ev_op (Evl.ev_var rfl) (Evl.ev_cb (Evl.ea_cons (Evl.ev_is (Evl.ev_op (Evl.ev_var rfl) (Evl.ev_op (Evl.ev_var rfl) Evl.ev_c Evl.rv_I0) (Evl.rv_I (.inl ⟨by omega, by omega⟩))) (congrArg V.int e1)) Evl.ea_nil) (rc_strI ?_)) (rv_addS ?_)
        · rw [Int.natAbs_natCast]
          exact Nat.lt_of_le_of_lt (Nat.log2_le_self _) (by omega)
        · have := (num_codes _ hh).2
          rw [len_tl, len_tl]
          refine Nat.le_trans (Nat.add_le_add (Nat.le_refl 1) this) (by decide)
      · rw [given_all] at hq
        refine hQ q ((List.range count.toNat).map fun k => (⟨#[letter]⟩ : Str) ++ Str.ofString (toString ((step * (k + 1) : Nat) : Int))) H9 ((D8.ex e9).mono (by omega)) (kp8.trans (D8.exK e9)) (fun b o hb => ne_of_none (kp8 b o hb).1 nq) ?_ key.1 key.2.1 key.2.2
        have ee : ((List.range count.toNat).map fun k => (⟨#[letter]⟩ : Str) ++ Str.ofString (toString ((step * (k + 1) : Nat) : Int))).map V.str = (List.range count.toNat).map fun k => V.str ((⟨#[letter]⟩ : Str) ++ Str.ofString (toString ((step * (k + 1) : Nat) : Int))) := by
          rw [List.map_map]
          rfl
        rw [ee]
        exact D8.exNew e9 nq hq
    -- the parts of one word
    have D7 := D6.ex e7
    have kp7 := kp6.trans (D6.exK e7)
    refine Evl.q_when (b := decide (V.int plan = V.int 5)) (Evl.et_test (Evl.ev_op (Evl.ev_var rfl) Evl.ev_c (Evl.rv_eq rfl))) (fun hb2 H8 e8 => ?_) (fun hb2 H8 e8 => ?_)
    · have hcount : count ≤ 6 := by
        rw [hb2, Bool.true_and, Bool.or_eq_false_iff] at hb
        have := of_decide_eq_false hb.2
        omega
      have D8 := D7.ex e8
      have kp8 := kp7.trans (D7.exK e8)
      refine ⟨.str ⟨#[letter]⟩, rfl, ⟨_, rfl⟩, 5, rfl, by omega, by omega, fun Dl nD => ?_⟩
      refine lc_signs (z := SG36) (size := 36) (m := n + 9) (fun _ => rfl) (fun _ => rfl) (fun _ => rfl) (by omega) (by omega) (by omega) (by omega) (by omega) D8 nD (fun H9 zs D9 k9 ap9 hl9 hy9 => ?_)
      obtain ⟨sl9, sn9, ss9⟩ := stem_ok hy9
      refine ⟨_, Dl, zs, rfl, rfl, .inl (.inl (.inl ap9.1)), ?_, ?_⟩
      · rw [ss9]
        show zs.length + zs.length * 0 ≤ 16777216
        omega
      have kp9 := kp8.trans k9
      have sl5 : (Txt.join "" zs).cps.toList.length = 5 := by
        rw [sl9, hl9]
        decide
      clear ap9 sl9 ss9 hy9 k9 hl9
      revert sn9 sl5
      generalize Txt.join "" zs = tail
      intro sn9 sl5
      have wl : ((⟨#[letter]⟩ : Str) ++ tail).cps.toList = letter :: tail.cps.toList := by rw [app_codes]; rfl
      have wl6 : ((⟨#[letter]⟩ : Str) ++ tail).length ≤ sizeLine := by
        rw [len_tl, wl, List.length_cons, sl5]
        decide
      refine ⟨⟨#[letter]⟩, tail, rfl, rfl, ?_, ?_⟩
      · rw [len_tl tail, sl5]
        exact (by decide : 1 + 5 ≤ sizeLine)
      have key := row_names (n := count.toNat) (f := fun k => cutS ((⟨#[letter]⟩ : Str) ++ tail) none (some ((k + 1 : Nat) : Int))) (fun k hk => by
        refine vn_of (c := letter) (r := tail.cps.toList.take k) (by rw [cutS_to, wl, List.take_succ_cons]) (by rw [List.length_take]; omega) lL' fun d hd => sn9 d (List.mem_of_mem_take hd)) (fun i k hik hk e => by
        have e2 := congrArg (fun z : Str => z.cps.toList.length) e
        simp only [cutS_to, List.length_take, wl, List.length_cons, sl5] at e2
        omega)
      refine Evl.s_retL (Evl.el_lcR1 (fun _ => true) (fun k => .str (cutS ((⟨#[letter]⟩ : Str) ++ tail) none (some ((k + 1 : Nat) : Int)))) (Evl.ea_cons (Evl.ev_var rfl) Evl.ea_nil) (by omega) (fun _ => rfl) (fun i H1 _ _ => et_yes) (fun i H1 _ hi _ => ?_)) (fun q H10 nq e10 hq => ?_)
      · refine ev_slS (Evl.ev_var rfl) Evl.eo_none (Evl.eo_some (Evl.ev_is (Evl.ev_op (Evl.ev_var rfl) Evl.ev_c Evl.rv_I0) (congrArg V.int ?_))) wl6
        push_cast
        rfl
      · rw [given_all] at hq
        refine hQ q ((List.range count.toNat).map fun k => cutS ((⟨#[letter]⟩ : Str) ++ tail) none (some ((k + 1 : Nat) : Int))) H10 ((D9.ex e10).mono (by omega)) (kp9.trans (D9.exK e10)) (fun b o hb => ne_of_none (kp9 b o hb).1 nq) ?_ key.1 key.2.1 key.2.2
        rw [List.map_map]
        exact D9.exNew e10 nq hq
    -- a letter, the stem, a sign
    have D8 := D7.ex e8
    have kp8 := kp7.trans (D7.exK e8)
    refine ⟨Nat.zero_le _, fun l nl => ?_⟩
    let sg : Nat → Nat := fun k => 97 + ((offset + stride * (k : Int)) % 26).toNat
    let bk : Nat → Str := fun k => if (decide (1 < plan) && decide ((k : Int) % 2 = 1)) = true then "" else stem
    let W : Nat → Str := fun k => if plan % 2 = 0 then (⟨#[letter]⟩ : Str) ++ bk k ++ ⟨#[sg k]⟩ else (⟨#[sg k]⟩ : Str) ++ bk k
    have hsg : ∀ k, sg k < 123 ∧ 97 ≤ sg k ∧ (sg k : Int) = 97 + (offset + stride * (k : Int)) % 26 := fun k => by
      have h1 := Int.emod_nonneg (offset + stride * (k : Int)) (by decide : (26 : Int) ≠ 0)
      have h2 := Int.emod_lt_of_pos (offset + stride * (k : Int)) (by decide : (0 : Int) < 26)
      show 97 + _ < 123 ∧ 97 ≤ 97 + _ ∧ ((97 + _ : Nat) : Int) = _
      omega
    have hsL : ∀ k, isL (sg k) = true := fun k => isL_iff.mpr ⟨(hsg k).2.1, (hsg k).1⟩
    have hsN : ∀ k, isN (sg k) = true := fun k => by unfold isN; rw [hsL k]; rfl
    have hbk : ∀ k, (bk k).cps.toList.length ≤ 4 ∧ ∀ c ∈ (bk k).cps.toList, isN c = true := fun k => by
      show (if (decide (1 < plan) && decide ((k : Int) % 2 = 1)) = true then ("" : Str) else stem).cps.toList.length ≤ 4 ∧ ∀ c ∈ (if (decide (1 < plan) && decide ((k : Int) % 2 = 1)) = true then ("" : Str) else stem).cps.toList, isN c = true
      split
      · exact ⟨by decide +kernel, by decide +kernel⟩
      · exact ⟨sl4, sn⟩
    have hdiff : ∀ i k : Nat, i < k → k < 9 → sg i ≠ sg k := fun i k hik hk e => by
      have e1 := (hsg i).2.2
      have e2 := (hsg k).2.2
      rw [e] at e1
      rcases hstr with rfl | rfl | rfl | rfl | rfl | rfl <;> omega
    have key := row_names (n := count.toNat) (f := W) (fun k hk => by
        show vn (if plan % 2 = 0 then _ else _) = true
        split
        · refine vn_of (c := letter) (r := (bk k).cps.toList ++ [sg k]) (by rw [app_codes, app_codes]; rfl) (by rw [List.length_append]; have := (hbk k).1; simp; omega) lL' fun d hd => ?_
          rcases List.mem_append.mp hd with h | h
          · exact (hbk k).2 d h
          · rw [List.mem_singleton.mp h]
            exact hsN k
        · exact vn_of (c := sg k) (r := (bk k).cps.toList) (by rw [app_codes]; rfl) (by have := (hbk k).1; omega) (hsL k) (hbk k).2) (fun i k hik hk e => by
        have hne := hdiff i k hik (by omega)
        have e2 := congrArg (fun z : Str => z.cps.toList) e
        by_cases hp : plan % 2 = 0
        · simp only [W, if_pos hp, app_codes] at e2
          have e3 := (List.append_inj' e2 rfl).2
          exact hne (List.cons.inj e3).1
        · simp only [W, if_neg hp, app_codes] at e2
          exact hne (List.cons.inj e2).1)
    refine Evl.q_forR1 (Evl.ea_cons (Evl.ev_var rfl) Evl.ea_nil) (by omega) (fun i σ' H' => ∃ a4 a12 a13, σ' = [some (.ref st), some (.int count), some (.str SG36), some (.str stem), a4, some (.str ⟨#[letter]⟩), some (.int offset), some (.int stride), some (.int plan), none, none, some (.ref l), a12, a13] ∧ DS H' st (n + 9) ∧ Kp st H8 H' ∧ Ap H' st l (.lst ((List.range i).map fun k => V.str (W k)))) (fun H1 e1 => ?_) (fun i σ' H' hi ⟨a4, a12, a13, es, Di, ki, ai⟩ => ?_) (fun σ' H' ⟨a4, a12, a13, es, Di, ki, ai⟩ => ?_)
    · exact ⟨none, none, none, rfl, (D8.new nl).ex e1, (D8.newK nl).trans ((D8.new nl).exK e1), (D8.new nl).exK e1 _ _ (D8.fresh nl)⟩
    · subst es
      have hi9 : i < 9 := by omega
      have hs := hsg i
      have hat : atI SG36.cps.toList ((offset + stride * (i : Int)) % 26) = some (sg i) := by
        have : (offset + stride * (i : Int)) % 26 = ((sg i - 97 : Nat) : Int) := by omega
        rw [this]
        refine atI_nat ?_
        rw [sg36_codes, List.getElem?_append_left (by simp; omega), List.getElem?_map, List.getElem?_range (by omega)]
        show some (97 + (sg i - 97)) = some (sg i)
        congr 1
        omega
      refine Evl.q_asg (v := .str ⟨#[sg i]⟩) (Evl.ev_op (Evl.ev_var rfl) (Evl.ev_op (Evl.ev_cb (Evl.ea_cons (Evl.ev_op (Evl.ev_var rfl) (Evl.ev_op (Evl.ev_var rfl) (Evl.ev_var rfl) (Evl.rv_I (.inr ⟨by omega, by omega⟩))) Evl.rv_I0) Evl.ea_nil) rc_int) Evl.ev_c (Evl.rv_I (by decide))) (Evl.rv_ixS (by omega) hat)) fun H1 e1 => ?_
      refine Evl.q_asg (v := .str (bk i)) (ev_ixNew (xs := [.str stem, .str ""]) (i := if (decide (1 < plan) && decide ((i : Int) % 2 = 1)) = true then 1 else 0) (Evl.el_lst (Evl.ea_cons (Evl.ev_var rfl) (Evl.ea_cons Evl.ev_c Evl.ea_nil)) (by show 2 ≤ 100000; decide)) (Evl.ev_cb (Evl.ea_cons (Evl.ev_andV (Evl.ev_op (Evl.ev_var rfl) Evl.ev_c Evl.rv_I0) fun _ => Evl.ev_is (Evl.ev_op (Evl.ev_op (Evl.ev_var rfl) Evl.ev_c (Evl.rv_I (by decide))) Evl.ev_c (Evl.rv_eq rfl)) (congrArg V.bl ?_)) Evl.ea_nil) rc_intB) ?_) fun H2 e2 => ?_
      · by_cases h : (i : Int) % 2 = 1
        · rw [h]
          rfl
        · rw [decide_eq_false h]
          exact decide_eq_false fun z => h (V.int.inj z)
      · show atI [V.str stem, V.str ""] (if (decide (1 < plan) && decide ((i : Int) % 2 = 1)) = true then 1 else 0) = some (V.str (if (decide (1 < plan) && decide ((i : Int) % 2 = 1)) = true then ("" : Str) else stem))
        split
        · rfl
        · exact atI_nat (j := 0) rfl
      have D2 := (Di.ex e1).ex e2
      have kk := ((Di.exK e1).trans ((Di.ex e1).exK e2))
      have a2 := kk _ _ ai
      have hbl : (bk i).length ≤ 4 := by
        rw [len_tl]
        exact (hbk i).1
      have hpl : plan % 2 = 0 ∨ plan % 2 = 1 := by omega
      refine Evl.s_app (v := .str (W i)) a2.1 (Evl.ev_var rfl) (ev_ixNew (xs := [.str ((⟨#[letter]⟩ : Str) ++ bk i ++ ⟨#[sg i]⟩), .str ((⟨#[sg i]⟩ : Str) ++ bk i)]) (i := plan % 2) (Evl.el_lst (Evl.ea_cons (Evl.ev_op (Evl.ev_op (Evl.ev_var rfl) (Evl.ev_var rfl) (rv_addS ?_)) (Evl.ev_var rfl) (rv_addS ?_)) (Evl.ea_cons (Evl.ev_op (Evl.ev_var rfl) (Evl.ev_var rfl) (rv_addS ?_)) Evl.ea_nil)) (by show 2 ≤ 100000; decide)) (Evl.ev_op (Evl.ev_cb (Evl.ea_cons (Evl.ev_var rfl) Evl.ea_nil) rc_int) Evl.ev_c (Evl.rv_I (by decide))) ?_) ?_ fun H3 e3 => ?_
      · exact Nat.le_trans (Nat.add_le_add (Nat.le_refl 1) hbl) (by decide)
      · rw [len_append]
        exact Nat.le_trans (Nat.add_le_add (Nat.add_le_add (Nat.le_refl 1) hbl) (Nat.le_refl 1)) (by decide)
      · exact Nat.le_trans (Nat.add_le_add (Nat.le_refl 1) hbl) (by decide)
      · show atI _ _ = some (V.str (if plan % 2 = 0 then _ else _))
        rcases hpl with h | h
        · rw [if_pos h, h]
          exact atI_nat (j := 0) rfl
        · rw [if_neg (by omega), h]
          exact atI_nat (j := 1) rfl
      · rw [List.length_map, List.length_range]
        omega
      · have D3 := D2.ex e3
        have a3 := D2.exK e3 _ _ a2
        refine ⟨_, _, _, rfl, D3.put a3, ?_, ?_⟩
        · exact Kp.put (ki.trans (kk.trans (D2.exK e3))) nl D3 a3
        · rw [List.range_succ, List.map_append]
          exact D3.putA a3
    · subst es
      refine ⟨.ref l, rfl, ?_⟩
      refine hQ l ((List.range count.toNat).map W) H' (Di.mono (by omega)) (kp8.trans ki) (fun b o hb => ne_of_none (kp8 b o hb).1 nl) ?_ key.1 key.2.1 key.2.2
      rw [List.map_map]
      exact ai
end
end Lw

namespace Lw
open PySem PySem.Spec PyProof.Rows L2
abbrev s_iBadText : Stmt := inClass (topS 2) 0
abbrev n_iBadText : List Str := ["self", "text"]
theorem sc_iBadText : FnScope n_iBadText ["self", "text"] (defScope s_iBadText) := ⟨rfl, rfl, rfl, by decide +kernel, rfl, by decide +kernel, by decide +kernel⟩
theorem ok_iBadText {P : Program} {w : World} {K : PySem.W.Frag} {mg : Str → Option Value} {base : Heap} {f : Addr} {fd : FuncData} {C : Addr} (F : Fun K "__init__" "BadText.__init__" s_iBadText f fd) (O : OexC K C) (no : PySem.W.findIn K (.ref C) "text" = some none) : FnOk P w K mg base CX0 1 f fd ["self", "text"] (sp_init1 K C "text") := by
  refine F.ok sc_iBadText (fun vs H Q E h => ?_) (fun cdv A outer s H vs Q E hr h => ⟨_, pss_one (ps_ost (pv 0) (pv 1)), ?_⟩)
  · obtain ⟨a, y, rfl, _⟩ := h
    rfl
  · obtain ⟨a, y, rfl, ha, hQ⟩ := h
    exact ⟨y, rfl, .ref a, rfl, a, C, rfl, O, no, .inl ⟨ha, hQ⟩⟩
abbrev s_bundle_text : Stmt := topS 11
abbrev n_bundle_text : List Str := ["bundle"]
theorem sc_bundle_text : FnScope n_bundle_text ["bundle"] (defScope s_bundle_text) := ⟨rfl, rfl, rfl, by decide +kernel, rfl, by decide +kernel, by decide +kernel⟩
abbrev s_read_bundle : Stmt := topS 12
abbrev n_read_bundle : List Str := ["text", "names", "name"]
theorem sc_read_bundle : FnScope n_read_bundle ["text"] (defScope s_read_bundle) := ⟨rfl, rfl, rfl, by decide +kernel, rfl, by decide +kernel, by decide +kernel⟩
section
variable {P : Program} {w : World} {K : PySem.W.Frag} {mg : Str → Option Value} {base : Heap}
def btext (ws : List Str) : Str := if ws = [] then "-" else Txt.join " " ws
def sp_btext (K : PySem.W.Frag) : Sp := fun vs H Q _ => ∃ (a : Addr) (ws : List Str), vs = [.ref a] ∧ SqT K H a (ws.map V.str) ∧ (ws.map (·.length)).sum + ws.length ≤ 16777216 ∧ ∀ H', Evl.Ex H H' → Q (.str (btext ws)) H'
theorem ok_btext {f : Addr} {fd : FuncData} {k : Nat} (F : Fun K "bundle_text" "bundle_text" s_bundle_text f fd) (m_EMPTY_TEXT : ∃ u, mg "EMPTY_TEXT" = some u ∧ RelV (.str "-") u) : FnOk P w K mg base CX0 (k + 1) f fd ["bundle"] (sp_btext K) := by
  refine F.ok sc_bundle_text (fun vs H Q E h => ?_) (fun cdv A outer s H vs Q E hr h => ?_)
  · obtain ⟨a, ws, rfl, _⟩ := h
    rfl
  · obtain ⟨a, ws, rfl, hS, hL, hQ⟩ := h
    refine ⟨_, (pss_cons (ps_if (pt_not (pt_truth (pv 0) (by intro _; rfl)))
   (pss_one (ps_ret (pe_gv (by rfl) m_EMPTY_TEXT)))
   pss_nil)
  (pss_one (ps_ret (pe_join pe_str (pv 0))))), ?_⟩
    refine Evl.q_when (b := !(!((ws.map V.str).isEmpty))) (Evl.et_not (fun H1 e Q q => ⟨.ref a, rfl, _, .inr (.inl ⟨_, Evl.ex_t e hS, rfl⟩), q H1 (Evl.Ex.refl _)⟩)) (fun hb H1 e1 => Evl.s_ret Evl.ev_c fun H2 e2 => ?_) (fun hb H1 e1 => ?_)
    · have h0 : ws = [] := by
        cases ws with
        | nil => rfl
        | cons x r => cases hb
      have := hQ H2 (e1.trans e2)
      rw [btext, if_pos h0] at this
      exact this
    · have h0 : ws ≠ [] := fun z => by
        subst z
        cases hb
      have := hQ H1 e1
      rw [btext, if_neg h0] at this
      exact ⟨⟨_, rfl⟩, .ref a, rfl, _, a, ws, rfl, rfl, .inr (Evl.ex_t e1 hS), Nat.le_trans (Nat.add_le_add (Nat.le_refl _) (Nat.le_of_eq (Nat.mul_one _))) hL, this⟩
/-- what is read: the bundle, or nothing -/
def rd (t : Str) : Option (List Str) := if t = "-" then some [] else
  if 5 < (Txt.split t " ").length ∨ ¬ (∀ z ∈ Txt.split t " ", vn z = true) then none else if Txt.split t " " = sd (Txt.split t " ") then some (Txt.split t " ") else none
def readAt (CT : Addr) (t : Str) (H1 : Hp) (Q : VK) (E : XK) : Prop := match rd t with
  | none => ∀ d, H1 d = none → E (.ref CT) (some d) (upd H1 d (.xd [("text", .str t)]))
  | some ns => ∀ p, H1 p = none → Q (.ref p) (upd H1 p (.tup (ns.map V.str)))
def sp_read (CT : Addr) : Sp := fun vs H Q E => ∃ t : Str, vs = [.str t] ∧ t.length ≤ 990 ∧ SOk t ∧ ∀ H1, Evl.Ex H H1 → readAt CT t H1 Q E
theorem part_ok {t z : Str} (hl : t.length ≤ 990) (ho : SOk t) (h : z ∈ Txt.split t " ") : z.length ≤ 1000 ∧ SOk z := ⟨by have := (split_part h).1; omega, fun c hc => ho c ((split_part h).2 c hc)⟩
theorem ok_read {f CT fT fV : Addr} {fd fdT fdV : FuncData} (F : Fun K "read_bundle" "read_bundle" s_read_bundle f fd) (ET : ErC P w K mg base "BadText" "text" CT fT fdT)
    (F_valid_name : Fun K "valid_name" "valid_name" s_valid_name fV fdV) (b_valid_name : Binds K fdV ["text"] []) (g_valid_name : mg "valid_name" = some (.ref fV)) (G_valid_name : FnOk P w K mg base CX0 2 fV fdV ["text"] sp_vn)
    (m_len : mg "len" = none) (m_all : mg "all" = none) (m_set : mg "set" = none) (m_tuple : mg "tuple" = none) (m_sorted : mg "sorted" = none) (m_MOST_GOODS : ∃ u, mg "MOST_GOODS" = some u ∧ RelV (.int 5) u) (m_EMPTY_TEXT : ∃ u, mg "EMPTY_TEXT" = some u ∧ RelV (.str "-") u) :
    FnOk P w K mg base (L2.CX P w) 3 f fd ["text"] (sp_read CT) := by
  refine F.okX sc_read_bundle (fun vs H Q E h => ?_) (fun cdv A outer s H vs Q E hr h => ?_)
  · obtain ⟨t, rfl, _⟩ := h
    rfl
  · obtain ⟨t, rfl, hL, hO, hQ⟩ := h
    have O_BadText := ET.O
    have i_BadText := ET.i
    have t_BadText := ET.t
    have G_iBadText := ET.G
    have b_iBadText := ET.b
    have g_BadText := ET.g
    refine ⟨_, (pss_cons (ps_if (pt_cmpR op_eq (pv 0) (pe_gv (by rfl) m_EMPTY_TEXT) (nomark _))
   (pss_one (ps_ret (pe_tup pa_nil)))
   pss_nil)
  (pss_cons (ps_set (i := 1) sc_read_bundle.nd rfl (by first | exact .inl rfl | exact .inr rfl) (pe_split (pv 0) pe_str))
  (pss_cons (ps_if (PW.pt (pw_or (pt_cmpR op_gt (pe_callB call_len_seq (by rfl) m_len PySem.boot_len (pa_cons (pv 1) pa_nil)) (pe_gv (by rfl) m_MOST_GOODS) (nomark _)) (pw_or1 (pt_not (pt_val (pe_callB (cr_all rfl) (by rfl) m_all (by decide +kernel) (pa_cons (pe_lc (own := [("name", 2)]) (g := gName 2) (by rfl) sc_read_bundle.nd (pi_list (pv 1)) (blkOk_by (own := [("name", 2)]) (N := n_read_bundle) (sc := defScope s_read_bundle) (by decide +kernel)) (fun _ _ _ _ _ => pg_name (i := 2) sc_read_bundle.nd rfl (by first | exact .inl rfl | exact .inr rfl)) (fun _ _ _ _ _ => pts_nil) (fun _ _ _ _ _ => (pe_call G_valid_name (hr.mono (by decide)) (by rfl) g_valid_name F_valid_name.kp b_valid_name .nil pass0 (pa_cons (pv 2) pa_nil)))) pa_nil)))))))
   (pss_one (ps_raise rfl (takes_of rfl rfl rfl rfl) (pmk_oex O_BadText i_BadText t_BadText G_iBadText (hr.mono (by decide)) b_iBadText .nil pass0 (by rfl) g_BadText (pa_cons (pv 0) pa_nil))))
   pss_nil)
  (pss_cons (ps_if (pt_cmpR (op_neD hr.units) (pv 1) (pe_callB (cr_sortTx rfl hr.units) (by rfl) m_sorted (by decide +kernel) (pa_cons (pe_callTy (cr_setTx rfl) (by rfl) m_set (by decide +kernel) (pa_cons (pv 1) pa_nil)) pa_nil)) (nomark _))
   (pss_one (ps_raise rfl (takes_of rfl rfl rfl rfl) (pmk_oex O_BadText i_BadText t_BadText G_iBadText (hr.mono (by decide)) b_iBadText .nil pass0 (by rfl) g_BadText (pa_cons (pv 0) pa_nil))))
   pss_nil)
  (pss_one (ps_ret (pe_callTy call_tuple_of (by rfl) m_tuple (by decide +kernel) (pa_cons (pv 1) pa_nil)))))))), ?_⟩
    refine Evl.q_when (b := decide (V.str t = V.str "-")) (Evl.et_test (Evl.ev_op (Evl.ev_var rfl) Evl.ev_c (Evl.rv_eq rfl))) (fun hb H1 e1 => ⟨Nat.zero_le _, fun p np => ?_⟩) (fun hb H1 e1 => ?_)
    · have hr : rd t = some [] := by
        have := V.str.inj (of_decide_eq_true hb)
        unfold rd
        rw [if_pos this]
      have := hQ H1 e1
      rw [readAt, hr] at this
      exact this p np
    have hne : t ≠ "-" := fun z => by
      rw [z] at hb
      exact absurd rfl (of_decide_eq_false hb)
    have hp : ∀ z ∈ Txt.split t " ", z.length ≤ 1000 ∧ SOk z := fun z hz => part_ok hL hO hz
    have hnl := split_len t
    have hrd : rd t = if 5 < (Txt.split t " ").length ∨ ¬ (∀ z ∈ Txt.split t " ", vn z = true) then none else if Txt.split t " " = sd (Txt.split t " ") then some (Txt.split t " ") else none := by
      unfold rd
      rw [if_neg hne]
    refine ⟨.str t, rfl, ⟨t, rfl⟩, t, " ", rfl, rfl, by decide +kernel, Evl.sz_of (by omega), fun p np => ?_⟩
    revert hp hnl hrd
    generalize Txt.split t " " = ns
    intro hp hnl hrd
    have e2 := e1.trans (Evl.Ex.new (o := .lst (ns.map V.str)) np)
    have gp : (upd H1 p (.lst (ns.map V.str))) p = some (.lst (ns.map V.str)) := upd_same
    dsimp only [gName]
    have comp : ∀ {H3 : Hp}, Evl.Ex (upd H1 p (.lst (ns.map V.str))) H3 → Evl.EvL (tLc (iList K (tVar 1)) (gName 2) tYes (tCall sp_vn [] E0 (tCons (tVar 2) tNil)) [2]) [some (.str t), some (.ref p), none] H3 ((ns.map vn).map V.bl) := fun {H3} e3 => by
      have h := el_lcM (K := K) (σ := [some (.str t), some (.ref p), none]) (j := 2) (vs := [2]) (t := tYes) (tl := tVar 1) (te := tCall sp_vn [] E0 (tCons (tVar 2) tNil)) (xs := ns) (cv := V.str) (fun _ => true) (fun z => V.bl (vn z)) (Evl.ev_var rfl) (Evl.sq_of (e3 _ _ gp)) (by omega) (fun _ => rfl) (fun c H4 _ _ => et_yes) (fun c H4 _ hc _ => Evl.ev_call (Evl.ea_cons (Evl.ev_var rfl) Evl.ea_nil) fun H5 e5 Q q E => ⟨c, rfl, (hp c hc).1, (hp c hc).2, fun H6 e6 => q H6 e6⟩)
      rw [List.filter_eq_self.mpr fun _ _ => rfl] at h
      rw [List.map_map]
      exact h
    refine Evl.q_when (b := decide ((5 : Int) < (ns.length : Int)) || !((ns.map vn).all id)) (Evl.et_or (Evl.et_test (Evl.ev_op (Evl.ev_is (Evl.ev_cb (Evl.ea_cons (Evl.ev_var rfl) Evl.ea_nil) (rc_lenL (Evl.sq_of gp))) (by rw [List.length_map])) Evl.ev_c Evl.rv_I0)) fun _ => Evl.et_not (Evl.et_B (ev_cbL (comp (Evl.Ex.refl _)) fun q H4 hq e4 => rc_all (Evl.sq_of hq)))) (fun hb H3 e3 => ?_) (fun hb H3 e3 => ?_)
    · have hr : rd t = none := by
        rw [hrd, if_pos]
        rw [Bool.or_eq_true, decide_eq_true_iff] at hb
        rcases hb with h | h
        · exact .inl (by omega)
        · refine .inr fun k => ?_
          have : (ns.map vn).all id = true := by
            rw [List.all_map, List.all_eq_true]
            exact fun z hz => k z hz
          rw [this] at h
          cases h
      refine Evl.ea_cons (Evl.ev_var rfl) Evl.ea_nil H3 (Evl.Ex.refl _) _ fun H4 e4 => ?_
      have := hQ H4 ((e2.trans e3).trans e4)
      rw [readAt, hr] at this
      exact mk1_at this
    have h2 : ¬ (5 < ns.length ∨ ¬ (∀ z ∈ ns, vn z = true)) := fun k => by
      rw [Bool.or_eq_false_iff, decide_eq_false_iff_not, Bool.not_eq_false', List.all_map, List.all_eq_true] at hb
      rcases k with k | k
      · exact hb.1 (by omega)
      · exact k fun z hz => hb.2 z hz
    rw [if_neg h2] at hrd
    have g3 := e3 _ _ gp
    have oks : ∀ z ∈ ns, SOk z := fun z hz => (hp z hz).2
    have oks2 : ∀ z ∈ sd ns, SOk z := fun z hz => oks z (dd_mem.mp (srt_mem.mp hz))
    refine Evl.q_when (b := !decide (ns = sd ns)) (Evl.et_test (Evl.ev_is (Evl.ev_opL (Evl.ev_var rfl) (el_sortset (Evl.ev_var rfl) (Evl.sq_of g3) (by omega)) fun q H4 hq e4 => rv_neD (fun H5 e5 => dp_strs (Evl.sq_of ((e4.trans e5) _ _ g3))) (fun H5 e5 => dp_strs (Evl.sq_of (e5 _ _ hq))) ((good_strs oks).shaped (by decide)) ((good_strs oks2).shaped (by decide))) (by rw [eqv_strs]))) (fun hb2 H4 e4 => ?_) (fun hb2 H4 e4 => ?_)
    · rw [if_neg (by simpa using hb2)] at hrd
      refine Evl.ea_cons (Evl.ev_var rfl) Evl.ea_nil H4 (Evl.Ex.refl _) _ fun H5 e5 => ?_
      have := hQ H5 (((e2.trans e3).trans e4).trans e5)
      rw [readAt, hrd] at this
      exact mk1_at this
    · rw [if_pos (by simpa using hb2)] at hrd
      refine ⟨.ref p, rfl, p, ns.map V.str, rfl, .inl ⟨Evl.sq_of (e4 _ _ g3), fun l nl => ?_⟩⟩
      have := hQ H4 ((e2.trans e3).trans e4)
      rw [readAt, hrd] at this
      exact this l nl
end
end Lw

namespace Lw
open PySem PySem.Spec PyProof.Rows L2
/-! ### joined texts: how long, of which signs -/
def Wd (ps : List Str) : Nat := (ps.map (·.length)).sum + ps.length
theorem wd_append (a b : List Str) : Wd (a ++ b) = Wd a + Wd b := by
  unfold Wd
  rw [List.map_append, List.sum_append, List.length_append]
  omega
theorem wd_take (k : Nat) (a : List Str) : Wd (a.take k) ≤ Wd a := by
  have := wd_append (a.take k) (a.drop k)
  rw [List.take_append_drop] at this
  omega
theorem wd_drop (k : Nat) (a : List Str) : Wd (a.drop k) ≤ Wd a := by
  have := wd_append (a.take k) (a.drop k)
  rw [List.take_append_drop] at this
  omega
theorem wd_rev (a : List Str) : Wd a.reverse = Wd a := by
  unfold Wd
  rw [List.map_reverse, List.sum_reverse, List.length_reverse]
theorem joinL_wd : ∀ ps : List (List Nat), (TL.joinL [32] ps).length ≤ (ps.map (·.length)).sum + ps.length ∧ (ps.map (·.length)).sum + ps.length ≤ (TL.joinL [32] ps).length + 1
  | [] => ⟨Nat.le_refl _, Nat.zero_le _⟩
  | [q] => by
    show q.length ≤ ([q].map (·.length)).sum + 1 ∧ ([q].map (·.length)).sum + 1 ≤ q.length + 1
    simp
  | q :: r :: t => by
    have ih := joinL_wd (r :: t)
    have e : (TL.joinL [32] (q :: r :: t)).length = q.length + (1 + (TL.joinL [32] (r :: t)).length) := by
      show (q ++ ([32] ++ TL.joinL [32] (r :: t))).length = _
      rw [List.length_append, List.length_append]
      rfl
    rw [e, List.map_cons, List.sum_cons, List.length_cons]
    omega
theorem joinL_mem : ∀ {ps : List (List Nat)} {c : Nat}, c ∈ TL.joinL [32] ps → c = 32 ∨ ∃ p ∈ ps, c ∈ p
  | [], _, h => by cases h
  | [q], c, h => .inr ⟨q, List.mem_cons_self, h⟩
  | q :: r :: t, c, h => by
    have h' : c ∈ q ++ ([32] ++ TL.joinL [32] (r :: t)) := h
    rcases List.mem_append.mp h' with h | h
    · exact .inr ⟨q, List.mem_cons_self, h⟩
    · rcases List.mem_append.mp h with h | h
      · exact .inl (List.mem_singleton.mp h)
      · rcases joinL_mem h with h | ⟨p, hp, hc⟩
        · exact .inl h
        · exact .inr ⟨p, List.mem_cons_of_mem _ hp, hc⟩
theorem join_codes (ps : List Str) : (Txt.join " " ps).cps.toList = TL.joinL [32] (ps.map TL.tl) := by
  rw [TL.join_eq]
  have e2 := TL.tl_join " " ps
  rw [show TL.tl (" " : Str) = [32] by decide +kernel] at e2
  exact e2
theorem wd_tl (ps : List Str) : ((ps.map TL.tl).map (·.length)).sum + (ps.map TL.tl).length = Wd ps := by
  unfold Wd
  rw [List.length_map, List.map_map]
  have e : ps.map ((fun x : List Nat => x.length) ∘ TL.tl) = ps.map (·.length) := List.map_congr_left fun z _ => (len_tl z).symm
  rw [e]
theorem join_wd (ps : List Str) : (Txt.join " " ps).length ≤ Wd ps := by
  rw [len_tl, join_codes, ← wd_tl]
  exact (joinL_wd _).1
theorem split_wd (x : Str) : Wd (Txt.split x " ") ≤ x.length + 1 := by
  rw [← wd_tl, len_tl, ← split_join_tl]
  exact (joinL_wd _).2
theorem join_sok {ps : List Str} (h : ∀ p ∈ ps, SOk p) : SOk (Txt.join " " ps) := fun c hc => by
  rw [join_codes] at hc
  rcases joinL_mem hc with rfl | ⟨p, hp, hc⟩
  · decide
  · obtain ⟨q, hq, rfl⟩ := List.mem_map.mp hp
    exact h q hq c hc
theorem cutV_from (xs : List V) (k : Nat) : cutV xs (some (k : Int)) none = xs.drop k := by
  unfold cutV HT.sIx
  have : ¬ ((k : Int) < 0) := by omega
  simp only [this, if_false]
  rw [show (k : Int).toNat = k from rfl]
  rcases Nat.lt_or_ge k xs.length with h | h
  · rw [Nat.min_eq_left (Nat.le_of_lt h), List.take_of_length_le (by rw [List.length_drop]; exact Nat.le_refl _)]
  · rw [Nat.min_eq_right h, List.drop_length, List.take_nil, List.drop_eq_nil_of_le h]
section
open Evl
variable {K : PySem.W.Frag} {σ : L2.St} {H : Hp} {te ta tb : TE} {xs ys : List V}
theorem el_cat (h : EvL ta σ H xs) (k : EvL tb σ H ys) (hz : xs.length + ys.length ≤ 100000) : EvL (tOp rCat ta tb) σ H (xs ++ ys) := fun H1 e Q q =>
  h H1 e _ fun p H2 np e2 hp => k H2 (e.trans e2) _ fun r H3 nr e3 hr => ⟨p, r, xs, ys, rfl, rfl, e3 _ _ hp, hr, sz_of hz, fun t nt => q t _ (fresh_back (e2.trans e3) nt) ((e2.trans e3).trans (Ex.new nt)) upd_same⟩
theorem el_rev (h : EvL te σ H xs) : EvL (tRevL K te) σ H xs.reverse := fun H1 e Q q =>
  h H1 e _ fun p H2 np e2 hp => ⟨p, xs, rfl, sq_of hp, fun t nt => q t _ (fresh_back e2 nt) (e2.trans (Ex.new nt)) upd_same⟩
theorem ev_joinL {sep : Str} {ws : List Str} (h : EvL te σ H (ws.map V.str)) (hz : (ws.map (·.length)).sum + ws.length * sep.length ≤ 16777216) :
    Ev (tM1 (fun x xs H Q => ∃ a p, ∃ ys : List Str, x = .str a ∧ xs = [.ref p] ∧ (SqL K H p (ys.map V.str) ∨ SqT K H p (ys.map V.str)) ∧ (ys.map (·.length)).sum + ys.length * a.length ≤ 16777216 ∧ Q (.str (Txt.join a ys)) H) (tC (.str sep)) te) σ H (.str (Txt.join sep ws)) := fun H1 e Q q =>
  ⟨⟨sep, rfl⟩, h H1 e _ fun p H2 np e2 hp => ⟨sep, p, ws, rfl, rfl, .inl (sq_of hp), hz, q H2 e2⟩⟩
end
end Lw

namespace Lw
open PySem PySem.Spec PyProof.Rows L2
abbrev s_law_spoiled : Stmt := topS 19
abbrev n_law_spoiled : List Str := ["_law_state", "_law_word", "_law_signs_here", "_law_sign", "_law_spot", "_law_plan", "_law_words", "_law_k"]
theorem sc_law_spoiled : FnScope n_law_spoiled ["_law_state", "_law_word"] (defScope s_law_spoiled) := ⟨rfl, rfl, rfl, by decide +kernel, rfl, by decide +kernel, by decide +kernel⟩
section
variable {P : Program} {w : World} {K : PySem.W.Frag} {mg : Str → Option Value} {base : Heap}
def sp_spoil : Sp := fun vs H Q _ => ∃ (st : Addr) (z : Str) (n : Nat), vs = [.ref st, .str z] ∧ DS H st n ∧ n ≤ 900000000 ∧ z.length ≤ 400 ∧ SOk z ∧ ∀ (y : Str) (H' : Hp), DS H' st (n + 10) → y.length ≤ 2 * z.length + 2 → SOk y → Q (.str y) H'
theorem ok_spoil {f f2 f3 : Addr} {fd fd2 fd3 : FuncData} (F : Fun K "_law_spoiled" "_law_spoiled" s_law_spoiled f fd)
    (F_law_draw : Fun K "_law_draw" "_law_draw" s_law_draw f2 fd2) (b_law_draw : Binds K fd2 ["_law_state", "_law_size"] []) (g_law_draw : mg "_law_draw" = some (.ref f2)) (G_law_draw : FnOk P w K mg base CX0 1 f2 fd2 ["_law_state", "_law_size"] sp_draw)
    (F_law_signs : Fun K "_law_signs" "_law_signs" s_law_signs f3 fd3) (b_law_signs : Binds K fd3 [] []) (g_law_signs : mg "_law_signs" = some (.ref f3)) (G_law_signs : FnOk P w K mg base CX0 1 f3 fd3 [] sp_signs)
    (m_len : mg "len" = none) : FnOk P w K mg base CX0 2 f fd ["_law_state", "_law_word"] sp_spoil := by
  refine F.ok sc_law_spoiled (fun vs H Q E h => ?_) (fun cdv A outer s H vs Q E hr h => ?_)
  · obtain ⟨st, z, n, rfl, _⟩ := h
    rfl
  · obtain ⟨st, z, n, rfl, D, hn, hz, ho, hQ⟩ := h
    have zs : z.length ≤ sizeLine := Evl.sz_of (by omega)
    refine ⟨_, (pss_cons (ps_set (i := 2) sc_law_spoiled.nd rfl (by first | exact .inl rfl | exact .inr rfl) (pe_call0 G_law_signs (hr.mono (by decide)) (by rfl) g_law_signs F_law_signs.kp b_law_signs .nil pass0))
  (pss_cons (ps_set (i := 3) sc_law_spoiled.nd rfl (by first | exact .inl rfl | exact .inr rfl) (pe_ix ix_str (pv 2) (pe_call G_law_draw (hr.mono (by decide)) (by rfl) g_law_draw F_law_draw.kp b_law_draw .nil pass0 (pa_cons (pv 0) (pa_cons (pe_callB call_len_str (by rfl) m_len PySem.boot_len (pa_cons (pv 2) pa_nil)) pa_nil))) (fun _ _ => rfl)))
  (pss_cons (ps_set (i := 4) sc_law_spoiled.nd rfl (by first | exact .inl rfl | exact .inr rfl) (pe_call G_law_draw (hr.mono (by decide)) (by rfl) g_law_draw F_law_draw.kp b_law_draw .nil pass0 (pa_cons (pv 0) (pa_cons (pe_op op_add (pe_callB call_len_str (by rfl) m_len PySem.boot_len (pa_cons (pv 1) pa_nil)) pe_int) pa_nil))))
  (pss_cons (ps_set (i := 5) sc_law_spoiled.nd rfl (by first | exact .inl rfl | exact .inr rfl) (pe_call G_law_draw (hr.mono (by decide)) (by rfl) g_law_draw F_law_draw.kp b_law_draw .nil pass0 (pa_cons (pv 0) (pa_cons pe_int pa_nil))))
  (pss_cons (ps_if (pt_cmpR op_eq (pv 5) pe_int (nomark _))
   (pss_one (ps_ret (pe_op op_add_str (pe_slice sl_str (pv 1) po_none (po_some (pv 4))) (pe_slice sl_str (pv 1) (po_some (pe_op op_add (pv 4) pe_int)) po_none))))
   pss_nil)
  (pss_cons (ps_if (pt_cmpR op_eq (pv 5) pe_int (nomark _))
   (pss_one (ps_ret (pe_op op_add_str (pe_op op_add_str (pe_slice sl_str (pv 1) po_none (po_some (pv 4))) (pv 3)) (pe_slice sl_str (pv 1) (po_some (pe_op op_add (pv 4) pe_int)) po_none))))
   pss_nil)
  (pss_cons (ps_if (pt_cmpR op_eq (pv 5) pe_int (nomark _))
   (pss_one (ps_ret (pe_op op_add_str (pe_op op_add_str (pe_slice sl_str (pv 1) po_none (po_some (pv 4))) (pe_ix ix_list (pe_lst (pa_cons pe_str (pa_cons pe_str (pa_cons (pv 3) pa_nil)))) (pe_call G_law_draw (hr.mono (by decide)) (by rfl) g_law_draw F_law_draw.kp b_law_draw .nil pass0 (pa_cons (pv 0) (pa_cons pe_int pa_nil))) (fun _ _ => rfl))) (pe_slice sl_str (pv 1) (po_some (pv 4)) po_none))))
   pss_nil)
  (pss_cons (ps_set (i := 6) sc_law_spoiled.nd rfl (by first | exact .inl rfl | exact .inr rfl) (pe_split (pv 1) pe_str))
  (pss_cons (ps_set (i := 7) sc_law_spoiled.nd rfl (by first | exact .inl rfl | exact .inr rfl) (pe_call G_law_draw (hr.mono (by decide)) (by rfl) g_law_draw F_law_draw.kp b_law_draw .nil pass0 (pa_cons (pv 0) (pa_cons (pe_callB call_len_seq (by rfl) m_len PySem.boot_len (pa_cons (pv 6) pa_nil)) pa_nil))))
  (pss_cons (ps_if (pt_cmpR op_eq (pv 5) pe_int (nomark _))
   (pss_one (ps_ret (pe_join pe_str (pe_op op_cat (pe_slice sl_list (pv 6) po_none (po_some (pv 7))) (pe_revL (pe_slice sl_list (pv 6) (po_some (pv 7)) po_none))))))
   pss_nil)
  (pss_one (ps_ret (pe_join pe_str (pe_op op_cat (pe_slice sl_list (pv 6) po_none (po_some (pe_op op_add (pv 7) pe_int))) (pe_slice sl_list (pv 6) (po_some (pv 7)) po_none))))))))))))))), ?_⟩
    refine ⟨rfl, fun sg hsg sgo => ?_⟩
    have sgs : sg.length ≤ sizeLine := Evl.sz_of (by omega)
    refine ⟨.str sg, rfl, .ref st, rfl, .str sg, rfl, sg, rfl, sgs, st, (sg.length : Int), n, rfl, D, by omega, by omega, by omega, fun d1 H1 d10 d11 D1 _ => ?_⟩
    obtain ⟨c, hc, hcm⟩ := atI_some (xs := sg.cps.toList) d10 (by rw [← len_tl]; exact d11)
    have sco : SOk ⟨#[c]⟩ := fun x hx => by
      have : x = c := by simpa using hx
      rw [this]
      exact sgo c hcm
    refine ⟨sg, d1, c, rfl, rfl, sgs, hc, ?_⟩
    refine ⟨.ref st, rfl, .str z, rfl, z, rfl, zs, ?_⟩
    refine ⟨_, _, rfl, rfl, st, (z.length : Int) + 1, n + 1, rfl, D1, by omega, by omega, by omega, fun d2 H2 d20 d21 D2 _ => ?_⟩
    obtain ⟨sp, rfl⟩ : ∃ sp : Nat, d2 = (sp : Int) := ⟨d2.toNat, by omega⟩
    refine ⟨.ref st, rfl, st, 5, n + 2, rfl, D2, by omega, by omega, by omega, fun plan H3 p0 p1 D3 _ => ?_⟩
    have D3' := D3.mono (m := n + 3) (by omega)
    have cut : ∀ {lo hi : Option Int}, (cutS z lo hi).cps.toList.length ≤ z.length → (∀ x ∈ (cutS z lo hi).cps.toList, x ∈ z.cps.toList) → (cutS z lo hi).length ≤ z.length ∧ SOk (cutS z lo hi) := fun {lo hi} h1 h2 => ⟨by rw [len_tl]; exact h1, fun x hx => ho x (h2 x hx)⟩
    have cT : ∀ k : Nat, (cutS z none (some (k : Int))).length ≤ z.length ∧ SOk (cutS z none (some (k : Int))) := fun k => cut (by rw [cutS_to, List.length_take, len_tl]; omega) fun x hx => by
      rw [cutS_to] at hx
      exact List.mem_of_mem_take hx
    have cF : ∀ k : Nat, (cutS z (some (k : Int)) none).length ≤ z.length ∧ SOk (cutS z (some (k : Int)) none) := fun k => cut (by rw [cutS_from, List.length_drop, len_tl]; omega) fun x hx => by
      rw [cutS_from] at hx
      exact List.mem_of_mem_drop hx
    have cTF : ∀ k : Nat, (cutS z none (some (k : Int))).length + (cutS z (some (k : Int)) none).length = z.length := fun k => by
      rw [len_tl, len_tl, len_tl, cutS_to, cutS_from, ← List.length_append, List.take_append_drop]
    have cF1 : ∀ k : Nat, (cutS z (some ((k + 1 : Nat) : Int)) none).length ≤ (cutS z (some (k : Int)) none).length := fun k => by
      rw [len_tl, len_tl, cutS_from, cutS_from, List.length_drop, List.length_drop]
      omega
    have ev1 : ∀ {σ : L2.St} {H' : Hp}, σ[4]? = some (some (.int (sp : Int))) → Evl.Ev (tOp (rI0 fun i j => V.int (i + j)) (tVar 4) (tC (.int 1))) σ H' (.int ((sp + 1 : Nat) : Int)) := fun h => Evl.ev_is (Evl.ev_op (Evl.ev_var h) Evl.ev_c Evl.rv_I0) (congrArg V.int (by omega))
    have one : ∀ {c : Nat}, (⟨#[c]⟩ : Str).length = 1 := fun {c} => rfl
    have tf := cTF sp
    have f1 := cF1 sp
    have t0 := cT sp
    have f0 := cF sp
    have f2 := cF (sp + 1)
    dsimp only [gName]
    refine Evl.q_when (b := decide (V.int plan = V.int 0)) (Evl.et_test (Evl.ev_op (Evl.ev_var rfl) Evl.ev_c (Evl.rv_eq rfl))) (fun _ H4 e4 => ?_) (fun _ H4 e4 => ?_)
    · refine Evl.s_ret (Evl.ev_op (ev_slS (Evl.ev_var rfl) Evl.eo_none (Evl.eo_some (Evl.ev_var rfl)) zs) (ev_slS (Evl.ev_var rfl) (Evl.eo_some (ev1 rfl)) Evl.eo_none zs) (rv_addS ?_)) fun H5 e5 => ?_
      · exact Evl.sz_of (by omega)
      · exact hQ _ H5 (((D3'.ex e4).ex e5).mono (by omega)) (by rw [len_append]; omega) (sok_append t0.2 f2.2)
    refine Evl.q_when (b := decide (V.int plan = V.int 1)) (Evl.et_test (Evl.ev_op (Evl.ev_var rfl) Evl.ev_c (Evl.rv_eq rfl))) (fun _ H5 e5 => ?_) (fun _ H5 e5 => ?_)
    · refine Evl.s_ret (Evl.ev_op (Evl.ev_op (ev_slS (Evl.ev_var rfl) Evl.eo_none (Evl.eo_some (Evl.ev_var rfl)) zs) (Evl.ev_var rfl) (rv_addS ?_)) (ev_slS (Evl.ev_var rfl) (Evl.eo_some (ev1 rfl)) Evl.eo_none zs) (rv_addS ?_)) fun H6 e6 => ?_
      · exact Evl.sz_of (by rw [one]; omega)
      · exact Evl.sz_of (by rw [len_append, one]; omega)
      · exact hQ _ H6 ((((D3'.ex e4).ex e5).ex e6).mono (by omega)) (by rw [len_append, len_append, one]; omega) (sok_append (sok_append t0.2 sco) f2.2)
    have D5 := (D3'.ex e4).ex e5
    have lit : ∀ {z : Str}, (z.cps.toList.all fun c => decide (c < 0x110000)) = true → SOk z := fun {z} k c hc => by
      have := List.all_eq_true.mp k c hc
      exact of_decide_eq_true this
    refine Evl.q_when (b := decide (V.int plan = V.int 2)) (Evl.et_test (Evl.ev_op (Evl.ev_var rfl) Evl.ev_c (Evl.rv_eq rfl))) (fun _ H6 e6 => ?_) (fun _ H6 e6 => ?_)
    · have D6 := D5.ex e6
      refine ⟨.str z, rfl, .int (sp : Int), rfl, (sp : Int), rfl, z, rfl, zs, .str ⟨#[c]⟩, rfl, Nat.le_trans (by decide : 3 ≤ 1000) (by decide), fun p np => ?_⟩
      refine ⟨.ref st, rfl, st, 3, n + 3, rfl, D6.new np, by omega, by omega, by omega, fun d7 H7 d70 d71 D7 k7 => ?_⟩
      have ap7 := k7 _ _ (D6.fresh np)
      obtain ⟨v, hv, hm⟩ := atI_some (xs := [V.str " ", V.str "-", V.str ⟨#[c]⟩]) d70 d71
      obtain ⟨y, rfl, yl, yo⟩ : ∃ y : Str, v = .str y ∧ y.length = 1 ∧ SOk y := by
        simp only [List.mem_cons, List.not_mem_nil, or_false] at hm
        rcases hm with rfl | rfl | rfl
        · exact ⟨_, rfl, by decide +kernel, lit (by decide +kernel)⟩
        · exact ⟨_, rfl, by decide +kernel, lit (by decide +kernel)⟩
        · exact ⟨_, rfl, rfl, sco⟩
      refine ⟨p, _, d7, .str y, rfl, rfl, Evl.sq_of ap7.1, hv, _, y, rfl, rfl, Evl.sz_of (by omega), .str z, rfl, .int (sp : Int), rfl, (sp : Int), rfl, z, rfl, zs, _, _, rfl, rfl, Evl.sz_of (by rw [len_append]; omega), ?_⟩
      exact hQ _ H7 (D7.mono (by omega)) (by rw [len_append, len_append]; omega) (sok_append (sok_append t0.2 yo) f0.2)
    have D6 := D5.ex e6
    have pok : ∀ y ∈ Txt.split z " ", SOk y := fun y hy x hx => ho x ((split_part hy).2 x hx)
    have wd := split_wd z
    have pl := split_len z
    have pn := split_ne z
    refine ⟨.str z, rfl, ⟨z, rfl⟩, z, " ", rfl, rfl, by decide +kernel, Evl.sz_of (by omega), fun q nq => ?_⟩
    revert pok wd pl pn
    generalize Txt.split z " " = ps
    intro pok wd pl pn
    refine ⟨.ref st, rfl, .ref q, rfl, q, ps.map V.str, rfl, .inl (Evl.sq_of upd_same), st, ((ps.map V.str).length : Int), n + 3, rfl, D6.new nq, by omega, by rw [List.length_map]; omega, by rw [List.length_map]; omega, fun d8 H8 d80 d81 D8 k8 => ?_⟩
    have aq := k8 _ _ (D6.fresh (o := .lst (ps.map V.str)) nq)
    obtain ⟨k, rfl⟩ : ∃ k : Nat, d8 = (k : Int) := ⟨d8.toNat, by omega⟩
    have sq8 : SqL K H8 q (ps.map V.str) := Evl.sq_of aq.1
    dsimp only [gName]
    refine Evl.q_when (b := decide (V.int plan = V.int 3)) (Evl.et_test (Evl.ev_op (Evl.ev_var rfl) Evl.ev_c (Evl.rv_eq rfl))) (fun _ H9 e9 => ?_) (fun _ H9 e9 => ?_)
    · have hws : ((ps.map V.str).take k ++ ((ps.map V.str).drop k).reverse) = (ps.take k ++ (ps.drop k).reverse).map V.str := by rw [List.map_append, List.map_take, List.map_reverse, List.map_drop]
      have hwd : Wd (ps.take k ++ (ps.drop k).reverse) ≤ 2 * z.length + 2 := by
        rw [wd_append, wd_rev]
        have h1 := wd_take k ps
        have h2 := wd_drop k ps
        omega
      have hjo : SOk (Txt.join " " (ps.take k ++ (ps.drop k).reverse)) := join_sok fun y hy => by
        rcases List.mem_append.mp hy with h | h
        · exact pok y (List.mem_of_mem_take h)
        · exact pok y (List.mem_of_mem_drop (List.mem_reverse.mp h))
      refine Evl.s_ret (v := .str (Txt.join " " (ps.take k ++ (ps.drop k).reverse))) (ev_joinL ?_ ?_) fun H10 e10 => hQ _ H10 (((D8.ex e9).ex e10).mono (by omega)) (Nat.le_trans (join_wd _) hwd) hjo
      · rw [← hws]
        refine el_cat ?_ (el_rev ?_) ?_
        · rw [← cutV_to]
          exact Evl.el_sl (Evl.ev_var rfl) Evl.eo_none (Evl.eo_some (Evl.ev_var rfl)) (Evl.ex_l e9 sq8)
        · rw [← cutV_from]
          exact Evl.el_sl (Evl.ev_var rfl) (Evl.eo_some (Evl.ev_var rfl)) Evl.eo_none (Evl.ex_l e9 sq8)
        · rw [List.length_reverse, List.length_take, List.length_drop, List.length_map]
          omega
      · have := hwd
        unfold Wd at this
        show _ + _ * 1 ≤ 16777216
        omega
    · have hws : ((ps.map V.str).take (k + 1) ++ (ps.map V.str).drop k) = (ps.take (k + 1) ++ ps.drop k).map V.str := by rw [List.map_append, List.map_take, List.map_drop]
      have hwd : Wd (ps.take (k + 1) ++ ps.drop k) ≤ 2 * z.length + 2 := by
        rw [wd_append]
        have h1 := wd_take (k + 1) ps
        have h2 := wd_drop k ps
        omega
      have hjo : SOk (Txt.join " " (ps.take (k + 1) ++ ps.drop k)) := join_sok fun y hy => by
        rcases List.mem_append.mp hy with h | h
        · exact pok y (List.mem_of_mem_take h)
        · exact pok y (List.mem_of_mem_drop h)
      refine Evl.s_ret (v := .str (Txt.join " " (ps.take (k + 1) ++ ps.drop k))) (ev_joinL ?_ ?_) fun H10 e10 => hQ _ H10 (((D8.ex e9).ex e10).mono (by omega)) (Nat.le_trans (join_wd _) hwd) hjo
      · rw [← hws]
        refine el_cat ?_ ?_ ?_
        · rw [← cutV_to]
          exact Evl.el_sl (Evl.ev_var rfl) Evl.eo_none (Evl.eo_some (Evl.ev_is (Evl.ev_op (Evl.ev_var rfl) Evl.ev_c Evl.rv_I0) (congrArg V.int (by omega)))) (Evl.ex_l e9 sq8)
        · rw [← cutV_from]
          exact Evl.el_sl (Evl.ev_var rfl) (Evl.eo_some (Evl.ev_var rfl)) Evl.eo_none (Evl.ex_l e9 sq8)
        · rw [List.length_take, List.length_drop, List.length_map]
          omega
      · have := hwd
        unfold Wd at this
        show _ + _ * 1 ≤ 16777216
        omega
end
end Lw

namespace Lw
open PySem PySem.Spec PyProof.Rows L2
abbrev s_law_due : Stmt := topS 20
abbrev n_law_due : List Str := ["_law_word", "_law_words", "_law_one"]
theorem sc_law_due : FnScope n_law_due ["_law_word"] (defScope s_law_due) := ⟨rfl, rfl, rfl, by decide +kernel, rfl, by decide +kernel, by decide +kernel⟩
section
variable {P : Program} {w : World} {K : PySem.W.Frag} {mg : Str → Option Value} {base : Heap}
def dueAt (t : Str) (H1 : Hp) (Q : VK) : Prop := match rd t with
  | none => Q .non H1
  | some ns => ∀ p, H1 p = none → Q (.ref p) (upd H1 p (.tup (ns.map V.str)))
def sp_ldue : Sp := fun vs H Q _ => ∃ t : Str, vs = [.str t] ∧ t.length ≤ 990 ∧ SOk t ∧ ∀ H1, Evl.Ex H H1 → dueAt t H1 Q
theorem ok_ldue {f fG : Addr} {fd fdG : FuncData} (F : Fun K "_law_due" "_law_due" s_law_due f fd)
    (F_law_good : Fun K "_law_good" "_law_good" s_law_good fG fdG) (b_law_good : Binds K fdG ["_law_word"] []) (g_law_good : mg "_law_good" = some (.ref fG)) (G_law_good : FnOk P w K mg base CX0 1 fG fdG ["_law_word"] sp_vn)
    (m_len : mg "len" = none) (m_set : mg "set" = none) (m_tuple : mg "tuple" = none) (m_sorted : mg "sorted" = none) : FnOk P w K mg base CX0 2 f fd ["_law_word"] sp_ldue := by
  refine F.ok sc_law_due (fun vs H Q E h => ?_) (fun cdv A outer s H vs Q E hr h => ?_)
  · obtain ⟨t, rfl, _⟩ := h
    rfl
  · obtain ⟨t, rfl, hL, hO, hQ⟩ := h
    refine ⟨_, (pss_cons (ps_if (pt_cmpR op_eq (pv 0) pe_str (nomark _))
   (pss_one (ps_ret (pe_tup pa_nil)))
   pss_nil)
  (pss_cons (ps_set (i := 1) sc_law_due.nd rfl (by first | exact .inl rfl | exact .inr rfl) (pe_split (pv 0) pe_str))
  (pss_cons (ps_if (PW.pt (pw_or (pt_cmpR op_gt (pe_callB call_len_seq (by rfl) m_len PySem.boot_len (pa_cons (pv 1) pa_nil)) pe_int (nomark _)) (pw_or1 (pt_cmpR (op_neD hr.units) (pe_lc (own := [("_law_one", 2)]) (g := gName 2) (by rfl) sc_law_due.nd (pi_list (pv 1)) (blkOk_by (own := [("_law_one", 2)]) (N := n_law_due) (sc := defScope s_law_due) (by decide +kernel)) (fun _ _ _ _ _ => pg_name (i := 2) sc_law_due.nd rfl (by first | exact .inl rfl | exact .inr rfl)) (fun _ _ _ _ _ => (pts_one (pt_not (pt_val (pe_call G_law_good (hr.mono (by decide)) (by rfl) g_law_good F_law_good.kp b_law_good .nil pass0 (pa_cons (pv 2) pa_nil)))))) (fun _ _ _ _ _ => (pv 2))) (pe_lst pa_nil) (nomark _)))))
   (pss_one (ps_ret pe_non))
   pss_nil)
  (pss_cons (ps_if (pt_cmpR (op_neD hr.units) (pv 1) (pe_callB (cr_sortTx rfl hr.units) (by rfl) m_sorted (by decide +kernel) (pa_cons (pe_callTy (cr_setTx rfl) (by rfl) m_set (by decide +kernel) (pa_cons (pv 1) pa_nil)) pa_nil)) (nomark _))
   (pss_one (ps_ret pe_non))
   pss_nil)
  (pss_one (ps_ret (pe_callTy call_tuple_of (by rfl) m_tuple (by decide +kernel) (pa_cons (pv 1) pa_nil)))))))), ?_⟩
    refine Evl.q_when (b := decide (V.str t = V.str "-")) (Evl.et_test (Evl.ev_op (Evl.ev_var rfl) Evl.ev_c (Evl.rv_eq rfl))) (fun hb H1 e1 => ⟨Nat.zero_le _, fun p np => ?_⟩) (fun hb H1 e1 => ?_)
    · have hr : rd t = some [] := by
        have := V.str.inj (of_decide_eq_true hb)
        unfold rd
        rw [if_pos this]
      have := hQ H1 e1
      rw [dueAt, hr] at this
      exact this p np
    have hne : t ≠ "-" := fun z => by
      rw [z] at hb
      exact absurd rfl (of_decide_eq_false hb)
    have hp : ∀ z ∈ Txt.split t " ", z.length ≤ 1000 ∧ SOk z := fun z hz => part_ok hL hO hz
    have hnl := split_len t
    have hrd : rd t = if 5 < (Txt.split t " ").length ∨ ¬ (∀ z ∈ Txt.split t " ", vn z = true) then none else if Txt.split t " " = sd (Txt.split t " ") then some (Txt.split t " ") else none := by
      unfold rd
      rw [if_neg hne]
    refine ⟨.str t, rfl, ⟨t, rfl⟩, t, " ", rfl, rfl, by decide +kernel, Evl.sz_of (by omega), fun p np => ?_⟩
    revert hp hnl hrd
    generalize Txt.split t " " = ns
    intro hp hnl hrd
    have e2 := e1.trans (Evl.Ex.new (o := .lst (ns.map V.str)) np)
    have gp : (upd H1 p (.lst (ns.map V.str))) p = some (.lst (ns.map V.str)) := upd_same
    dsimp only [gName]
    have oks : ∀ z ∈ ns, SOk z := fun z hz => (hp z hz).2
    have comp := el_lcM (K := K) (H := upd H1 p (.lst (ns.map V.str))) (σ := [some (.str t), some (.ref p), none]) (j := 2) (vs := [2]) (t := tNot (tB (tCall sp_vn [] E0 (tCons (tVar 2) tNil)))) (tl := tVar 1) (te := tVar 2) (xs := ns) (cv := V.str) (fun z => !vn z) V.str (Evl.ev_var rfl) (Evl.sq_of gp) (by omega) (fun _ => rfl) (fun c H4 _ hc => Evl.et_not (Evl.et_B (Evl.ev_call (Evl.ea_cons (Evl.ev_var rfl) Evl.ea_nil) fun H5 e5 Q q E => ⟨c, rfl, (hp c hc).1, (hp c hc).2, fun H6 e6 => q H6 e6⟩))) (fun c H4 _ hc _ => Evl.ev_var rfl)
    refine Evl.q_when (b := decide ((5 : Int) < (ns.length : Int)) || !(decide ((ns.filter fun z => !vn z) = []))) (Evl.et_or (Evl.et_test (Evl.ev_op (Evl.ev_is (Evl.ev_cb (Evl.ea_cons (Evl.ev_var rfl) Evl.ea_nil) (rc_lenL (Evl.sq_of gp))) (by rw [List.length_map])) Evl.ev_c Evl.rv_I0)) fun _ => Evl.et_test (Evl.ev_is (Evl.ev_opLL comp (Evl.el_lst Evl.ea_nil (by decide)) fun q r H4 hq hr' e4 => rv_neD (fun H5 e5 => dp_strs (Evl.sq_of (e5 _ _ hq))) (fun H5 e5 => dp_empty (Evl.sq_of (e5 _ _ hr'))) ((good_strs fun z hz => oks z (List.mem_filter.mp hz).1).shaped (by decide)) sh_empty) (by rw [eqv_nil_map]))) (fun hb H3 e3 => ?_) (fun hb H3 e3 => ?_)
    · have hr : rd t = none := by
        rw [hrd, if_pos]
        rw [Bool.or_eq_true, decide_eq_true_iff] at hb
        rcases hb with h | h
        · exact .inl (by omega)
        · refine .inr fun k => ?_
          have : (ns.filter fun z => !vn z) = [] := List.filter_eq_nil_iff.mpr fun z hz => by rw [k z hz]; simp
          rw [decide_eq_true this] at h
          cases h
      refine Evl.s_ret Evl.ev_c fun H4 e4 => ?_
      have := hQ H4 ((e2.trans e3).trans e4)
      rw [dueAt, hr] at this
      exact this
    have h2 : ¬ (5 < ns.length ∨ ¬ (∀ z ∈ ns, vn z = true)) := fun k => by
      rw [Bool.or_eq_false_iff, decide_eq_false_iff_not, Bool.not_eq_false', decide_eq_true_iff, List.filter_eq_nil_iff] at hb
      rcases k with k | k
      · exact hb.1 (by omega)
      · refine k fun z hz => ?_
        have := hb.2 z hz
        cases hv : vn z with
        | true => rfl
        | false =>
          rw [hv] at this
          exact absurd rfl this
    rw [if_neg h2] at hrd
    have g3 := e3 _ _ gp
    have oks2 : ∀ z ∈ sd ns, SOk z := fun z hz => oks z (dd_mem.mp (srt_mem.mp hz))
    refine Evl.q_when (b := !decide (ns = sd ns)) (Evl.et_test (Evl.ev_is (Evl.ev_opL (Evl.ev_var rfl) (el_sortset (Evl.ev_var rfl) (Evl.sq_of g3) (by omega)) fun q H4 hq e4 => rv_neD (fun H5 e5 => dp_strs (Evl.sq_of ((e4.trans e5) _ _ g3))) (fun H5 e5 => dp_strs (Evl.sq_of (e5 _ _ hq))) ((good_strs oks).shaped (by decide)) ((good_strs oks2).shaped (by decide))) (by rw [eqv_strs]))) (fun hb2 H4 e4 => ?_) (fun hb2 H4 e4 => ?_)
    · rw [if_neg (by simpa using hb2)] at hrd
      refine Evl.s_ret Evl.ev_c fun H5 e5 => ?_
      have := hQ H5 (((e2.trans e3).trans e4).trans e5)
      rw [dueAt, hrd] at this
      exact this
    · rw [if_pos (by simpa using hb2)] at hrd
      refine ⟨.ref p, rfl, p, ns.map V.str, rfl, .inl ⟨Evl.sq_of (e4 _ _ g3), fun l nl => ?_⟩⟩
      have := hQ H4 ((e2.trans e3).trans e4)
      rw [dueAt, hrd] at this
      exact this l nl
end
end Lw

namespace Lw
open PySem PySem.Spec PyProof.Rows L2
theorem rd_ok {t : Str} {ns : List Str} (ho : SOk t) (h : rd t = some ns) : (∀ z ∈ ns, SOk z) ∧ btext ns = t ∧ Wd ns ≤ t.length + 1 := by
  unfold rd at h
  split at h
  · rename_i e
    cases h
    exact ⟨(fun z hz => by cases hz), by unfold btext; rw [if_pos rfl, e], by unfold Wd; exact Nat.zero_le _⟩
  · split at h
    · cases h
    · split at h
      · cases h
        refine ⟨fun z hz c hc => ho c ((split_part hz).2 c hc), ?_, split_wd t⟩
        unfold btext
        rw [if_neg (List.length_pos_iff.mp (split_ne t)), join_split1]
      · cases h
theorem sum_le {ws : List Str} {m : Nat} (h : ∀ z ∈ ws, z.length ≤ m) : (ws.map (·.length)).sum ≤ m * ws.length := by
  induction ws with
  | nil => exact Nat.zero_le _
  | cons x r ih =>
    rw [List.map_cons, List.sum_cons, List.length_cons, Nat.mul_succ]
    have h1 := h x List.mem_cons_self
    have h2 := ih fun z hz => h z (List.mem_cons_of_mem _ hz)
    omega
abbrev s_law : Stmt := topS 21
abbrev n_law : List Str := ["_law_script", "_law_state", "_law_words", "_law_word", "_law_turn", "_law_due_here", "_law_told", "e"]
theorem sc_law : FnScope n_law ["_law_script"] (defScope s_law) := ⟨rfl, rfl, rfl, by decide +kernel, rfl, by decide +kernel, by decide +kernel⟩
section
variable {P : Program} {w : World} {K : PySem.W.Frag} {mg : Str → Option Value} {base : Heap}
def sp_law (K : PySem.W.Frag) : Sp := fun vs H Q _ => ∃ (a : Addr) (ns : List Int), vs = [.ref a] ∧ SqL K H a (ns.map V.int) ∧ ns.length ≤ 63 ∧ ∀ H', Q (.bl true) H'
theorem ok_law {f f1 f2 f3 f4 f5 f6 f7 CE CT : Addr} {fd fd1 fd2 fd3 fd4 fd5 fd6 fd7 : FuncData} (F : Fun K "law" "law" s_law f fd)
    (X_BadText : XfC K CT) (I_BadText : IsC K CT) (no_BadText : PySem.W.findIn K (.ref CT) "text" = some none) (g_BadText : mg "BadText" = some (.ref CT)) (g_BundleError : mg "BundleError" = some (.ref CE))
    (wtt : PySem.W.exmOne K (.ref CT) (.ref CT) = some true) (wte : PySem.W.kitOne K (.ref CT) (.ref CE) = some true)
    (F_law_start : Fun K "_law_start" "_law_start" s_law_start f1 fd1) (b_law_start : Binds K fd1 ["_law_script"] []) (g_law_start : mg "_law_start" = some (.ref f1)) (G_law_start : FnOk P w K mg base CX0 1 f1 fd1 ["_law_script"] (sp_start K))
    (F_law_draw : Fun K "_law_draw" "_law_draw" s_law_draw f2 fd2) (b_law_draw : Binds K fd2 ["_law_state", "_law_size"] []) (g_law_draw : mg "_law_draw" = some (.ref f2)) (G_law_draw : FnOk P w K mg base CX0 1 f2 fd2 ["_law_state", "_law_size"] sp_draw)
    (F_law_names : Fun K "_law_names" "_law_names" s_law_names f3 fd3) (b_law_names : Binds K fd3 ["_law_state", "_law_count"] []) (g_law_names : mg "_law_names" = some (.ref f3)) (G_law_names : FnOk P w K mg base CX0 2 f3 fd3 ["_law_state", "_law_count"] sp_names)
    (F_law_spoiled : Fun K "_law_spoiled" "_law_spoiled" s_law_spoiled f4 fd4) (b_law_spoiled : Binds K fd4 ["_law_state", "_law_word"] []) (g_law_spoiled : mg "_law_spoiled" = some (.ref f4)) (G_law_spoiled : FnOk P w K mg base CX0 2 f4 fd4 ["_law_state", "_law_word"] sp_spoil)
    (F_law_due : Fun K "_law_due" "_law_due" s_law_due f5 fd5) (b_law_due : Binds K fd5 ["_law_word"] []) (g_law_due : mg "_law_due" = some (.ref f5)) (G_law_due : FnOk P w K mg base CX0 2 f5 fd5 ["_law_word"] sp_ldue)
    (F_read_bundle : Fun K "read_bundle" "read_bundle" s_read_bundle f6 fd6) (b_read_bundle : Binds K fd6 ["text"] []) (g_read_bundle : mg "read_bundle" = some (.ref f6)) (G_read_bundle : FnOk P w K mg base (L2.CX P w) 3 f6 fd6 ["text"] (sp_read CT))
    (kb_read_bundle_text : KBinds K fd6 ["text"] ["text"] (fun us ws => us ++ ws) (fun us ws => us ++ ws))
    (F_bundle_text : Fun K "bundle_text" "bundle_text" s_bundle_text f7 fd7) (b_bundle_text : Binds K fd7 ["bundle"] []) (g_bundle_text : mg "bundle_text" = some (.ref f7)) (G_bundle_text : FnOk P w K mg base CX0 1 f7 fd7 ["bundle"] (sp_btext K))
    (kb_bundle_text_bundle : KBinds K fd7 ["bundle"] ["bundle"] (fun us ws => us ++ ws) (fun us ws => us ++ ws))
    (m_range : mg "range" = none) (m_sorted : mg "sorted" = none) (m_tuple : mg "tuple" = none) (m_isinstance : mg "isinstance" = none) : FnOk P w K mg base CX0 4 f fd ["_law_script"] (sp_law K) := by
  refine F.ok sc_law (fun vs H Q E h => ?_) (fun cdv A outer s H vs Q E hr h => ?_)
  · obtain ⟨a, ns, rfl, _⟩ := h
    rfl
  · obtain ⟨a, ns, rfl, hS, hlen, hQ⟩ := h
    refine ⟨_, (pss_cons (ps_set (i := 1) sc_law.nd rfl (by first | exact .inl rfl | exact .inr rfl) (pe_call G_law_start (hr.mono (by decide)) (by rfl) g_law_start F_law_start.kp b_law_start .nil pass0 (pa_cons (pv 0) pa_nil)))
  (pss_cons (ps_set (i := 2) sc_law.nd rfl (by first | exact .inl rfl | exact .inr rfl) (pe_callB (cr_sortedM hr.units) (by rfl) m_sorted (by decide +kernel) (pa_cons (pe_call G_law_names (hr.mono (by decide)) (by rfl) g_law_names F_law_names.kp b_law_names .nil pass0 (pa_cons (pv 1) (pa_cons (pe_call G_law_draw (hr.mono (by decide)) (by rfl) g_law_draw F_law_draw.kp b_law_draw .nil pass0 (pa_cons (pv 1) (pa_cons pe_int pa_nil))) pa_nil))) pa_nil)))
  (Evl.pss_cut (ps_set (i := 3) sc_law.nd rfl (by first | exact .inl rfl | exact .inr rfl) (pe_join pe_str (pv 2)))
  (Evl.pss_cut (ps_if (PW.pt (pw_and (pt_cmpR (op_eqD hr.units) (pv 2) (pe_lst pa_nil) (nomark _)) (pw_and1 (pt_cmpR op_eq (pe_call G_law_draw (hr.mono (by decide)) (by rfl) g_law_draw F_law_draw.kp b_law_draw .nil pass0 (pa_cons (pv 1) (pa_cons pe_int pa_nil))) pe_int (nomark _)))))
   (pss_one (ps_set (i := 3) sc_law.nd rfl (by first | exact .inl rfl | exact .inr rfl) pe_str))
   pss_nil)
  (Evl.pss_cut (ps_for PassesOwn.never rfl  (pi_range1 (by rfl) m_range (pa_cons (pe_ix ix_list (pe_lst (pa_cons pe_int (pa_cons pe_int (pa_cons pe_int pa_nil)))) (pe_call G_law_draw (hr.mono (by decide)) (by rfl) g_law_draw F_law_draw.kp b_law_draw .nil pass0 (pa_cons (pv 1) (pa_cons pe_int pa_nil))) (fun _ _ => rfl)) pa_nil)) (pg_name (i := 4) sc_law.nd rfl (by first | exact .inl rfl | exact .inr rfl))
   (pss_one (ps_set (i := 3) sc_law.nd rfl (by first | exact .inl rfl | exact .inr rfl) (pe_call G_law_spoiled (hr.mono (by decide)) (by rfl) g_law_spoiled F_law_spoiled.kp b_law_spoiled .nil pass0 (pa_cons (pv 1) (pa_cons (pv 3) pa_nil))))))
  (pss_cons (ps_set (i := 5) sc_law.nd rfl (by first | exact .inl rfl | exact .inr rfl) (pe_call G_law_due (hr.mono (by decide)) (by rfl) g_law_due F_law_due.kp b_law_due .nil pass0 (pa_cons (pv 3) pa_nil)))
  (pss_cons (ps_try_named rfl rfl sc_law.nd takes0 (fun W pn xe tk _ => (pss_one (ps_set (i := 6) sc_law.nd rfl (by first | exact .inl rfl | exact .inr rfl) (pe_callS G_read_bundle (hr.mono (by decide)) (by rfl) g_read_bundle F_read_bundle.kp b_read_bundle (fun σ => passAt tk σ) (pa_cons (pv 3) pa_nil))))) (.cons ⟨by rfl, by decide, .inl g_BadText⟩ (i := 7) rfl rfl (fun a oe cls d pn hz hf => (pss_one (ps_ret (pe_and (pe_cmpR op_isN (pv 5) pe_non (nomark _)) (pe_and (pe_cmpR op_eq (pe_xf X_BadText no_BadText hz hf (pv 7)) (pv 3) (nomark _)) (pe_one (pe_callB (call_isX hz hf) (by rfl) m_isinstance (by decide +kernel) (pa_cons (pv 7) (pa_cons (pe_cls (by rfl) g_BundleError) pa_nil))))))))) .nil))
  (pss_cons (ps_if (PW.pt (pw_or (pt_cmpR op_isN (pv 5) pe_non (nomark _)) (pw_or (pt_not (pt_val (pe_callB call_isi (by rfl) m_isinstance (by decide +kernel) (pa_cons (pv 6) (pa_cons (pe_bltn (v := .ty "tuple") (by rfl) m_tuple (by decide +kernel) rfl) pa_nil))))) (pw_or1 (pt_cmpR (op_neD hr.units) (pv 6) (pv 5) (nomark _))))))
   (pss_one (ps_ret pe_bl))
   pss_nil)
  (pss_one (ps_ret (pe_and (pe_cmpR op_eq (pe_call G_bundle_text (hr.mono (by decide)) (by rfl) g_bundle_text F_bundle_text.kp b_bundle_text .nil pass0 (pa_cons (pv 6) pa_nil)) (pv 3) (nomark _)) (pe_and (pe_cmpR op_eq (pe_callK0 G_bundle_text (hr.mono (by decide)) (by rfl) g_bundle_text F_bundle_text.kp kb_bundle_text_bundle pass0 (pk_cons (pv 5) pk_nil)) (pv 3) (nomark _)) (pe_one (pe_cmpR (op_eqD hr.units) (pe_callK0 G_read_bundle (hr.mono (by decide)) (by rfl) g_read_bundle F_read_bundle.kp kb_read_bundle_text passL (pk_cons (pv 3) pk_nil)) (pv 5) (nomark _))))))))))))))), ?_⟩
    refine ⟨.ref a, rfl, a, ns, rfl, hS, hlen, fun st H1 D1 _ => ?_⟩
    have lit : ∀ {z : Str}, (z.cps.toList.all fun c => decide (c < 0x110000)) = true → SOk z := fun {z} k c hc => by
      have := List.all_eq_true.mp k c hc
      exact of_decide_eq_true this
    refine ⟨.ref st, rfl, .ref st, rfl, st, 8, 0, rfl, D1, by omega, by omega, by omega, fun d H2 d0 d1 D2 k2 => ⟨st, d, 1, rfl, D2, by omega, by omega, by omega, fun p ws0 H3 D3 k3 fr ap hl hv nd => ?_⟩⟩
    refine ⟨Str, p, ws0, V.str, PyData.str, rfl, .inl (Evl.sq_of ap.1), fun b _ => .str b, PySem.W.AllAlike.of fun _ _ => rfl, PySem.W.Sortable.others fun _ => ⟨(by intro h; cases h), (by intro _ h; cases h)⟩, fun b _ => by simp [PyData.depth], fun q nq => ?_⟩
    have D4 : DS (upd H3 q (.lst ((srt ws0).map V.str))) st 21 := D3.new nq
    have aq : (upd H3 q (.lst ((srt ws0).map V.str))) q = some (.lst ((srt ws0).map V.str)) := upd_same
    have hvs : ∀ z ∈ srt ws0, vn z = true := fun z hz => hv z (srt_mem.mp hz)
    have hls : (srt ws0).length ≤ 7 := by rw [srt_len]; omega
    show Evl.tCut _ _ _ _ (upd H3 q (.lst ((srt ws0).map V.str)))
    revert D4 aq hvs hls
    generalize srt ws0 = ws
    intro D4 aq hvs hls
    have hsum : (ws.map (·.length)).sum ≤ 6 * ws.length := sum_le fun z hz => (vn_parts (hvs z hz)).2.1
    have hoks : ∀ z ∈ ws, SOk z := fun z hz => vn_sok (hvs z hz)
    generalize upd H3 q (.lst (ws.map V.str)) = H4 at D4 aq
    refine ⟨fun σ' H' => ∃ w : Str, σ' = [some (.ref a), some (.ref st), some (.ref q), some (.str w), none, none, none, none] ∧ DS H' st 100 ∧ H' q = some (.lst (ws.map V.str)) ∧ w.length ≤ 60 ∧ SOk w, ?_, ?_⟩
    · refine ⟨⟨_, rfl⟩, .ref q, rfl, _, q, ws, rfl, rfl, .inl (Evl.sq_of aq), ?_, _, rfl, D4.mono (by omega), aq, ?_, join_sok hoks⟩
      · show _ + _ * 1 ≤ 16777216
        omega
      · refine Nat.le_trans (join_wd ws) ?_
        unfold Wd
        omega
    rintro σ' H5 ⟨w0, rfl, D5, aq5, wl0, wo0⟩
    refine ⟨fun σ' H' => ∃ w : Str, σ' = [some (.ref a), some (.ref st), some (.ref q), some (.str w), none, none, none, none] ∧ DS H' st 102 ∧ w.length ≤ 60 ∧ SOk w, ?_, ?_⟩
    · refine ⟨.ref q, rfl, Nat.zero_le _, fun e ne => ⟨_, _, dp_strs (Evl.sq_of ((Evl.Ex.new ne) _ _ aq5)), dp_empty (Evl.sq_of upd_same), (good_strs hoks).shaped (by decide), sh_empty, _, rfl, ?_⟩⟩
      have D6 := D5.new (o := .lst []) ne
      rw [eqv_nil_map]
      by_cases h0 : ws = []
      · rw [decide_eq_true h0]
        refine ⟨.ref st, rfl, st, 2, 100, rfl, D6, by omega, by omega, by omega, fun d7 H7 d70 d71 D7 _ => ⟨rfl, _, rfl, ite2 (fun _ => ?_) (fun _ => ?_)⟩⟩
        · exact ⟨_, rfl, D7.mono (by omega), by decide +kernel, lit (by decide +kernel)⟩
        · exact ⟨w0, rfl, D7.mono (by omega), wl0, wo0⟩
      · rw [decide_eq_false h0]
        exact ⟨w0, rfl, D6.mono (by omega), wl0, wo0⟩
    clear D5 aq5 wl0 wo0
    rintro σ' H6 ⟨w1, rfl, D6, wl1, wo1⟩
    refine ⟨fun σ' H' => ∃ (w : Str) (o4 : Option V), σ' = [some (.ref a), some (.ref st), some (.ref q), some (.str w), o4, none, none, none] ∧ w.length ≤ 300 ∧ SOk w, ?_, ?_⟩
    · refine ⟨Nat.le_trans (by decide : 3 ≤ 1000) (by decide), fun p7 np7 => ?_⟩
      refine ⟨.ref st, rfl, st, 3, 102, rfl, D6.new np7, by omega, by omega, by omega, fun d7 H7 d70 d71 D7 k7 => ?_⟩
      have ap7 := k7 _ _ (D6.fresh np7)
      obtain ⟨v, hv7, hm⟩ := atI_some (xs := [V.int 0, V.int 1, V.int 2]) d70 d71
      obtain ⟨size, rfl, hs0, hs1⟩ : ∃ size : Int, v = .int size ∧ 0 ≤ size ∧ size ≤ 2 := by
        simp only [List.mem_cons, List.not_mem_nil, or_false] at hm
        rcases hm with rfl | rfl | rfl <;> exact ⟨_, rfl, by omega, by omega⟩
      refine ⟨p7, _, d7, .int size, rfl, rfl, Evl.sq_of ap7.1, hv7, size, rfl, by omega, by omega, for_range (lo := 0) (n := size.toNat) (fun i σ' H' => ∃ (w : Str) (o4 : Option V), σ' = [some (.ref a), some (.ref st), some (.ref q), some (.str w), o4, none, none, none] ∧ DS H' st (103 + 10 * i) ∧ w.length ≤ (if i = 0 then 60 else if i = 1 then 122 else 246) ∧ SOk w)
        ⟨w1, _, rfl, D7, by simpa using wl1, wo1⟩ (fun i σ' H' hi ⟨w, o4, es, Di, wl, wo⟩ => ?_) (fun σ' H' ⟨w, o4, es, Di, wl, wo⟩ => ⟨w, o4, es, by split at wl; omega; split at wl <;> omega, wo⟩)⟩
      subst es
      refine ⟨.ref st, rfl, .str w, rfl, st, w, 103 + 10 * i, rfl, Di, by omega, by split at wl; omega; split at wl <;> omega, wo, fun y H' D' yl yo => ⟨y, _, rfl, D'.mono (by omega), ?_, yo⟩⟩
      have : i = 0 ∨ i = 1 := by omega
      rcases this with rfl | rfl
      · simp at wl ⊢
        omega
      · simp at wl ⊢
        omega
    clear D6 wl1 wo1
    rintro σ' H7 ⟨w, o4, rfl, wl, wo⟩
    refine ⟨.str w, rfl, w, rfl, by omega, wo, fun H8 e8 => ?_⟩
    cases hrd : rd w with
    | none =>
      rw [dueAt, hrd]
      refine ⟨.str w, rfl, w, rfl, by omega, wo, fun H9 e9 => ?_⟩
      rw [readAt, hrd]
      intro d nd'
      refine ⟨true, wtt, fun _ x na => ?_, (fun h => nomatch h)⟩
      refine ⟨.non, rfl, rfl, _, rfl, ?_⟩
      rw [decide_eq_true rfl]
      refine ⟨.ref x, rfl, rfl, rfl, d, _, .str w, rfl, upd_same, by simp [List.lookup], .str w, rfl, rfl, _, rfl, ?_⟩
      rw [decide_eq_true rfl]
      exact ⟨.ref x, rfl, CT, .ref CE, .ref CE, true, d, _, I_BadText, rfl, rfl, upd_same, rfl, .own CE, wte, hQ _⟩
    | some ns2 =>
      obtain ⟨nso, nsb, nsw⟩ := rd_ok wo hrd
      have nsh : SeqAt.shaped (.tuple (ns2.map PyData.str)) = true := (good_strsT nso).shaped (by decide)
      have bound : (ns2.map (·.length)).sum + ns2.length ≤ 16777216 := by
        unfold Wd at nsw
        omega
      rw [dueAt, hrd]
      intro p8 np8
      refine ⟨.str w, rfl, w, rfl, by omega, wo, fun H9 e9 => ?_⟩
      rw [readAt, hrd]
      intro p9 np9
      have g8 := (e9.trans (Evl.Ex.new (o := .tup (ns2.map V.str)) np9)) _ _ (upd_same (H := H8) (a := p8) (o := .tup (ns2.map V.str)))
      have g9 : (upd H9 p9 (.tup (ns2.map V.str))) p9 = some (.tup (ns2.map V.str)) := upd_same
      dsimp only [gName]
      refine Evl.q_when (b := false || (!true || !true)) (Evl.et_or (Evl.et_test ?_) fun _ => Evl.et_or (Evl.et_not (Evl.et_B ?_)) fun _ => Evl.et_test ?_) (fun hb => nomatch hb) (fun _ H10 e10 => ?_)
      · exact fun H10 e10 Q q => ⟨.ref p8, rfl, rfl, by rw [decide_eq_false (by intro h; cases h)]; exact q H10 (Evl.Ex.refl _)⟩
      · exact fun H10 e10 Q q => ⟨.ref p9, rfl, .ref p9, .ty "tuple", .type "tuple", .type "tuple", true, rfl, .ty _, .base (.tup (e10 _ _ g9)), kit_ty (by decide +kernel), q H10 (Evl.Ex.refl _)⟩
      · exact Evl.ev_is (Evl.ev_op (Evl.ev_var rfl) (Evl.ev_var rfl) (rv_neD (fun H10 e10 => dp_strsT (Evl.st_of (e10 _ _ g9))) (fun H10 e10 => dp_strsT (Evl.st_of (e10 _ _ g8))) nsh nsh)) (by rw [eqv_strsT, decide_eq_true rfl])
      refine Evl.s_ret (v := .bl true) (Evl.ev_is (Evl.ev_andV (a := decide (V.str (btext ns2) = V.str w)) (b := decide (V.str (btext ns2) = V.str w) && true) (Evl.ev_op ?_ (Evl.ev_var rfl) (Evl.rv_eq rfl)) fun _ => Evl.ev_andV (Evl.ev_op ?_ (Evl.ev_var rfl) (Evl.rv_eq rfl)) fun _ => ?_) (by rw [nsb, decide_eq_true rfl]; rfl)) fun H11 _ => hQ H11
      · exact fun H11 e11 Q q => ⟨.ref p9, rfl, p9, ns2, rfl, Evl.st_of ((e10.trans e11) _ _ g9), bound, fun H12 e12 => q H12 e12⟩
      · exact fun H11 e11 Q q => ⟨.ref p8, rfl, p8, ns2, rfl, Evl.st_of ((e10.trans e11) _ _ g8), bound, fun H12 e12 => q H12 e12⟩
      · intro H11 e11 Q q
        refine ⟨.str w, rfl, w, rfl, by omega, wo, fun H12 e12 => ?_⟩
        rw [readAt, hrd]
        intro p10 np10
        have en := Evl.Ex.new (o := .tup (ns2.map V.str)) np10
        refine ⟨.ref p8, rfl, .tuple (ns2.map PyData.str), .tuple (ns2.map PyData.str), dp_strsT (Evl.st_of upd_same), dp_strsT (Evl.st_of ((((e10.trans e11).trans e12).trans en) _ _ g8)), nsh, nsh, ?_⟩
        rw [eqv_strsT, decide_eq_true rfl]
        exact q _ (e12.trans en)
end
end Lw

namespace Lw
open PySem PySem.Spec PyProof.Rows L2
theorem all_mk {l : PySem.W.OpenLaw} {w : World} {K : PySem.W.Frag} {h : Heap} {mg : Str → Option Value} {fa f10 : Addr} (X : K.In h) (G : h.Ns mainGlobals mg) (hfa : mg "law" = some (.ref fa))
    {od0 an0 : Option Addr} {sl0 : Array (Option Value)} {oc0 kV0 dc0 pm0 cd0 ct0 : Value} {f0 : Addr} {od1 an1 : Option Addr} {sl1 : Array (Option Value)} {oc1 kV1 dc1 pm1 cd1 ct1 : Value} {f1 : Addr} {od2 an2 : Option Addr} {sl2 : Array (Option Value)} {oc2 kV2 dc2 pm2 cd2 ct2 : Value} {f2 : Addr} {od3 an3 : Option Addr} {sl3 : Array (Option Value)} {oc3 kV3 dc3 pm3 cd3 ct3 : Value} {f3 : Addr} {od4 an4 : Option Addr} {sl4 : Array (Option Value)} {oc4 kV4 dc4 pm4 cd4 ct4 : Value} {f4 : Addr} {od5 an5 : Option Addr} {sl5 : Array (Option Value)} {oc5 kV5 dc5 pm5 cd5 ct5 : Value} {f5 : Addr} {od6 an6 : Option Addr} {sl6 : Array (Option Value)} {oc6 kV6 dc6 pm6 cd6 ct6 : Value} {f6 : Addr} {od7 an7 : Option Addr} {sl7 : Array (Option Value)} {oc7 kV7 dc7 pm7 cd7 ct7 : Value} {f7 : Addr} {od8 an8 : Option Addr} {sl8 : Array (Option Value)} {oc8 kV8 dc8 pm8 cd8 ct8 : Value} {f8 : Addr} {od9 an9 : Option Addr} {sl9 : Array (Option Value)} {oc9 kV9 dc9 pm9 cd9 ct9 : Value} {f9 : Addr} {od10 an10 : Option Addr} {sl10 : Array (Option Value)} {oc10 kV10 dc10 pm10 cd10 ct10 : Value} {CBundleError : Addr} {CBadText IBadText NBadText : Addr} {nmBadText qBadText : Str} {bsBadText subBadText : List Value} {snBadText : List Str} {abBadText : Bool} {colBadText : Option Bool} {ddBadText : Option Addr} {m0BadText m1BadText m2BadText m3BadText m5BadText : Option Value} {odBadText anBadText : Option Addr} {slBadText : Array (Option Value)} {ocBadText kVBadText dcBadText pmBadText cdBadText ctBadText : Value} {u_LETTERS : Value} {u_DIGITS : Value} {u_MOST_SIGNS : Value} {u_MOST_GOODS : Value} {u_EMPTY_TEXT : Value}
    (a0 : PySem.W.nsIn K mainGlobals "valid_name" = some (some (.ref f0))) (l0 : K.lookup f0 = some ⟨oc0, od0, .func (PySem.W.fnOf "valid_name" "valid_name" (defArgs s_valid_name) (defBody s_valid_name) (defScope s_valid_name) .none kV0 dc0 pm0 an0 cd0 ct0), sl0⟩) (c0 : PySem.W.codeIn K cd0 "valid_name" = true) (k0 : PySem.W.keepIn K (.ref f0) = true)
    (a1 : PySem.W.nsIn K mainGlobals "bundle_text" = some (some (.ref f1))) (l1 : K.lookup f1 = some ⟨oc1, od1, .func (PySem.W.fnOf "bundle_text" "bundle_text" (defArgs s_bundle_text) (defBody s_bundle_text) (defScope s_bundle_text) .none kV1 dc1 pm1 an1 cd1 ct1), sl1⟩) (c1 : PySem.W.codeIn K cd1 "bundle_text" = true) (k1 : PySem.W.keepIn K (.ref f1) = true)
    (a2 : PySem.W.nsIn K mainGlobals "read_bundle" = some (some (.ref f2))) (l2 : K.lookup f2 = some ⟨oc2, od2, .func (PySem.W.fnOf "read_bundle" "read_bundle" (defArgs s_read_bundle) (defBody s_read_bundle) (defScope s_read_bundle) .none kV2 dc2 pm2 an2 cd2 ct2), sl2⟩) (c2 : PySem.W.codeIn K cd2 "read_bundle" = true) (k2 : PySem.W.keepIn K (.ref f2) = true)
    (a3 : PySem.W.nsIn K mainGlobals "_law_start" = some (some (.ref f3))) (l3 : K.lookup f3 = some ⟨oc3, od3, .func (PySem.W.fnOf "_law_start" "_law_start" (defArgs s_law_start) (defBody s_law_start) (defScope s_law_start) .none kV3 dc3 pm3 an3 cd3 ct3), sl3⟩) (c3 : PySem.W.codeIn K cd3 "_law_start" = true) (k3 : PySem.W.keepIn K (.ref f3) = true)
    (a4 : PySem.W.nsIn K mainGlobals "_law_draw" = some (some (.ref f4))) (l4 : K.lookup f4 = some ⟨oc4, od4, .func (PySem.W.fnOf "_law_draw" "_law_draw" (defArgs s_law_draw) (defBody s_law_draw) (defScope s_law_draw) .none kV4 dc4 pm4 an4 cd4 ct4), sl4⟩) (c4 : PySem.W.codeIn K cd4 "_law_draw" = true) (k4 : PySem.W.keepIn K (.ref f4) = true)
    (a5 : PySem.W.nsIn K mainGlobals "_law_names" = some (some (.ref f5))) (l5 : K.lookup f5 = some ⟨oc5, od5, .func (PySem.W.fnOf "_law_names" "_law_names" (defArgs s_law_names) (defBody s_law_names) (defScope s_law_names) .none kV5 dc5 pm5 an5 cd5 ct5), sl5⟩) (c5 : PySem.W.codeIn K cd5 "_law_names" = true) (k5 : PySem.W.keepIn K (.ref f5) = true)
    (a6 : PySem.W.nsIn K mainGlobals "_law_signs" = some (some (.ref f6))) (l6 : K.lookup f6 = some ⟨oc6, od6, .func (PySem.W.fnOf "_law_signs" "_law_signs" (defArgs s_law_signs) (defBody s_law_signs) (defScope s_law_signs) .none kV6 dc6 pm6 an6 cd6 ct6), sl6⟩) (c6 : PySem.W.codeIn K cd6 "_law_signs" = true) (k6 : PySem.W.keepIn K (.ref f6) = true)
    (a7 : PySem.W.nsIn K mainGlobals "_law_good" = some (some (.ref f7))) (l7 : K.lookup f7 = some ⟨oc7, od7, .func (PySem.W.fnOf "_law_good" "_law_good" (defArgs s_law_good) (defBody s_law_good) (defScope s_law_good) .none kV7 dc7 pm7 an7 cd7 ct7), sl7⟩) (c7 : PySem.W.codeIn K cd7 "_law_good" = true) (k7 : PySem.W.keepIn K (.ref f7) = true)
    (a8 : PySem.W.nsIn K mainGlobals "_law_spoiled" = some (some (.ref f8))) (l8 : K.lookup f8 = some ⟨oc8, od8, .func (PySem.W.fnOf "_law_spoiled" "_law_spoiled" (defArgs s_law_spoiled) (defBody s_law_spoiled) (defScope s_law_spoiled) .none kV8 dc8 pm8 an8 cd8 ct8), sl8⟩) (c8 : PySem.W.codeIn K cd8 "_law_spoiled" = true) (k8 : PySem.W.keepIn K (.ref f8) = true)
    (a9 : PySem.W.nsIn K mainGlobals "_law_due" = some (some (.ref f9))) (l9 : K.lookup f9 = some ⟨oc9, od9, .func (PySem.W.fnOf "_law_due" "_law_due" (defArgs s_law_due) (defBody s_law_due) (defScope s_law_due) .none kV9 dc9 pm9 an9 cd9 ct9), sl9⟩) (c9 : PySem.W.codeIn K cd9 "_law_due" = true) (k9 : PySem.W.keepIn K (.ref f9) = true)
    (a10 : PySem.W.nsIn K mainGlobals "law" = some (some (.ref f10))) (l10 : K.lookup f10 = some ⟨oc10, od10, .func (PySem.W.fnOf "law" "law" (defArgs s_law) (defBody s_law) (defScope s_law) .none kV10 dc10 pm10 an10 cd10 ct10), sl10⟩) (c10 : PySem.W.codeIn K cd10 "law" = true) (k10 : PySem.W.keepIn K (.ref f10) = true)
    (aCBundleError : PySem.W.nsIn K mainGlobals "BundleError" = some (some (.ref CBundleError)))
    (aCBadText : PySem.W.nsIn K mainGlobals "BadText" = some (some (.ref CBadText))) (xLBadText : K.lookup CBadText = some (excClassObj nmBadText qBadText CBadText NBadText bsBadText ((.ref CBundleError) :: [.type "ValueError", .type "Exception", .type "BaseException", .type "object"]) true snBadText subBadText abBadText colBadText ddBadText m0BadText m1BadText m2BadText m3BadText m5BadText "ValueError.__new__")) (saBadText : PySem.W.findIn K (.ref CBadText) "__setattr__" = some (some (.builtin "object.__setattr__"))) (gaBadText : PySem.W.findIn K (.ref CBadText) "__getattribute__" = some (some (.builtin "BaseException.__getattribute__"))) (ggBadText : PySem.W.findIn K (.ref CBadText) "__getattr__" = some none) (nbBadText : PySem.W.findIn K (.ref CBadText) "text" = some none) (iCBadText : PySem.W.findIn K (.ref CBadText) "__init__" = some (some (.ref IBadText))) (tIBadText : PySem.W.typeIn K (.ref IBadText) = some (.type "function")) (kCBadText : PySem.W.keepIn K (.ref CBadText) = true) (eCBadText : PySem.W.subIn K (.ref CBadText) (.type "BaseException") = some true) (tCBadText : PySem.W.typeIn K (.ref CBadText) = some (.type "type")) (hCBadText : PySem.W.hasDictIn K CBadText = true) (cABadText : PySem.W.findIn K (.ref CBadText) "__class__" = some (some (.builtin "object.__class__"))) (moBadText : PySem.W.mroIn K CBadText (.type "object") = some true) (lIBadText : K.lookup IBadText = some ⟨ocBadText, odBadText, .func (PySem.W.fnOf "__init__" "BadText.__init__" (defArgs s_iBadText) (defBody s_iBadText) (defScope s_iBadText) .none kVBadText dcBadText pmBadText anBadText cdBadText ctBadText), slBadText⟩) (dIBadText : PySem.W.codeIn K cdBadText "BadText.__init__" = true) (kIBadText : PySem.W.keepIn K (.ref IBadText) = true)
    (gsn : PySem.W.specialIn K (.builtin "object.__class__") "__get__" = some (some (.builtin "getset_descriptor.__get__"))) (gtk : PySem.W.takesIn K (.builtin "object.__class__") = some true)
    (wtt : PySem.W.exmOne K (.ref CBadText) (.ref CBadText) = some true)
    (wte : PySem.W.kitOne K (.ref CBadText) (.ref CBundleError) = some true)
    (z_abs : PySem.W.nsIn K mainGlobals "abs" = some none)
    (z_list : PySem.W.nsIn K mainGlobals "list" = some none)
    (z_int : PySem.W.nsIn K mainGlobals "int" = some none)
    (z_len : PySem.W.nsIn K mainGlobals "len" = some none)
    (z_all : PySem.W.nsIn K mainGlobals "all" = some none)
    (z_range : PySem.W.nsIn K mainGlobals "range" = some none)
    (z_isinstance : PySem.W.nsIn K mainGlobals "isinstance" = some none)
    (z_str : PySem.W.nsIn K mainGlobals "str" = some none)
    (z_set : PySem.W.nsIn K mainGlobals "set" = some none)
    (z_tuple : PySem.W.nsIn K mainGlobals "tuple" = some none)
    (z_sorted : PySem.W.nsIn K mainGlobals "sorted" = some none)
    (q_LETTERS : PySem.W.nsIn K mainGlobals "LETTERS" = some (some u_LETTERS)) (r_LETTERS : L2.RelV (.str LET) u_LETTERS)
    (q_DIGITS : PySem.W.nsIn K mainGlobals "DIGITS" = some (some u_DIGITS)) (r_DIGITS : L2.RelV (.str DIG) u_DIGITS)
    (q_MOST_SIGNS : PySem.W.nsIn K mainGlobals "MOST_SIGNS" = some (some u_MOST_SIGNS)) (r_MOST_SIGNS : L2.RelV (.int 6) u_MOST_SIGNS)
    (q_MOST_GOODS : PySem.W.nsIn K mainGlobals "MOST_GOODS" = some (some u_MOST_GOODS)) (r_MOST_GOODS : L2.RelV (.int 5) u_MOST_GOODS)
    (q_EMPTY_TEXT : PySem.W.nsIn K mainGlobals "EMPTY_TEXT" = some (some u_EMPTY_TEXT)) (r_EMPTY_TEXT : L2.RelV (.str "-") u_EMPTY_TEXT) :
    ∃ fd : FuncData, (∀ (s : Shared) (v : Value), BindsTo s fd ⟨[v], []⟩ [("_law_script", v)]) ∧ ∀ base : Heap, K.In base → base.Ns mainGlobals mg → FnOk l.prog w K mg base CX0 4 fa fd ["_law_script"] (sp_law K) := by
  have e := hfa.symm.trans (PySem.W.mg_of X G a10)
  cases e
  have F_valid_name := fun_mk (st := s_valid_name) l0 c0 k0
  have g_valid_name := PySem.W.mg_of X G a0
  have b_valid_name := F_valid_name.binds (ps := ["text"]) fun _ _ _ _ _ _ us hl => match us, hl with | [_], _ => rfl
  have F_bundle_text := fun_mk (st := s_bundle_text) l1 c1 k1
  have g_bundle_text := PySem.W.mg_of X G a1
  have b_bundle_text := F_bundle_text.binds (ps := ["bundle"]) fun _ _ _ _ _ _ us hl => match us, hl with | [_], _ => rfl
  have F_read_bundle := fun_mk (st := s_read_bundle) l2 c2 k2
  have g_read_bundle := PySem.W.mg_of X G a2
  have b_read_bundle := F_read_bundle.binds (ps := ["text"]) fun _ _ _ _ _ _ us hl => match us, hl with | [_], _ => rfl
  have F_law_start := fun_mk (st := s_law_start) l3 c3 k3
  have g_law_start := PySem.W.mg_of X G a3
  have b_law_start := F_law_start.binds (ps := ["_law_script"]) fun _ _ _ _ _ _ us hl => match us, hl with | [_], _ => rfl
  have F_law_draw := fun_mk (st := s_law_draw) l4 c4 k4
  have g_law_draw := PySem.W.mg_of X G a4
  have b_law_draw := F_law_draw.binds (ps := ["_law_state", "_law_size"]) fun _ _ _ _ _ _ us hl => match us, hl with | [_, _], _ => rfl
  have F_law_names := fun_mk (st := s_law_names) l5 c5 k5
  have g_law_names := PySem.W.mg_of X G a5
  have b_law_names := F_law_names.binds (ps := ["_law_state", "_law_count"]) fun _ _ _ _ _ _ us hl => match us, hl with | [_, _], _ => rfl
  have F_law_signs := fun_mk (st := s_law_signs) l6 c6 k6
  have g_law_signs := PySem.W.mg_of X G a6
  have b_law_signs := F_law_signs.binds (ps := []) fun _ _ _ _ _ _ us hl => match us, hl with | [], _ => rfl
  have F_law_good := fun_mk (st := s_law_good) l7 c7 k7
  have g_law_good := PySem.W.mg_of X G a7
  have b_law_good := F_law_good.binds (ps := ["_law_word"]) fun _ _ _ _ _ _ us hl => match us, hl with | [_], _ => rfl
  have F_law_spoiled := fun_mk (st := s_law_spoiled) l8 c8 k8
  have g_law_spoiled := PySem.W.mg_of X G a8
  have b_law_spoiled := F_law_spoiled.binds (ps := ["_law_state", "_law_word"]) fun _ _ _ _ _ _ us hl => match us, hl with | [_, _], _ => rfl
  have F_law_due := fun_mk (st := s_law_due) l9 c9 k9
  have g_law_due := PySem.W.mg_of X G a9
  have b_law_due := F_law_due.binds (ps := ["_law_word"]) fun _ _ _ _ _ _ us hl => match us, hl with | [_], _ => rfl
  have F_law := fun_mk (st := s_law) l10 c10 k10
  have g_BundleError := PySem.W.mg_of X G aCBundleError
  have O_BadText : OexC K CBadText := ⟨⟨_, _, _, _, _, _, _, _, _, _, _, _, _, _, _, xLBadText, by first | rfl | decide +kernel⟩, saBadText, eCBadText, tCBadText, kCBadText⟩
  have FI_BadText := fun_mk (st := s_iBadText) lIBadText dIBadText kIBadText
  have bI_BadText := FI_BadText.binds (ps := ["self", "text"]) fun _ _ _ _ _ _ us hl => match us, hl with | [_, _], _ => rfl
  have X_BadText : XfC K CBadText := ⟨gaBadText, ggBadText, eCBadText, hCBadText⟩
  have J_BadText : IsC K CBadText := ⟨by unfold PySem.W.clsIn; rw [xLBadText] <;> rfl, gaBadText, ⟨_, ggBadText⟩, eCBadText, cABadText, gsn, gtk, moBadText⟩
  have g_BadText := PySem.W.mg_of X G aCBadText
  have E_BadText : ∀ base : Heap, ErC l.prog w K mg base "BadText" "text" CBadText IBadText _ := fun base => ⟨O_BadText, X_BadText, J_BadText, iCBadText, tIBadText, nbBadText, g_BadText, ok_iBadText FI_BadText O_BadText nbBadText, bI_BadText⟩
  have m_abs := PySem.W.mg_none_of X G z_abs
  have m_list := PySem.W.mg_none_of X G z_list
  have m_int := PySem.W.mg_none_of X G z_int
  have m_len := PySem.W.mg_none_of X G z_len
  have m_all := PySem.W.mg_none_of X G z_all
  have m_range := PySem.W.mg_none_of X G z_range
  have m_isinstance := PySem.W.mg_none_of X G z_isinstance
  have m_str := PySem.W.mg_none_of X G z_str
  have m_set := PySem.W.mg_none_of X G z_set
  have m_tuple := PySem.W.mg_none_of X G z_tuple
  have m_sorted := PySem.W.mg_none_of X G z_sorted
  have m_LETTERS : ∃ u, mg "LETTERS" = some u ∧ L2.RelV (.str LET) u := ⟨_, PySem.W.mg_of X G q_LETTERS, r_LETTERS⟩
  have m_DIGITS : ∃ u, mg "DIGITS" = some u ∧ L2.RelV (.str DIG) u := ⟨_, PySem.W.mg_of X G q_DIGITS, r_DIGITS⟩
  have m_MOST_SIGNS : ∃ u, mg "MOST_SIGNS" = some u ∧ L2.RelV (.int 6) u := ⟨_, PySem.W.mg_of X G q_MOST_SIGNS, r_MOST_SIGNS⟩
  have m_MOST_GOODS : ∃ u, mg "MOST_GOODS" = some u ∧ L2.RelV (.int 5) u := ⟨_, PySem.W.mg_of X G q_MOST_GOODS, r_MOST_GOODS⟩
  have m_EMPTY_TEXT : ∃ u, mg "EMPTY_TEXT" = some u ∧ L2.RelV (.str "-") u := ⟨_, PySem.W.mg_of X G q_EMPTY_TEXT, r_EMPTY_TEXT⟩
  have kb_read_bundle_text : KBinds K (PySem.W.fnOf "read_bundle" "read_bundle" (defArgs s_read_bundle) (defBody s_read_bundle) (defScope s_read_bundle) .none kV2 dc2 pm2 an2 cd2 ct2) ["text"] ["text"] (fun us ws => us ++ ws) (fun us ws => us ++ ws) := ⟨fun s us ws _ hl => match us, ws, hl with
    | [], [_], _ => .of_eq rfl
    | [_], [], _ => .of_eq rfl, fun r1 r2 => r1.append r2⟩
  have kb_bundle_text_bundle : KBinds K (PySem.W.fnOf "bundle_text" "bundle_text" (defArgs s_bundle_text) (defBody s_bundle_text) (defScope s_bundle_text) .none kV1 dc1 pm1 an1 cd1 ct1) ["bundle"] ["bundle"] (fun us ws => us ++ ws) (fun us ws => us ++ ws) := ⟨fun s us ws _ hl => match us, ws, hl with
    | [], [_], _ => .of_eq rfl
    | [_], [], _ => .of_eq rfl, fun r1 r2 => r1.append r2⟩
  refine ⟨PySem.W.fnOf "law" "law" (defArgs s_law) (defBody s_law) (defScope s_law) .none kV10 dc10 pm10 an10 cd10 ct10, fun s v => .of_eq rfl, fun base _ _ => ?_⟩
  have GV : FnOk l.prog w K mg base CX0 2 _ _ ["text"] sp_vn := ok_vn F_valid_name m_len m_all m_LETTERS m_DIGITS m_MOST_SIGNS
  have GD : FnOk l.prog w K mg base CX0 1 _ _ ["_law_state", "_law_size"] sp_draw := ok_draw F_law_draw m_int m_len
  have GR : FnOk l.prog w K mg base (L2.CX l.prog w) 3 _ _ ["text"] (sp_read CBadText) := ok_read F_read_bundle (E_BadText base) F_valid_name b_valid_name g_valid_name GV m_len m_all m_set m_tuple m_sorted m_MOST_GOODS m_EMPTY_TEXT
  exact ok_law F_law X_BadText J_BadText nbBadText g_BadText g_BundleError wtt wte F_law_start b_law_start g_law_start (ok_start F_law_start m_abs m_list) F_law_draw b_law_draw g_law_draw GD F_law_names b_law_names g_law_names (ok_names F_law_names F_law_draw b_law_draw g_law_draw GD m_range m_str m_int)
    F_law_spoiled b_law_spoiled g_law_spoiled (ok_spoil F_law_spoiled F_law_draw b_law_draw g_law_draw GD F_law_signs b_law_signs g_law_signs (ok_signs F_law_signs) m_len)
    F_law_due b_law_due g_law_due (ok_ldue F_law_due F_law_good b_law_good g_law_good (ok_good F_law_good m_len) m_len m_set m_tuple m_sorted)
    F_read_bundle b_read_bundle g_read_bundle GR kb_read_bundle_text F_bundle_text b_bundle_text g_bundle_text (ok_btext F_bundle_text m_EMPTY_TEXT) kb_bundle_text_bundle m_range m_sorted m_tuple m_isinstance
end Lw
open PySem PySem.W PyProof.Rows
set_option maxHeartbeats 0 in
theorem PySem.Challenge.cw_bundlekinds_k13_bundle_texts_holds : PySem.Challenge.rw_bundlekinds_k13_bundle_texts.Holds := by
  w_on; o_law; k_head; (case hw => w_witness2)
  k_fill
  refine L2.walk_of (l := PySem.Challenge.rw_bundlekinds_k13_bundle_texts) (n := 63) (k := 4) (x := "_law_script") (CX := fun _ => L2.CX0) (sp := fun w => Lw.sp_law _) rfl (by decide) rfl ⟨rfl, by decide, by decide⟩ (fun w h Y => PySem.W.kIn_of Y) ?F (fun _ _ a ns hl _ hS => ⟨a, ns, rfl, hS, hl, fun _ => rfl⟩) (fun _ _ _ _ _ h => h)
  case F =>
    intro w mg fa h KX G hmg
    refine' Lw.all_mk KX G hmg ?a0 ?l0 ?c0 ?k0 ?a1 ?l1 ?c1 ?k1 ?a2 ?l2 ?c2 ?k2 ?a3 ?l3 ?c3 ?k3 ?a4 ?l4 ?c4 ?k4 ?a5 ?l5 ?c5 ?k5 ?a6 ?l6 ?c6 ?k6 ?a7 ?l7 ?c7 ?k7 ?a8 ?l8 ?c8 ?k8 ?a9 ?l9 ?c9 ?k9 ?a10 ?l10 ?c10 ?k10 ?aCBundleError ?aCBadText ?xLBadText ?saBadText ?gaBadText ?ggBadText ?nbBadText ?iCBadText ?tIBadText ?kCBadText ?eCBadText ?tCBadText ?hCBadText ?cABadText ?moBadText ?lIBadText ?dIBadText ?kIBadText ?gsn ?gtk ?wtt ?wte ?z_abs ?z_list ?z_int ?z_len ?z_all ?z_range ?z_isinstance ?z_str ?z_set ?z_tuple ?z_sorted ?q_LETTERS ?r_LETTERS ?q_DIGITS ?r_DIGITS ?q_MOST_SIGNS ?r_MOST_SIGNS ?q_MOST_GOODS ?r_MOST_GOODS ?q_EMPTY_TEXT ?r_EMPTY_TEXT
    (case a0 => k_is); (case l0 => k_is); (case c0 => k_is); (case k0 => k_is); (case a1 => k_is); (case l1 => k_is); (case c1 => k_is); (case k1 => k_is); (case a2 => k_is); (case l2 => k_is); (case c2 => k_is); (case k2 => k_is); (case a3 => k_is); (case l3 => k_is); (case c3 => k_is); (case k3 => k_is); (case a4 => k_is); (case l4 => k_is); (case c4 => k_is); (case k4 => k_is); (case a5 => k_is); (case l5 => k_is); (case c5 => k_is); (case k5 => k_is); (case a6 => k_is); (case l6 => k_is); (case c6 => k_is); (case k6 => k_is); (case a7 => k_is); (case l7 => k_is); (case c7 => k_is); (case k7 => k_is); (case a8 => k_is); (case l8 => k_is); (case c8 => k_is); (case k8 => k_is); (case a9 => k_is); (case l9 => k_is); (case c9 => k_is); (case k9 => k_is); (case a10 => k_is); (case l10 => k_is); (case c10 => k_is); (case k10 => k_is); (case aCBundleError => k_is); (case aCBadText => k_is); (case xLBadText => k_is); (case saBadText => k_is); (case gaBadText => k_is); (case ggBadText => k_is); (case nbBadText => k_is); (case iCBadText => k_is); (case tIBadText => k_is); (case kCBadText => k_is); (case eCBadText => k_is); (case tCBadText => k_is); (case hCBadText => k_is); (case cABadText => k_is); (case moBadText => k_is); (case lIBadText => k_is); (case dIBadText => k_is); (case kIBadText => k_is); (case gsn => k_is); (case gtk => k_is); (case wtt => first | k_is | rfl | decide +kernel); (case wte => first | k_is | rfl | decide +kernel); (case z_abs => k_is); (case z_list => k_is); (case z_int => k_is); (case z_len => k_is); (case z_all => k_is); (case z_range => k_is); (case z_isinstance => k_is); (case z_str => k_is); (case z_set => k_is); (case z_tuple => k_is); (case z_sorted => k_is); (case q_LETTERS => k_is); (case r_LETTERS => exact ⟨_, rfl⟩); (case q_DIGITS => k_is); (case r_DIGITS => exact ⟨_, rfl⟩); (case q_MOST_SIGNS => k_is); (case r_MOST_SIGNS => exact ⟨_, rfl⟩); (case q_MOST_GOODS => k_is); (case r_MOST_GOODS => exact ⟨_, rfl⟩); (case q_EMPTY_TEXT => k_is); (case r_EMPTY_TEXT => exact ⟨_, rfl⟩)
