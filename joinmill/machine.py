"""Runs the rows that were laid; joinmill.coding tells what each row is for."""

from joinmill.mill import MOST_CALLS, Mill, keep, kept


# A call that has not ended: where its process goes on behind it (None: nowhere), and its params and owns.
class OpenCall:
    def __init__(self, back, own_words):
        self.back = back
        self.own_words = own_words


class RowProcess:
    def __init__(self):
        self.at = 0
        self.row = []
        self.calls = []


class Machine(Mill):
    def __init__(self, lay, numbers, clock):
        Mill.__init__(self, [row[2] for row in lay if row[0] == "unit"], numbers, clock)
        self.lay = lay
        self.add_process(RowProcess())
        self.go_on()

    def pass_step(self):
        process = self.process_that_runs()
        process.at += 1

    def go_on(self):
        while self.ended is None:
            process = self.process_that_runs()
            row = self.lay[process.at]
            if row[0] == "step":
                return
            process.at += 1
            ROW_DOINGS[row[0]](self, process, row)

    def home_of(self, process, unit, place):
        if unit is None:
            return (process.calls[-1].own_words, place)
        return (self.words[unit], place)

    def enter(self, process, at, back):
        head = self.lay[at]
        first = len(process.row) - head[2]
        process.calls.append(OpenCall(back, process.row[first:] + [0] * head[3]))
        process.row = process.row[:first]
        process.at = at + 1


def do_unit(machine, process, row):
    process.at += row[3]


def do_number(machine, process, row):
    process.row.append(row[1])


def do_word(machine, process, row):
    process.row.append(kept(machine.home_of(process, row[1], row[2])))


def do_let(machine, process, row):
    keep(machine.home_of(process, row[1], row[2]), process.row.pop())


def do_sign(machine, process, row):
    right = process.row.pop()
    left = process.row.pop()
    process.row.append(machine.signed(row[1], left, right))


def do_call(machine, process, row):
    if len(process.calls) == MOST_CALLS:
        machine.trap("deep")
    else:
        machine.enter(process, row[1], process.at)


def do_give(machine, process, row):
    call = process.calls.pop()
    if call.back is None:
        machine.trap("none")
    else:
        process.at = call.back


def do_drop(machine, process, row):
    process.row.pop()


def do_leave(machine, process, row):
    process.row.pop()
    process.at += row[1]


def do_pass(machine, process, row):
    process.at += row[1]


def do_unless(machine, process, row):
    if process.row.pop() == 0:
        process.at += row[1]


def do_tell(machine, process, row):
    machine.told.append(process.row.pop())


def do_get(machine, process, row):
    process.row.append(machine.next_number())


def do_new(machine, process, row):
    made = RowProcess()
    machine.enter(made, row[1], None)
    process.row.append(machine.add_process(made))


def do_hand(machine, process, row):
    machine.hand(machine.home_of(process, row[1], row[2]), process.row.pop())


def do_await(machine, process, row):
    machine.wait(machine.home_of(process, row[1], row[2]), machine.home_of(process, row[3], row[4]))


def do_end(machine, process, row):
    machine.ended = ("done",)


ROW_DOINGS = {
    "unit": do_unit,
    "number": do_number,
    "word": do_word,
    "let": do_let,
    "sign": do_sign,
    "call": do_call,
    "give": do_give,
    "drop": do_drop,
    "leave": do_leave,
    "pass": do_pass,
    "unless": do_unless,
    "tell": do_tell,
    "get": do_get,
    "new": do_new,
    "hand": do_hand,
    "await": do_await,
    "end": do_end,
}
