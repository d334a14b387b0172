"""Runs the tests, each file in a process of its own, under each of the two Pythons that is there."""

import os
import pathlib
import re
import subprocess
import sys

TOP = pathlib.Path(__file__).resolve().parent.parent
SHARED = TOP.parent / "shared" / "tests"
VERSION = "import sys; print(sys.version_info[:2])"


def pythons():
    """The Python of this process, and others of the versions 3.11 and 3.13 that can be run."""
    found = {str(tuple(sys.version_info[:2])): sys.executable}
    for name in ("python3.11", "python3.13"):
        try:
            asked = subprocess.run([name, "-c", VERSION], capture_output=True, text=True)
        except OSError:
            continue
        if asked.returncode == 0:
            found.setdefault(asked.stdout.strip(), name)
    return list(found.values())


def run_file(python, path):
    """Runs the tests of a file: how many ran, how many of them did not pass, and whether all went well."""
    if TOP in path.parents:
        folder, module = TOP, ".".join(path.relative_to(TOP).with_suffix("").parts)
    else:
        folder, module = path.parent, path.stem
    print(f"{python}: {path}", flush=True)
    told = subprocess.run([python, "-B", "-m", "unittest", module], cwd=folder, text=True, stdin=subprocess.DEVNULL,
                          stdout=subprocess.PIPE, stderr=subprocess.STDOUT,
                          env={**os.environ, "PYTHONPATH": str(TOP)})
    print(told.stdout, flush=True)
    ran = sum(int(number) for number in re.findall(r"^Ran (\d+) test", told.stdout, re.MULTILINE))
    closing = re.findall(r"^FAILED \((.*)\)$", told.stdout, re.MULTILINE)
    failed = sum(int(number) for line in closing for number in re.findall(r"(?:failures|errors|successes)=(\d+)", line))
    # The code 5 tells, from 3.12 on, that a file held no test.
    well = told.returncode == 0 or (told.returncode == 5 and ran == 0)
    return ran, failed if well or failed else 1, well


def main():
    paths = sorted((TOP / "tests").rglob("test_*.py")) + sorted(SHARED.rglob("test_*.py"))
    ran, failed, well = 0, 0, True
    for python in pythons():
        for path in paths:
            more, worse, fine = run_file(python, path)
            ran, failed, well = ran + more, failed + worse, well and fine
    print(f"{max(ran - failed, 0)} passed, {failed} failed")
    return 0 if well and ran > 0 and failed == 0 else 1


sys.exit(main())
